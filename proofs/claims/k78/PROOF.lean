import PyProof.Rows.All
import Wide.All
import OpenK.AllK
import Wide.FinOn
import Lean
import PyProof.EqAt
import PyProof.EqKinds
import PyProof.TupleCall
import KE.KDictLaws
import KE.KDictList
import KE.KDictSum
import KE.KIsAll
import KE.KSortTup
import KE.KUnpack
import KE.KUnpackStar
import PyProof.AttrMissSeq
import PyProof.CallStr
import PyProof.Conv_int_bool
import PyProof.DictItems
import PyProof.DictIter
import PyProof.DictList
import PyProof.EnumFor
import PyProof.EnumMake
import PyProof.EnumStmt
import PyProof.ExcArgsOwn
import PyProof.ExcAttrAll.ValueError
import PyProof.ExcBaseAll.ValueError
import PyProof.FitsInt
import PyProof.NeKinds
import PyProof.NsDelKeeps
import PyProof.Rows.CatchOwn
import PyProof.Rows.CountFlat
import PyProof.Rows.EnumRows
import PyProof.Rows.FStr
import PyProof.Rows.SeqMore
import PyProof.Rows.SortRev
import PyProof.Rows.StrSplitJoin
import PyProof.Rows.StrWeight2
import PyProof.Rows.TupDisplay
import PyProof.RulesTry
import PyProof.SetNew
import PyProof.SetRoads
import PyProof.StationsW
import PyProof.TupleKey
import PyProof.WalkInts
import PyProof.ZipIter
import PySem.Challenge.RW_threewebs_k78_whole_walkers_behind_deeds
set_option compiler.extract_closed false
set_option genSizeOf false
set_option bootstrap.genMatcherCode false
noncomputable section
local macro_rules|`(tactic|omega)=>`(tactic|first|lia|omega +splitDisjunctions)
open List(range Perm replicate)
abbrev aa:=PySem.W.Frag
abbrev ba{α}(p w A):=PySem.wpAny (α:=α) (PySem.model p w) A
abbrev Î:=PySem.Value->PySem.Shared->Prop
abbrev Ï:=List (PySem.Addr×PySem.Addr)
abbrev Ð:=List (PySem.Addr×PySem.Obj)
abbrev Ñ:=List PySem.Str
abbrev Ò:=PySem.Str->Option PySem.Value
abbrev Ó:=List PySem.Value
abbrev Ô:=List PySem.Expr
abbrev Õ:=List PySem.Stmt
abbrev BJ:=@PySem.wpAny_bind
abbrev C:=@if_neg
abbrev BL:=@if_pos
abbrev BP:=@PySem.wpAny_pure
abbrev BR:=@decide_eq_false
abbrev BW:=@decide_eq_true
abbrev BX:=@congrArg
abbrev BZ:=@of_decide_eq_true
abbrev CG:=@Ne.symm
abbrev CJ:=@Classical.byContradiction
abbrev CK:=@PySem.wpAny_holding
abbrev CN:=@decide_eq_true_iff
abbrev CP:=@decide_eq_true_eq
abbrev CQ:=@PySem.wpAny_setState_of
abbrev CT:=@PySem.W.mg_none_of
abbrev CV:=@PySem.Heap.SameBut.update
abbrev CW:=@if_false
abbrev CZ:=@PySem.wpAny_mono
abbrev DG:=@PySem.F.plainAttrs_list
abbrev DK:=@PySem.mem_of_lookup
abbrev DN:=@PySem.wpAny_newObj_type
abbrev DP:=@PySem.boot_len
abbrev DQ:=@if_true
abbrev DR:=@PySem.wpAny_call_entry
abbrev DW:=@PySem.sizeLine_eq
abbrev DX:=@PySem.wpAny_standAt
abbrev DY:=@PySem.wpAny_setField
abbrev EY:=@PyProof.Rows.boot_sorted
abbrev FJ:=@PySem.Around.under_plainId
abbrev FN:=@PySem.codeAny_builtin
abbrev FP:=@PySem.wpAny_comprehension_free
abbrev FQ:=@PyProof.Rows.wpS_bind
abbrev FT:=@PySem.wpAny_truthy_bool
abbrev FW:=@bne_self_eq_false
abbrev FZ:=@Prod.ext
abbrev GD:=@PySem.wpAny_typeNameOfWhole_itemiter
abbrev GQ:=@PySem.wpAny_storeSet_of
abbrev GX:=@List.Pairwise.map
abbrev GZ:=@PySem.F.slot_dict_itemiterator_next
abbrev HJ:=@decide_eq_false_iff_not
abbrev HN:=@or_false
abbrev HS:=@PySem.wpAny_rule
abbrev HW:=@PyProof.Rows.F.plain_set_update_loop
abbrev HX:=@PySem.wpAny_passesOwn
abbrev HY:=@PySem.wpAny_typeNameOf_itemiter
abbrev IK:=@PySem.wpAny_of_eq
abbrev IV:=@PySem.wpAny_callSpecial?_slot
abbrev IW:=@PySem.plainId_quiet
abbrev JB:=@PySem.wpAny_setField_rec
abbrev JC:=@of_decide_eq_false
abbrev JD:=@PySem.W.cellsFrom_some
abbrev JF:=@PySem.Calls.callWith_builtin
abbrev JG:=@PyProof.Rows.wpS_pure
abbrev JH:=@PySem.wpAny_field
abbrev JK:=@PySem.codeAny_mono
abbrev JL:=@List.Perm.append_left
abbrev JM:=@PyProof.Rows.callWith_type1
abbrev JN:=@PySem.wpAny_askSetting
abbrev JQ:=@beq_iff_eq
abbrev JR:=@PySem.wpAny_isInstance
abbrev JT:=@PySem.wpAny_newList
abbrev JV:=@PySem.wpAny_setEntries_of
abbrev JW:=@PySem.PassesOwn.never
abbrev JX:=@PySem.codeAny_of_tree
abbrev JZ:=@PySem.W.KasT.kasWp_bind
abbrev KC:=@PySem.wpAny_Call_Name_kw
abbrev KD:=@PySem.tupleKind_room_in1
abbrev KH:=@PySem.wpAny_typeOf
abbrev KJ:=@PyProof.Rows.F.entry_set_update_loop
abbrev KN:=@PySem.call_meets
abbrev KQ:=@PySem.wpAny_setEpoch_of
abbrev KR:=@PySem.wpAny_pyIter_slot
abbrev KY:=@Bool.not_eq_true'
abbrev KZ:=@PySem.wpAny_isOneOf_itemiter
abbrev LC:=@List.eraseIdx_append_of_lt_length
abbrev LK:=@PyProof.Rows.boot_list
abbrev LQ:=@PySem.W.mg_of
abbrev LR:=@PySem.wpAny_attempt
abbrev MF:=@PyProof.Rows.listUpdate_at
abbrev MJ:=@beq_self_eq_true
abbrev MK:=@PySem.builtinLookup_eq_fast
abbrev MN:=@PyProof.Rows.boot_set
abbrev MP:=@PySem.F.slot_list_pop
abbrev NK:=@PySem.F.type_list_pop
abbrev NQ:=@PySem.Obj.isFreed_of_fields
abbrev NZ:=@List.eraseIdxIfInBounds_toArray
abbrev OD:=@PySem.F.args_dict_itemiterator_next_1
abbrev OJ:=@PyProof.Rows.assignInOrder_cons
abbrev PB:=@PySem.Calls.evalArgs_plain
abbrev PJ:=@PySem.strKind_is
abbrev PK:=@PyProof.Rows.listItems_at
abbrev PL:=@PyProof.Rows.wpS_forRange
abbrev PN:=@PySem.F.entry_dict_itemiterator_next
abbrev PX:=@PySem.F.slot_dict_itemiterator_iter
abbrev QB:=@PySem.entryFor_alias
abbrev QC:=@PySem.wpAny_fieldsOf
abbrev QD:=@PySem.wpAny_newTuple
abbrev QF:=@PySem.F.slot_dict_setdefault
abbrev QG:=@PySem.F.type_dict_setdefault
abbrev QJ:=@PySem.wpAny_alloc
abbrev QK:=@PyProof.Rows.seqEpoch_at
abbrev QL:=@List.lookup_append
abbrev QM:=@PySem.MeetsSeq2.wpAny_forIn_array
abbrev QS:=@List.getElem?_drop
abbrev QT:=@PySem.Obj.data_mapFields
abbrev QV:=@List.sublist_flatten_of_mem
abbrev QW:=@Nat.mod_two_eq_zero_or_one
abbrev QX:=@PySem.wpAny_pyIter_list
abbrev QZ:=@Option.isSome_map
abbrev RB:=@PySem.wpAny_dictEntries
abbrev RG:=@PySem.F.slot_set_contains
abbrev RJ:=@List.map_nil
abbrev RK:=@Nat.le_of_not_lt
abbrev RL:=@Array.getElem?_replicate
abbrev RM:=@Nat.min_eq_right
abbrev RN:=@PySem.F.slot_list_insert
abbrev RP:=@PySem.F.type_list_insert
abbrev RQ:=@List.eraseIdx_cons_succ
abbrev RT:=@List.getElem?_cons_zero
abbrev RV:=@PySem.F.plainAttrs_dict
abbrev RW:=@PySem.F.slot_list_index
abbrev RX:=@PySem.F.slot_list_count
abbrev RZ:=@PySem.F.type_list_count
abbrev SJ:=@Nat.add_sub_cancel_left
abbrev SM:=@PySem.wpAny_execs_nil
abbrev SN:=@List.of_mem_zip
abbrev SQ:=@PySem.wpAny_specialOf
abbrev SX:=@PySem.typeLookup_type
abbrev TF:=@Nat.min_eq_left
abbrev TJ:=@PySem.wpAny_dictEpoch
abbrev TQ:=@Nat.le_antisymm
abbrev TV:=@List.getElem?_set_self
abbrev TX:=@List.drop_of_length_le
abbrev TY:=@List.range_succ_eq_map
abbrev UG:=@PyProof.Rows.boot_dict
abbrev UJ:=@List.Perm.append_right
abbrev UL:=@Bool.false_and
abbrev UW:=@Bool.not_false
abbrev VB:=@List.getElem?_toArray
abbrev VD:=@PySem.F.plain_set_new
abbrev VF:=@PyProof.Rows.boot_int
abbrev VG:=@Iff.rfl
abbrev VH:=@PyProof.Rows.boot_max
abbrev VJ:=@List.getElem?_zipWith
abbrev VL:=@List.eq_nil_or_concat
abbrev VN:=@List.concat_eq_append
abbrev VP:=@Bool.true_and
abbrev VR:=@Nat.add_zero
abbrev WD:=@Nat.sub_zero
abbrev WK:=@Nat.sub_self
def Z2:2<=PySem.sizeLine:=by decide
def Z0:0<=PySem.sizeLine:=by decide
def Z1:1<=PySem.sizeLine:=by decide
def Z3:3<=PySem.sizeLine:=by decide
set_option Elab.async false
set_option linter.all false
set_option tactic.hygienic false
set_option maxRecDepth 100000
set_option maxHeartbeats 4000000
abbrev Aa:=@List.length_map
abbrev Ab:=@List.getElem?_eq_getElem
abbrev Ac:=@List.mem_cons_self
abbrev Ad:=@List.getElem?_eq_some_iff
abbrev Ae:=@List.mem_singleton
abbrev Af:=@List.mem_cons_of_mem
abbrev Ag:=@List.mem_map
abbrev Ah:=@List.length_append
abbrev Ai:=@List.map_append
abbrev Aj:=@List.getElem?_map
abbrev Ak:=@List.mem_cons
abbrev Al:=@List.mem_append
abbrev Am:=@PySem.Heap.get?_push_of_some
abbrev An:=@List.mem_of_getElem?
abbrev Ao:=@List.mem_filter
abbrev Ap:=@List.append_assoc
abbrev Aq:=@Nat.le_refl
abbrev Ar:=@List.mem_append_right
abbrev As:=@List.mem_append_left
abbrev At:=@List.map_congr_left
abbrev Au:=@List.length_cons
abbrev Av:=@Bool.false_ne_true
abbrev Aw:=@List.getElem?_append_left
abbrev Ax:=@PySem.Heap.lt_size
abbrev Ay:=@List.getElem?_append_right
abbrev Az:=@PySem.Heap.get?_push_size
abbrev Ba:=@Option.map_eq_some_iff
abbrev Bb:=@List.nodup_cons
abbrev Bc:=@List.size_toArray
abbrev Bd:=@List.append_nil
abbrev Be:=@List.map_cons
abbrev Bf:=@List.flatten_cons
abbrev Bg:=@List.mem_range
abbrev Bh:=@List.getElem?_eq_none
abbrev Bi:=@List.map_map
abbrev Bj:=@List.nodup_append
abbrev Bk:=@Bool.false_eq_true
abbrev Bm:=@List.length_take
abbrev Bn:=@List.take_length
abbrev Bo:=@List.count_pos_iff
abbrev Bp:=@List.getElem?_of_mem
abbrev Bq:=@List.getElem_mem
abbrev Br:=@Nat.lt_of_lt_of_le
abbrev Bs:=@List.pairwise_iff_getElem
abbrev Bt:=@Int.toNat_natCast
abbrev Bu:=@List.contains_iff_mem
abbrev Bv:=@List.mem_iff_getElem
abbrev Bw:=@Nat.ne_of_lt
abbrev Bx:=@Bool.and_eq_true
abbrev By:=@Nat.zero_le
abbrev Bz:=@Nat.lt_succ_of_lt
abbrev Ca:=@Nat.mod_eq_of_lt
abbrev Cb:=@Array.length_toList
abbrev Cc:=@Array.getElem?_toList
abbrev Cd:=@Nat.le_trans
abbrev Ce:=@Int.emod_nonneg
abbrev Cf:=@List.filter_append
abbrev Cg:=@List.nodup_iff_pairwise_ne
abbrev Ch:=@List.mem_flatten
abbrev Ci:=@List.length_eq_zero_iff
abbrev Cj:=@Int.emod_lt_of_pos
abbrev Ck:=@List.take_add_one
abbrev Cm:=@List.flatMap_cons
abbrev Cn:=@List.filter_cons
abbrev Co:=@List.nodup_nil
abbrev Cp:=@List.getElem_map
abbrev Cq:=@List.perm_append_comm
abbrev Cr:=@PySem.Heap.get?_update_other
abbrev Cs:=@List.not_mem_nil
abbrev Ct:=@Bool.eq_iff_iff
abbrev Cu:=@List.range_succ
abbrev Cv:=@Nat.le_of_lt
abbrev Cw:=@List.length_range
abbrev Cy:=@List.length_drop
abbrev Cz:=@List.pairwise_cons
abbrev Da:=@List.take_append_drop
abbrev Db:=@List.length_filter_le
abbrev Dc:=@List.getElem?_range
abbrev Dd:=@List.mem_flatMap
abbrev De:=@Nat.ne_of_gt
abbrev Dg:=@List.take_of_length_le
abbrev Dh:=@List.length_singleton
abbrev Di:=@List.flatMap_append
abbrev Dj:=@List.count_cons
abbrev Dk:=@List.perm_ext_iff_of_nodup
abbrev Dl:=@Nat.lt_irrefl
abbrev Dm:=@List.length_eraseIdx
abbrev Do:=@List.append_of_mem
abbrev Dq:=@List.foldl_cons
abbrev Dr:=@PySem.Heap.size_push
abbrev Ds:=@List.length_pos_iff
abbrev Du:=@PySem.Heap.get?_update_self
abbrev Dv:=@Nat.lt_or_ge
abbrev Dw:=@List.count_append
abbrev Dx:=@Array.getElem?_eq_getElem
abbrev Dy:=@List.exists_mem_of_ne_nil
abbrev Dz:=@List.ext_getElem?
abbrev Eb:=@List.getElem?_take_of_lt
abbrev Ec:=@Nat.mod_self
abbrev Ed:=@Int.zero_add
abbrev Ee:=@List.getElem_range
abbrev Ef:=@List.lookup_cons
abbrev Eh:=@List.getElem?_cons_succ
abbrev Ej:=@Array.getD_eq_getD_getElem?
abbrev Ek:=@List.append_eq_nil_iff
abbrev El:=@List.filter_eq_nil_iff
abbrev Em:=@List.flatten_append
abbrev Ep:=@Nat.not_lt_zero
abbrev Er:=@List.cons_append
abbrev Es:=@Nat.zero_add
abbrev Eu:=@Bool.not_true
abbrev Ex:=@List.length_erase_of_mem
abbrev Ey:=@List.count_eq_zero_of_not_mem
abbrev Ez:=@List.pairwise_map
abbrev Fa:=@List.filter_cons_of_neg
abbrev Fb:=@List.filterMap_cons
abbrev Fc:=@List.filter_eq_self
abbrev Fd:=@Array.getElem?_eq_none
abbrev Fe:=@List.length_pos_of_mem
abbrev Ff:=@List.sum_cons
abbrev Fg:=@List.getElem_inj
abbrev Fh:=@List.all_eq_true
abbrev Fi:=@List.nodup_range
abbrev Fj:=@List.length_nil
abbrev Fk:=@List.forIn_cons
abbrev Fm:=@Nat.le_succ
abbrev Fn:=@Nat.le_of_succ_le
abbrev Fo:=@Bool.eq_false_iff
abbrev Fp:=@List.mem_erase_of_ne
abbrev Fq:=@Nat.lt_trichotomy
abbrev Fr:=@Option.isSome_iff_exists
abbrev Fs:=@List.mem_of_mem_eraseIdx
abbrev Ft:=@List.getElem?_replicate
abbrev Fu:=@List.ext_getElem
abbrev Fv:=@Bool.xor_false
abbrev Fw:=@List.filter_cons_of_pos
abbrev Fx:=@Nat.one_pos
abbrev Fy:=@List.getElem?_eraseIdx
abbrev Fz:=@List.find?_cons
abbrev Ga:=@List.nil_append
abbrev Gb:=@Bool.xor_self
abbrev Gc:=@List.length_replicate
abbrev Gd:=@List.mem_zipIdx_iff_le_and_getElem?_sub
abbrev Ge:=@List.getElem?_modify
abbrev Gf:=@Bool.false_xor
abbrev Gg:=@Array.getElem?_eq_some_iff
abbrev Gh:=@Nat.lt_succ_self
abbrev Gi:=@List.perm_middle
abbrev Gj:=@List.drop_eq_getElem_cons
abbrev Gk:=@List.any_cons
abbrev Gm:=@Nat.lt_succ_iff_lt_or_eq
abbrev Gn:=@Bool.and_comm
abbrev Go:=@List.mem_filterMap
abbrev Gp:=@List.find?_eq_none
abbrev Gq:=@Nat.lt_of_le_of_lt
abbrev Gr:=@Nat.lt_of_le_of_ne
abbrev Gs:=@List.pairwise_singleton
abbrev Gu:=@Nat.succ_pos
abbrev Gv:=@List.lt_irrefl
abbrev Gw:=@List.filter_congr
abbrev Gx:=@Nat.zero_lt_of_lt
abbrev Gy:=@List.any_eq_true
abbrev Gz:=@List.isEmpty_nil
abbrev Hc:=@List.mem_reverse
abbrev He:=@List.lt_trans
abbrev Hf:=@List.le_iff_lt_or_eq
abbrev Hg:=@List.nodup_iff_count
abbrev Hh:=@Option.map_some
abbrev Hi:=@List.find?_some
abbrev Hj:=@List.filter_sublist
abbrev Hk:=@List.getElem_of_mem
abbrev Hl:=@Bool.and_false
abbrev Hm:=@Nat.mod_lt
abbrev Hn:=@List.all_cons
namespace L2
open PySem PySem.Spec PyProof.Rows
abbrev Key:=Sum Int Str
def v6:Key->Value->Bool
 |.inl k,v=>Value.isInt k v
 |.inr x,v=>Value.isStrOf x v
def J1(w:World):Key->Int
 |.inl k=>hashInt k
 |.inr x=>hashStr w x
theorem po:∀{k}{v},v6 k v=true->(∃i t,k=Sum.inl i/\v=Value.int i t)\/(∃x t,k=Sum.inr x/\v=Value.str x t)
 |.inl i,v,h=>by
  obtain⟨t,e⟩:=Value.isInt_shape h;exact .inl ⟨i,t,rfl,e⟩
 |.inr x,v,h=>by
  obtain⟨t,e⟩:=Value.isStrOf_shape h;exact .inr ⟨x,t,rfl,e⟩
def yR(i:Int)(t:Tok):v6 (.inl i) (.int i t)=true:=by simp[v6,Value.isInt]
def q2a(x:Str)(t:Tok):v6 (.inr x) (.str x t)=true:=by simp[v6,Value.isStrOf]
def y3(a b:Int):decide ((Sum.inl a:Key)=Sum.inl b)=(a == b):=by
 by_cases e:a=b
 ·subst e;simp
 ·rw[BR (λq=>e<|Sum.inl.inj q)];exact(beq_eq_false_iff_ne.mpr e).symm
def wh(a b:Str):decide ((Sum.inr a:Key)=Sum.inr b)=decide (a=b):=by
 by_cases e:a=b
 ·subst e;simp
 ·rw[BR (λq=>e<|Sum.inr.inj q),BR e]
def x2t(a:Int)(b:Str):decide ((Sum.inl a:Key)=Sum.inr b)=false:=BR λq=>nomatch q
def Ug(a:Str)(b:Int):decide ((Sum.inr a:Key)=Sum.inl b)=false:=BR λq=>nomatch q
def eV(prog:Program)(w:World):PySem.KeyKind prog w Key where
 is:=v6
 hash:=J1 w
 inj:=λv a b ha hb=>by
  obtain⟨i,t,rfl,rfl⟩|⟨x,t,rfl,rfl⟩:=po ha
  ·obtain⟨j,u,rfl,e⟩|⟨y,u,rfl,e⟩:=po hb
   ·injection e with e1 _;rw[e1]
   ·exact nomatch e
  ·obtain⟨j,u,rfl,e⟩|⟨y,u,rfl,e⟩:=po hb
   ·exact nomatch e
   ·injection e with e1 _;rw[e1]
 byValue:=λk v h=>by
  obtain⟨i,t,rfl,rfl⟩|⟨x,t,rfl,rfl⟩:=po h<;>rfl
 pyHash:=λhv h=>by
  obtain⟨i,t,rfl,rfl⟩|⟨x,t,rfl,rfl⟩:=po hv
  ·exact wpAny_pyHash_int h
  ·exact wpAny_pyHash_str h
 eqBool:=λhu hv h=>by
  obtain⟨i,t,rfl,rfl⟩|⟨x,t,rfl,rfl⟩:=po hu
  ·obtain⟨j,u,rfl,rfl⟩|⟨y,u,rfl,rfl⟩:=po hv
   ·rw[y3]at h;exact wpAny_eqBool_int h
   ·rw[x2t]at h;exact SeqAt.EqAt.int_str i t y u _ _ _ _ h
  ·obtain⟨j,u,rfl,rfl⟩|⟨y,u,rfl,rfl⟩:=po hv
   ·rw[Ug]at h;exact SeqAt.EqAt.str_int x t j u _ _ _ _ h
   ·rw[wh]at h;exact wpAny_eqBool_str h
 «strs»:=λk x t v h=>by
  obtain⟨i,u,rfl,e⟩|⟨y,u,rfl,e⟩:=po h
  ·exact nomatch e
  ·injection e with e1 _
   subst e1;cases v<;>rfl
def PD(prog:Program)(w:World)(i:Int)(t:Tok):(eV prog w).is (.inl i) (.int i t)=true:=yR i t
def vr(prog:Program)(w:World)(x:Str)(t:Tok):(eV prog w).is (.inr x) (.str x t)=true:=q2a x t
inductive V where
 |non|bl (b:Bool)|int (i:Int)|str (x:Str)|lE (b:Array UInt8)|J2 (b:UInt64)|ref (a:Addr)|ty (n:String)
 deriving DecidableEq
def br:V->Value->Prop
 |.non,u=>u=Value.none
 |.bl b,u=>u=Value.bool b
 |.int i,u=>∃t,u=Value.int i t
 |.str x,u=>∃t,u=Value.str x t
 |.lE b,u=>∃t,u=Value.bytes b t
 |.J2 b,u=>∃t,u=Value.float b t
 |.ref a,u=>u=Value.ref a
 |.ty n,u=>u=Value.type n
abbrev aC:List V->Ó->Prop:=Paired br
def aC.length(r:aC xs us):xs.length=us.length:=Paired.length r
theorem aC.get:∀{xs:List V}{us:Ó}{i:Nat}{x:V},aC xs us->xs[i]?=some x->∃u,us[i]?=some u/\br x u
 |_,_,_,_,.nil,e=>by simp at e
 |_,_,0,_,.cons r _,e=>by simp at e;subst e;exact⟨_,rfl,r⟩
 |_,_,i+1,x,.cons _ t,e=>by
  obtain⟨u,a,b⟩:=aC.get t (by simpa using e);exact⟨u,by simpa using a,b⟩
theorem aC.set(r:br x u):∀{xs}{us}i,aC xs us->aC (xs.set i x) (us.set i u)
 |_,_,_,.nil=> .nil
 |_,_,0,.cons _ t=> .cons r t
 |_,_,i+1,.cons q t=> .cons q<|aC.set r i t
theorem aC.append:∀{xs ys}{us ws},aC xs us->aC ys ws->aC (xs++ys) (us++ws)
 |_,_,_,_,.nil,s=>s
 |_,_,_,_,.cons r t,s=> .cons r<|aC.append t s
theorem aC.take:∀{xs}{us}n,aC xs us->aC (xs.take n) (us.take n)
 |_,_,0,_=> .nil
 |_,_,_+1,.nil=> .nil
 |_,_,n+1,.cons r t=> .cons r<|aC.take n t
theorem aC.drop:∀{xs}{us}n,aC xs us->aC (xs.drop n) (us.drop n)
 |_,_,0,r=>r
 |_,_,_+1,.nil=> .nil
 |_,_,n+1,.cons _ t=>aC.drop n t
def gN:Option V->Option Value->Prop
 |some v,some u=>br v u
 |none,none=>True
 |_,_=>False
def KV:List (κ×V)->List (κ×Value)->Prop:=Paired λp q=>p.1=q.1/\br p.2 q.2
def kV:Key->V
 |.inl i=> .int i
 |.inr x=> .str x
inductive HO where
 |lst (xs:List V)
 |tup (xs:List V)
 |dK (kvs:List<|Key×V)|dT (kvs:List<|List Key×V)
 |set (S:Int->Bool) (n:Nat)
 |ins (C dx:Addr) (fs:List<|Str×V)
 |own (x:Addr)
 |xd (fs:List<|Str×V)
 |met (f x:Addr)
 |DU (lo hi:Int)
 |dX (o:Obj) (u:HO)
 |rF (ps:Array Value)
 |ext (φ:Heap->Prop)
abbrev Hp:=Addr->Option HO
def upd(H:Hp)(a:Addr)(o:HO):Hp:=λb=>if b=a then some o else H b
def ay:upd H a o a=some o:=by rw[upd,BL rfl]
def ax(h:b≠a):upd H a o b=H b:=by rw[upd,C h]
def pY:upd (upd H a o) a u=upd H a u:=by
 funext b;unfold upd;split<;>rfl
def cm{H:Hp}(h:H a=some o)(h':H b=some u)(d:o≠u):a≠b:=by
 intro e;subst e;rw[h]at h';exact d<|Option.some.inj h'
def bz{H:Hp}(h:H a=some o)(h':H b=none):a≠b:=by
 intro e;subst e;rw[h]at h';cases h'
section
variable(P:Program)(w:World)
def aI(H:Hp)(h:Heap)(a:Addr):HO->Prop
 |.lst xs=>xs.length<=sizeLine/\∃c n,aC xs c/\h.get? a=some {cls:= .type "list",data:= .seq c.toArray n}
 |.tup xs=>xs.length<=sizeLine/\∃c:Ó,aC xs c/\IsTup h a c.toArray
 |.dK kvs=>kvs.length<=sizeLine/\(a == sysModules)=false/\∃k,KV kvs k/\h.DictOf (eV P w) a k
 |.dT kvs=>kvs.length<=sizeLine/\(a == sysModules)=false/\∃xs:List<|List Key×Addr×Value,
   Paired (λp q=>p.1=q.1/\H q.2.1=some (.tup<|p.1.map kV)/\br p.2 q.2.2) kvs xs /\
   ∃o l s,h.get? a=some o/\o.ExactDict/\o.data=.dict l s/\l.toList=xs.map (entryOfKey<|tupleKind<|eV P w)/\(xs.map (·.1)).Nodup
 |.set S n=>h.SetOf (intKind P w) a S n
 |.ins b i e=>H i=some (.own a)/\e.length<=1000/\i≠a/\h.get? a=some (PySem.W.instObj b i) /\
   ∃d,h.Ns1 i d/\(∀f,gN (e.lookup f)<|d f)/\PySem.Within d (e.map (·.1))
 |.own _=>∃o,h.get? a=some o
 |.xd e=>∃d,h.Ns1 a d/\∀f,gN (e.lookup f)<|d f
 |.DU lo y=>∃t u v,h.get? a=some {cls:= .type "range",data:= .fields #[.int lo t,.int y u,.int 1 v]}
 |.dX o u=>h.get? a=some o/\aI H h a u
 |.rF ps=>h.get? a=some {cls:= .none,data:= .fields ps}
 |.met f x=>h.get? a=some (PySem.W.methodObj (.ref f)<|.ref x)
 |.ext j=>j h/\(∃o,h.get? a=some o)/\∀m r:Heap,j m->(∀o,m.get? a=some o->r.get? a=some o)->j r
def cG(H:Hp)(h:Heap):Prop:=∀a o,H a=some o->aI P w H h a o
end
section
variable{P:Program}{w:World}{H:Hp}{h:Heap}{a:Addr}{o:HO}
theorem aI.lt(x:aI P w H h a o):a<h.objs.size:=by
 cases o with
 |lst xs=>obtain⟨_,_,_,_,e⟩:=x;exact Ax e
 |tup xs=>obtain⟨_,_,_,p⟩:=x;exact p.lt
 |dK kvs=>obtain⟨_,_,_,_,o,_,_,e,_⟩:=x;exact Ax e
 |dT kvs=>obtain⟨_,_,_,_,o,_,_,e,_⟩:=x;exact Ax e
 |set S n=>obtain⟨o,_,_,_,e,_⟩:=x;exact Ax e
 |ins b d c=>obtain⟨_,_,_,e,_⟩:=x;exact Ax e
 |own y=>obtain⟨_,e⟩:=x;exact Ax e
 |xd c=>obtain⟨_,⟨_,_,_,e,_⟩,_⟩:=x;exact Ax e
 |DU lo i=>obtain⟨_,_,_,e⟩:=x;exact Ax e
 |dX j u=>obtain⟨e,_⟩:=x;exact Ax e
 |rF ps=>exact Ax (show h.get? a=some _ from x)
 |met f y=>exact Ax (show h.get? a=some _ from x)
 |ext k=>obtain⟨_,⟨_,e⟩,_⟩:=x;exact Ax e
end
theorem Paired.tN:∀{l₁:List α}{c:List d},Paired F l₁ c->(∀a b,F a b->G a b)->Paired G l₁ c
 |_,_,.nil,_=> .nil
 |_,_,.cons r t,f=> .cons (f _ _ r)<|Paired.tN t f
theorem aI.jX(x:aI P w H h a o)(k:∀b u,(b=a\/H b=some (.own a))->h.get? b=some u->h'.get? b=some u)
  (D:∀b,H b=some (.own a)->H' b=some (.own a)) (E:∀b xs,H b=some (.tup xs)->H' b=some (.tup xs)):aI P w H' h' a o:=by
 induction o with
 |lst xs=>obtain⟨z,s,n,r,e⟩:=x;exact⟨z,s,n,r,k _ _ (.inl rfl) e⟩
 |tup xs=>obtain⟨z,s,r,j,e,c⟩:=x;exact⟨z,s,r,j,k _ _ (.inl rfl) e,c⟩
 |dK kvs=>obtain⟨z,y,G,r,j,l,m,e,c⟩:=x;exact⟨z,y,G,r,j,l,m,k _ _ (.inl rfl) e,c⟩
 |dT kvs=>
  obtain⟨z,y,xs,r,j,l,m,e,c⟩:=x;exact⟨z,y,xs,Paired.tN r λp q z=>⟨z.1,E _ _ z.2.1,z.2.2⟩,j,l,m,k _ _ (.inl rfl) e,c⟩
 |set S n=>obtain⟨j,l,m,t,e,c⟩:=x;exact⟨j,l,m,t,k _ _ (.inl rfl) e,c⟩
 |ins i M I=>
  obtain⟨d,z,ne,e,A,⟨B,l,m,J,c⟩,r⟩:=x;exact⟨D _ d,z,ne,k _ _ (.inl rfl) e,A,⟨B,l,m,k _ _ (.inr d) J,c⟩,r⟩
 |own y=>obtain⟨j,e⟩:=x;exact⟨j,k _ _ (.inl rfl) e⟩
 |xd I=>obtain⟨A,⟨B,l,m,e,c⟩,r⟩:=x;exact⟨A,⟨B,l,m,k _ _ (.inl rfl) e,c⟩,r⟩
 |DU lo N=>obtain⟨t,u,v,e⟩:=x;exact⟨t,u,v,k _ _ (.inl rfl) e⟩
 |dX j u L=>obtain⟨e,q⟩:=x;exact⟨k _ _ (.inl rfl) e,L q⟩
 |rF ps=>
  have e:=x;exact k a _ (.inl rfl) e
 |met f y=>
  have e:=x;exact k a _ (.inl rfl) e
 |ext O=>obtain⟨p,⟨o,e⟩,st⟩:=x;exact⟨st _ _ p λo q=>k _ _ (.inl rfl) q,⟨o,k _ _ (.inl rfl) e⟩,st⟩
section
variable{P:Program}{w:World}{H:Hp}{h:Heap}{a:Addr}{o:HO}
def cG.lt(x:cG P w H h)(e:H a=some o):a<h.objs.size:=(x a o e).lt
end
theorem cG.fresh(x:cG P w H h)(e:h.objs.size<=a):H a=none:=by
 cases q:H a with
 |none=>rfl
 |some u=>exact absurd (Br (x.lt q) e)<|Dl _
def cG.kept(x:cG P w H h)(k:∀b u,h.get? b=some u->h'.get? b=some u):cG P w H h':=λa o e=>
 (x a o e).jX (λb u _ q=>k b u q) (λ_ q=>q) λ_ _ q=>q
def cG.laid(x:cG P w H h)(k:∀b u,h.get? b=some u->h'.get? b=some u)(i:h.objs.size<=a)(new:aI P w (upd H a o) h' a o):cG P w (upd H a o) h':=λb u e=>by
 have d:=x.fresh i
 by_cases f:b=a
 ·subst f;rw[ay]at e;cases e;exact new
 ·rw[ax f]at e;exact(x b u e).jX (λc v _ q=>k c v q) (λc q=>by rwa[ax<|bz q d]) λc xs q=>by rwa[ax<|bz q d]
def Rd(H:Hp)(a:Addr)(u:HO):Prop:=H a=some u\/∃o,H a=some (.dX o u)
def Rd.ok(r:Rd H a u)(x:cG P w H h):aI P w H h a u:=by
 obtain r|⟨o,r⟩:=r
 ·exact x a u r
 ·obtain⟨_,q⟩:=x a _ r;exact q
def xQ:Option HO->Prop
 |some (.lst _)=>True
 |some (.dK _)=>True
 |some (.dT _)=>True
 |some (.set _ _)=>True
 |some (.ins _ _ _)=>True
 |some (.ext _)=>True
 |_=>False
def cG.write(ok:cG P w H h)(i:xQ<|H x)(j:e=x\/H e=some (.own x))(k:∀b u,b≠e->h.get? b=some u->h'.get? b=some u)(o:∃u,h'.get? e=some u)
  (new:aI P w (upd H x l) h' x l):cG P w (upd H x l) h':=λb u q=>by
 have m:∀c y,H c=some (.own y)->c≠x:=λc y r z=>by subst z;rwa[r]at i
 have p:∀c xs,H c=some (.tup xs)->c≠x:=λc xs r z=>by subst z;rwa[r]at i
 by_cases a:b=x
 ·subst a;rw[ay]at q;cases q;exact new
 ·rw[ax a]at q
  by_cases d:b=e
  ·have n:H b=some (.own x):=by
    obtain z|z:=j
    ·cases a (d.trans z)
    ·rwa[d]
   rw[q]at n;cases n;obtain⟨v,s⟩:=o;exact⟨v,by rwa[d]⟩
  ·refine(ok b u q).jX (λc v f r=>k c v ?_ r) (λc r=>by rwa[ax<|m c b r]) λc xs r=>by rwa[ax<|p c xs r]
   obtain rfl|f:=f
   ·exact d
   ·rintro rfl
    obtain z|z:=j
    ·exact m c b f z
    ·rw[f]at z;cases z;exact a rfl
structure Un(fs ex:List Addr)(H H':Hp)(h h':Heap):Prop where
 keep:∀b o,h.get? b=some o->H b=none->b∉fs->b∉ex->h'.get? b=some o
 slot:∀b o,h.get? b=some o->H b=none->b∈fs->b∉ex->∃sl,h'.get? b=some {o with slots:=sl}
 free:∀b o,h.get? b=some o->H b=none->b∉ex->H' b=none
 there:∀b o,h.get? b=some o->b∉ex->∃o',h'.get? b=some o'
 hU:∀b xs,H b=some (.tup xs)->H' b=some (.tup xs)
 gO:∀b o u,H b=some (.dX o u)->H' b=some (.dX o u)
 hV:∀b ps,H b=some (.rF ps)->∃more,H' b=some (.rF<|ps++more)
def Un.any(u:Un e ex H j h f)(q:h.get? b=some a)(n:H b=none)(c:b∉ex):∃i,f.get? b=some {a with slots:=i}:=by
 by_cases d:b∈e
 ·exact u.slot b a q n d c
 ·exact⟨a.slots,u.keep b a q n d c⟩
def Un.kept(k:∀b u,h.get? b=some u->h'.get? b=some u):Un c ex H H h h':=
 ⟨λb a q _ _ _=>k b a q,λb a q _ _ _=>⟨a.slots,k b a q⟩,λ_ _ _ n _=>n,λb a q _=>⟨a,k b a q⟩,λ_ _ q=>q,λ_ _ _ q=>q,λ_ ps q=>⟨#[],by rw[q];simp⟩⟩
def Un.refl:Un a ex H H h h:=Un.kept λ_ _ q=>q
def Un.laid(k:∀b u,h.get? b=some u->h'.get? b=some u)(hp:h.objs.size<=a)(hn:H a=none):Un fs ex H (upd H a o) h h' where
 keep:=λb u q _ _ _=>k b u q
 slot:=λb u q _ _ _=>⟨u.slots,k b u q⟩
 free:=λb u q n _=>by rwa[ax<|Bw<|Br (Ax q) hp]
 there:=λb u q _=>⟨u,k b u q⟩
 hU:=λb xs q=>by rwa[ax<|bz q hn]
 gO:=λb u xs q=>by rwa[ax<|bz q hn]
 hV:=λb ps q=>⟨#[],by rw[ax<|bz q hn,q];simp⟩
def Un.write(a:xQ<|H x)(j:e=x\/H e=some (.own x))(k:∀b u,b≠e->h.get? b=some u->h'.get? b=some u)(l:∃u,h'.get? e=some u):Un m ex H (upd H x o) h h':=by
 have d:∀b,H b=none->b≠x:=λb n z=>by subst z;rwa[n]at a
 have f:∀b,H b=none->b≠e:=λb n z=>by
  subst z
  obtain r|r:=j
  ·exact d b n r
  ·rw[n]at r;cases r
 have c:∀b u,H b=some u->¬ xQ (some u)->b≠x:=λb u q nm z=>by subst z;rw[q]at a;exact nm a
 refine⟨λb u q n _ _=>k b u (f b n) q,λb u q n _ _=>⟨u.slots,k b u (f b n) q⟩,λb u q n _=>by rwa[ax<|d b n],λb u q _=>?_,
  λb xs q=>by rwa[ax<|c b _ q λz=>z],λb u xs q=>by rwa[ax<|c b _ q λz=>z],λb ps q=>⟨#[],by rw[ax<|c b _ q λz=>z,q];simp⟩⟩
 by_cases i:b=e
 ·subst i;exact l
 ·exact⟨u,k b u i q⟩
def DV(h:Heap)(H:Hp):List Addr:=(range h.objs.size).filter λa=>(H a).isSome
def ic(h:Heap)(H:Hp):Heap:=PySem.W.hideAll h<|DV h H
def k8a(h:Heap)(H:Hp):(ic h H).objs.size=h.objs.size:=PySem.W.hideAll_size _ _
def BK(e:h.get? b=some o)(n:H b=none):(ic h H).get? b=some o:=
 PySem.W.hideAll_get _ e λa=>by
  have q:=(Ao.mp a).2;rw[n]at q;simp at q
theorem q7q(e:(ic h H).get? b=some o):h.get? b=some o/\H b=none:=by
 have a:=PySem.W.of_hideAll (DV h H) e;refine⟨a,?_⟩;cases q:H b with
 |none=>rfl
 |some x=>
  have z:(ic h H).get? b=none:=PySem.W.hideAll_none (DV h H) (Ao.mpr ⟨Bg.mpr<|Ax a,by simp[q]⟩);rw[z]at e;cases e
structure AD(K:aa)(mg:Ò)(base:Heap):Prop where
 xS:K.In base
 glob:base.Ns mainGlobals mg
 blt:∃mb,base.Ns builtinsNs mb/\∀x:Str,x ≠ "__name__"->mb x=bootBuiltins x
 nolimit:base.NoLimit
structure Cx where
 prog:Program
 w:World
 K:aa
 mg:Ò
 base:Heap
 A:Around
 N:Ñ
 s₀:Shared
 H₀:Hp
 env:Env
 outer:List Env
 stack:List Env
 ex:List Addr
 fn:Str->Bool
 calm:Bool
 pn:List<|Addr×Obj
 xe:Î
abbrev ar{α}(X:Cx):=wpAny (α:=α) (model X.prog X.w) X.A
def gP(l:List Env):List Addr:=l.filterMap (·.frame)
abbrev Cx.fs(X:Cx):List Addr:=gP X.outer
def DZ(a:Scope)(x:Str):Prop:=a.names.lookup x=some .local\/a.names.lookup x=some .cell\/a.names.lookup x=some .free
def xp(a:Scope)(x:Str):Prop:=a.names.lookup x=some .local\/a.names.lookup x=some .cell
def AS(env:Env)(h:Heap)(m:Ò)(x:Str)(u:Value):Prop:=
 (env.kindOf x=some .local/\m x=some u)\/((env.kindOf x=some .cell\/env.kindOf x=some .free)/\∃c,env.cells.lookup x=some c/\h.IsCell c (some u))
structure Cx.Ok(X:Cx):Prop where
 mod:AD X.K X.mg X.base
 kind:X.env.scope.kind=.function
 glob:X.env.globals=mainGlobals
 blt:X.env.builtins=builtinsNs
 above:X.s₀.heap.objs.size<=X.env.locals
 inj:∀x y c,X.env.cells.lookup x=some c->X.env.cells.lookup y=some c->x=y
 has:∀x,(X.env.kindOf x=some .cell\/X.env.kindOf x=some .free)->∃c,X.env.cells.lookup x=some c
 xT:∀x c,X.fn x=true->X.env.cells.lookup x=some c->X.s₀.heap.objs.size<=c
 hd:X.calm=true->X.A.handled=none
 frames:X.A.frames=some X.stack
 D0:X.stack=X.outer\/(X.stack=X.env :: X.outer/\X.env.frame=some X.env.locals)
 SY:∀b∈X.ex,b≠X.env.locals/\∀x c,X.env.cells.lookup x=some c->c≠b
 bs:∀b o,X.base.get? b=some o->X.s₀.heap.get? b=some o/\X.H₀ b=none
 rG:X.base.objs.size<=X.s₀.heap.objs.size
 m5:∀b o,X.base.get? b=some o->b∉X.ex
 p8:∀b∈X.ex,b∉X.fs
 fN:X.s₀.heap.FunFrames X.base X.outer
 v8:∀b∈X.fs,X.H₀ b=none
structure be(X:Cx)(pins:Ð)(σ:List<|Option V)(H:Hp)(s:Shared):Prop where
 ok:X.Ok
 os:s.os=X.s₀.os
 bare:AllBare s.gens
 base:Un X.fs X.ex X.H₀ H X.s₀.heap s.heap
 loc:∃m,s.heap.Ns X.env.locals m/\∀(i:Nat)(x:Str)(v:V),X.N[i]?=some x->σ[i]?=some (some v)->DZ X.env.scope x->∃u,br v u/\AS X.env s.heap m x u
 cell:∀x c,X.env.cells.lookup x=some c->∃v,s.heap.IsCell c v
 free:H X.env.locals=none
 cH:∀x c,X.env.cells.lookup x=some c->H c=none
 pin:∀p∈X.pn++pins,s.heap.get? p.1=some p.2/\H p.1=none/\p.1≠X.env.locals/\p.1∉X.fs/\∀v,p.2.data ≠ .cell v
 aP:cG X.prog X.w H s.heap
 len:σ.length=X.N.length
def Cx.Ok.J5{X:Cx}(ok:X.Ok)(e:X.base.get? b=some o):b∉X.fs:=λa=>by
 have:=(ok.fN.mem a).1;rw[e]at this;cases this
section
variable{X:Cx}{pins:Ð}{σ:List (Option V)}{H:Hp}{s:Shared}
def be.bs(I:be X pins σ H s):∀b o,X.base.get? b=some o->s.heap.get? b=some o/\H b=none:=λb o e=>
 ⟨I.base.keep b o (I.ok.bs b o e).1 (I.ok.bs b o e).2 (I.ok.J5 e)<|I.ok.m5 b o e,I.base.free b o (I.ok.bs b o e).1 (I.ok.bs b o e).2<|I.ok.m5 b o e⟩
end
def be.bk(I:be X a c H s):∀b o,X.base.get? b=some o->s.heap.get? b=some o:=λb o e=>(I.bs b o e).1
section
variable{X:Cx}{pins:Ð}{σ:List (Option V)}{H:Hp}{s:Shared}
def be.mod(I:be X pins σ H s):AD X.K X.mg X.base:=I.ok.mod
end
def be.v9(I:be X a b H s):X.K.In s.heap:=I.ok.mod.xS.keeps I.bk
section
variable{X:Cx}{pins:Ð}{σ:List (Option V)}{H:Hp}{s:Shared}
def be.lt(I:be X pins σ H s):X.env.locals<s.heap.objs.size:=let ⟨_,a,_⟩:=I.loc;a.lt
end
def be.sz(I:be X a b H s):X.s₀.heap.objs.size<=s.heap.objs.size:=Cd I.ok.above<|Cv I.lt
def be.J6(I:be X b e H s)(h:s.heap.objs.size<=a):a∉X.fs:=λc=>by
 obtain⟨_,o,d,_⟩:=I.ok.fN.mem c;exact absurd (Br (Ax d)<|Cd I.sz h)<|Dl _
def be.p9(I:be X a h H s):∀x c,X.env.cells.lookup x=some c->c≠X.env.locals:=λx c e z=>by
 obtain⟨v,o,b,hd⟩:=I.cell x c e;obtain⟨m,⟨i,j,k,d,f,_⟩,_⟩:=I.loc;rw[z,d]at b;cases b;rw[f]at hd;cases hd
section
variable{X:Cx}{pins:Ð}{σ:List (Option V)}{H:Hp}{s:Shared}
def be.fN(I:be X pins σ H s):s.heap.FunFrames X.base X.outer:=by
 have all:∀l,(∀b∈gP l,b∈X.fs)->X.s₀.heap.FunFrames X.base l->s.heap.FunFrames X.base l:=by
  intro l
  induction l with
  |nil=>intro _ _;trivial
  |cons h r i=>
   intro f j;obtain⟨k,⟨L,o,a,m,n,hd⟩,p⟩:=j;have c:=f L (by rw[gP,Fb,a];exact Ac);obtain⟨q,e⟩:=I.base.slot L o n (I.ok.v8 L c) c λz=>I.ok.p8 L z c;exact⟨k,⟨L,_,a,m,e,hd⟩,i (λb d=>f b<|by rw[gP,Fb,a];exact Af _ d) p⟩
 exact all X.outer (λ_ d=>d) I.ok.fN
end
def be.stack(I:be X a d H s):s.heap.FunFrames X.base X.stack:=by
 obtain e|⟨e,b⟩:=I.ok.D0
 ·rw[e];exact I.fN
 ·rw[e];obtain⟨m,c,_⟩:=I.loc;refine .cons (by rw[I.ok.kind];decide) b c ?_ I.fN;exact Heap.get?_none_of_le<|Cd I.ok.rG I.ok.above
def be.ie(I:be X c f H s):∀b∈gP X.stack,b∈X.env.locals :: X.fs:=λb a=>by
 obtain e|⟨e,d⟩:=I.ok.D0
 ·rw[e]at a;exact Af _ a
 ·rw[e]at a;unfold gP at a;rwa[Fb,d]at a
def be.fc(I:be X c f H s):∀b∈gP X.stack,H b=none:=λb a=>by
 obtain e|a:=Ak.mp (I.ie b a)
 ·rw[e];exact I.free
 ·obtain⟨_,o,d,_⟩:=I.ok.fN.mem a;exact I.base.free b o d (I.ok.v8 b a) λz=>I.ok.p8 b z a
def be.step{ch:List Addr}(I:be X j N H s)
  (y:∀b∈ch,(b∈X.ex\/X.s₀.heap.objs.size<=b)/\b≠X.env.locals/\(∀x c,X.env.cells.lookup x=some c->c≠b)/\∀p∈X.pn++j,p.1≠b)
  (keep:∀b o,b≠X.env.locals->b∉X.fs->b∉ch->s.heap.get? b=some o->H b=none->h'.get? b=some o)
  (slot:∀b o,b≠X.env.locals->b∈X.fs->b∉ch->s.heap.get? b=some o->H b=none->∃G,h'.get? b=some {o with slots:=G}) (free:∀b o,b∉ch->s.heap.get? b=some o->H b=none->H' b=none)
  (there:∀b o,b∉ch->s.heap.get? b=some o->∃A,h'.get? b=some A)
  (hU:∀b xs,H b=some (.tup xs)->H' b=some (.tup xs)) (gO:∀b o u,H b=some (.dX o u)->H' b=some (.dX o u)) (hV:∀b ps,H b=some (.rF ps)->∃more,H' b=some (.rF<|ps++more))
  (ns:∀m,s.heap.Ns X.env.locals m->h'.Ns X.env.locals m) (O:cG X.prog X.w H' h') (Q:AllBare T):
  be X j N H' {s with heap:=h',gens:=T,drawn:=d',toks:=t'}:=by
 have SZ:∀b o,X.s₀.heap.get? b=some o->b≠X.env.locals:=λb o e=>Bw<|Br (Ax e) I.ok.above;have E:∀b o,X.s₀.heap.get? b=some o->b∉X.ex->b∉ch:=λb o e a t=>by
  obtain z|z:=(y b t).1
  ·exact a z
  ·exact absurd (Br (Ax e) z)<|Dl _
 have f:∀x c,X.env.cells.lookup x=some c->∀v,s.heap.IsCell c v->h'.IsCell c v:=λx c e v⟨o,w,hd⟩=>by
  have B:=λz=>(y c z).2.2.1 x c e rfl
  by_cases J:c∈X.fs
  ·obtain⟨G,q⟩:=slot c o (I.p9 x c e) J B w<|I.cH x c e;exact⟨_,q,hd⟩
  ·exact⟨o,keep c o (I.p9 x c e) J B w<|I.cH x c e,hd⟩
 refine⟨I.ok,I.os,Q,⟨λb o e n t a=>?_,λb o e n t a=>?_,λb o e n a=>?_,λb o e a=>?_,λb xs e=>hU b xs<|I.base.hU b xs e,λb o xs e=>gO b o xs<|I.base.gO b o xs e,λb ps e=>?_⟩,?_,λx c e=>?_,?_,λx c e=>?_,λp L=>?_,O,I.len⟩
 ·exact keep b o (SZ b o e) t (E b o e a) (I.base.keep b o e n t a)<|I.base.free b o e n a
 ·obtain⟨G,h⟩:=I.base.slot b o e n t a;obtain⟨Y,D⟩:=slot b _ (SZ b o e) t (E b o e a) h<|I.base.free b o e n a;exact⟨Y,D⟩
 ·obtain⟨A,h⟩:=I.base.there b o e a;exact free b A (E b o e a) h<|I.base.free b o e n a
 ·obtain⟨A,h⟩:=I.base.there b o e a;exact there b A (E b o e a) h
 ·obtain⟨m1,h⟩:=I.base.hV b ps e;obtain⟨m2,D⟩:=hV b _ h;exact⟨m1++m2,by rw[D,Array.append_assoc]⟩
 ·obtain⟨m,hn,hl⟩:=I.loc;refine⟨m,ns m hn,λi x v h D e3=>?_⟩;obtain⟨u,r,l⟩:=hl i x v h D e3;refine⟨u,r,?_⟩
  obtain l|⟨k,c,e,z⟩:=l
  ·exact .inl l
  ·exact .inr ⟨k,c,e,f x c e _ z⟩
 ·obtain⟨v,z⟩:=I.cell x c e;exact⟨v,f x c e v z⟩
 ·obtain⟨m,⟨o,_,_,w,_⟩,_⟩:=I.loc;exact free _ o (λz=>(y _ z).2.1 rfl) w I.free
 ·obtain⟨v,o,w,hd⟩:=I.cell x c e;exact free c o (λz=>(y c z).2.2.1 x c e rfl) w<|I.cH x c e
 ·obtain⟨e,n,ne,M,d⟩:=I.pin p L;have B:=λz=>(y p.1 z).2.2.2 p L rfl;exact⟨keep p.1 p.2 ne M B e n,free p.1 p.2 B e n,ne,M,d⟩
def be.un{t':Nat}(I:be X a h H s)(u:Un X.fs [] H H' s.heap h')(i:cG X.prog X.w H' h'):be X a h H' {s with heap:=h',toks:=t'}:=by
 obtain⟨m,⟨o,t,v,d,r⟩,_⟩:=id I.loc;obtain⟨w,j⟩:=u.any d I.free (by simp);exact I.step (ch:=[]) (λ_ z=>nomatch z) (λb o _ c _ e n=>u.keep b o e n c<|by simp) (λb o _ c _ e n=>u.slot b o e n c<|by simp) (λb o _ e n=>u.free b o e n<|by simp) (λb o _ e=>u.there b o e<|by simp) u.hU u.gO u.hV (λx k=>by
  obtain⟨y,l,p,f,q⟩:=k;rw[d]at f;cases f;exact⟨_,l,p,j,q⟩) i I.bare
def be.call{h:Array GenState}(I:be X a l H s)(u:Un (gP X.stack) ch H H' s.heap h')(q:cG X.prog X.w H' h')(t:AllBare h)
  (i:∀b∈ch,(b∈X.ex\/X.s₀.heap.objs.size<=b)/\b≠X.env.locals/\(∀x c,X.env.cells.lookup x=some c->c≠b)/\∀p∈X.pn++a,p.1≠b):
  be X a l H' {s with heap:=h',gens:=h,drawn:=D,toks:=t'}:=by
 obtain⟨m,⟨o,E,G,j,r⟩,_⟩:=id I.loc;obtain⟨J,f⟩:=u.any j I.free λz=>(i _ z).2.1 rfl;exact I.step i (λb o f v d e n=>u.keep b o e n (λz=>(Ak.mp<|I.ie b z).elim f v) d) (λb o _ _ d e n=>u.any e n d) (λb o d e n=>u.free b o e n d) (λb o d e=>u.there b o e d) u.hU u.gO u.hV (λL w=>by
  obtain⟨M,y,A,k,B⟩:=w;rw[j]at k;cases k;exact⟨_,y,A,f,B⟩) q t
def be.turned{it:Addr}(I:be X a i H s)(k:∀b o,b≠it->s.heap.get? b=some o->h'.get? b=some o)(j:H it=none)(f:it≠X.env.locals)
  (l:it∈X.ex\/X.s₀.heap.objs.size<=it) (t:∀x c,X.env.cells.lookup x=some c->c≠it) (w:∀p∈X.pn++a,p.1≠it):be X a i H {s with heap:=h',toks:=t'}:=by
 have h:∀b u,H b=some u->b≠it:=λb u e z=>by rw[z,j]at e;cases e
 refine I.step (ch:=[it]) (λb y=>?_) (λb o _ _ d e _=>k b o (λz=>d<|by simp[z]) e) (λb o _ _ d e _=>⟨o.slots,k b o (λz=>d<|by simp[z]) e⟩) (λ_ _ _ _ n=>n)
  (λb o d e=>⟨o,k b o (λz=>d<|by simp[z]) e⟩) (λ_ _ e=>e) (λ_ _ _ e=>e) (λb ps e=>⟨#[],by rw[e];simp⟩) (λm A=>?_) (λb u e=>?_) I.bare
 ·have e:b=it:=by simpa using y
  subst e;exact⟨l,f,t,w⟩
 ·obtain⟨o,B,D,E,r⟩:=A;exact⟨o,B,D,k _ o (CG f) E,r⟩
 ·refine(I.aP b u e).jX (λc v d q=>k c v ?_ q) (λ_ q=>q) λ_ _ q=>q
  obtain z|z:=d
  ·rw[z];exact h b u e
  ·exact h c _ z
def be.tok(I:be X a b H s)(t:Nat):be X a b H {s with toks:=t}:=I.un Un.refl I.aP
section
variable{X:Cx}{pins:Ð}{σ:List (Option V)}{H:Hp}{s:Shared}{h':Heap}
def be.kept(I:be X pins σ H s)(k:∀b u,s.heap.get? b=some u->h'.get? b=some u):be X pins σ H {s with heap:=h',toks:=t'}:=I.un (Un.kept k)<|I.aP.kept k
end
section
variable{X:Cx}{pins:Ð}{σ:List (Option V)}{H:Hp}{s:Shared}{h':Heap}
def be.laid(I:be X pins σ H s)(k:∀b u,s.heap.get? b=some u->h'.get? b=some u)(c:s.heap.objs.size<=a)(new:aI X.prog X.w (upd H a o) h' a o):
  be X pins σ (upd H a o) {s with heap:=h',toks:=t'}:=I.un (Un.laid k c<|I.aP.fresh c)<|I.aP.laid k c new
end
section
variable{X:Cx}{pins:Ð}{σ:List (Option V)}{H:Hp}{s:Shared}{h':Heap}
def be.write(I:be X pins σ H s)(a:xQ<|H x)(c:e=x\/H e=some (.own x))(k:∀b u,b≠e->s.heap.get? b=some u->h'.get? b=some u)(d:∃u,h'.get? e=some u)
  (new:aI X.prog X.w (upd H x o) h' x o):be X pins σ (upd H x o) {s with heap:=h',toks:=t'}:=I.un (Un.write a c k d)<|I.aP.write a c k d new
end
def be.kD(I:be X a b H s)(h:∀p∈c,s.heap.get? p.1=some p.2/\H p.1=none/\p.1≠X.env.locals/\p.1∉X.fs/\∀v,p.2.data ≠ .cell v):be X c b H s:=
 ⟨I.ok,I.os,I.bare,I.base,I.loc,I.cell,I.free,I.cH,λp d=>(Al.mp d).elim (λz=>I.pin p<|As _ z)<|h p,I.aP,I.len⟩
def S0{N:Ñ}(c:N.Nodup){i j:Nat}(a:N[i]?=some x)(b:N[j]?=some x):i=j:=by
 obtain⟨f,d⟩:=Ad.mp a;obtain⟨h,e⟩:=Ad.mp b;exact(Fg c).mp<|d.trans e.symm
def S6{X:Cx}(I:be X T σ H s)(hN:X.N.Nodup)(Y:X.N[i]?=some x)(B:xp X.env.scope x)(r:br v u)
  (h:∀s',be X T (σ.set i<|some v) H s'->(∃a,Heap.SameBut a s.heap s'.heap/\(a=X.env.locals\/X.env.cells.lookup x=some a))->Q () s') (hf:X.fn x=true\/X.env.scope.names.lookup x=some .local:=by first|exact .inl rfl|exact .inr rfl|assumption):wpAny M A (storeName X.env x u) Q E s:=by
 obtain⟨m,hn,hl⟩:=id I.loc;have J7:(X.env.scope.kind == .class || (X.env.scope.kind == .module && X.env.locals != X.env.globals))=false:=by rw[I.ok.kind];rfl
 have G:i<σ.length:=by rw[I.len];exact(Ad.mp Y).1
 have p9:=I.p9;have l:∀{a:Addr}{O:Heap},(∃o,s.heap.get? a=some o/\H a=none)->Heap.SameBut a s.heap O->cG X.prog X.w H O:=λ{a O}ha f b ob e=>by
  obtain⟨_,_,rJ⟩:=ha;refine(I.aP b ob e).jX (λc w' w q=>(f.2 c ?_).trans q) (λ_ q=>q) λ_ _ q=>q;rintro rfl
  obtain rfl|w:=w
  ·rw[rJ]at e;cases e
  ·rw[rJ]at w;cases w
 obtain J|J:=B
 ·refine wpAny_storeName_local J hn (λO D5 f=>?_) J7;obtain⟨oL,_,_,m6,_⟩:=id hn;refine h _ ⟨I.ok,I.os,I.bare,⟨λb o e n L B=>?_,λb o e n L B=>?_,I.base.free,λb o e B=>?_,I.base.hU,I.base.gO,I.base.hV⟩,⟨_,D5,λj y v' t D e3=>?_⟩,λy c e=>?_,I.free,I.cH,λp hp=>?_,l ⟨oL,m6,I.free⟩ f,by simpa using I.len⟩ ⟨_,f,.inl rfl⟩
  ·exact(f.2 b<|Bw<|Br (Ax e) I.ok.above).trans<|I.base.keep b o e n L B
  ·obtain⟨sl,t⟩:=I.base.slot b o e n L B;exact⟨sl,(f.2 b<|Bw<|Br (Ax e) I.ok.above).trans t⟩
  ·obtain⟨o',t⟩:=I.base.there b o e B;exact⟨o',(f.2 b<|Bw<|Br (Ax e) I.ok.above).trans t⟩
  ·by_cases N:j=i
   ·subst N;rw[Y]at t;cases t;rw[TV G]at D;cases D;exact⟨u,r,.inl ⟨J,by simp⟩⟩
   ·rw[List.getElem?_set_ne<|CG N]at D;obtain⟨u',r',q⟩:=hl j y v' t D e3;refine⟨u',r',?_⟩
    obtain⟨k,e⟩|⟨k,c,e,z⟩:=q
    ·refine .inl ⟨k,?_⟩;have:y≠x:=λe=>N<|S0 hN t<|e ▸ Y;simp[this,e]
    ·exact .inr ⟨k,c,e,z.sameBut f<|p9 y c e⟩
  ·obtain⟨w',z⟩:=I.cell y c e;exact⟨w',z.sameBut f<|p9 y c e⟩
  ·obtain⟨e,n,ne,nf,d⟩:=I.pin p hp;exact⟨(f.2 p.1 ne).trans e,n,ne,nf,d⟩
 ·have J8:X.fn x=true:=by
   obtain z|z:=hf
   ·exact z
   ·rw[z]at J;cases J
  obtain⟨c,w⟩:=I.ok.has x<|.inl J;obtain⟨w',z⟩:=I.cell x c w;refine wpAny_storeName_cell I.ok.kind J w z λO b9 f=>?_;obtain⟨oc,S7,Ö⟩:=id z;refine h {s with heap:=O} ⟨I.ok,I.os,I.bare,⟨λb o e n L B=>?_,λb o e n L B=>?_,I.base.free,λb o e B=>?_,I.base.hU,I.base.gO,I.base.hV⟩,⟨m,hn.sameBut f<|CG<|p9 x c w,λj y v' t D e3=>?_⟩,λy c' e=>?_,I.free,I.cH,λp hp=>?_,l ⟨oc,S7,I.cH x c w⟩ f,by simpa using I.len⟩ ⟨c,f,.inr w⟩
  ·exact(f.2 b<|Bw<|Br (Ax e)<|I.ok.xT x c J8 w).trans<|I.base.keep b o e n L B
  ·obtain⟨sl,t⟩:=I.base.slot b o e n L B;exact⟨sl,(f.2 b<|Bw<|Br (Ax e)<|I.ok.xT x c J8 w).trans t⟩
  ·obtain⟨o',t⟩:=I.base.there b o e B;exact⟨o',(f.2 b<|Bw<|Br (Ax e)<|I.ok.xT x c J8 w).trans t⟩
  ·by_cases N:j=i
   ·subst N;rw[Y]at t;cases t;rw[TV G]at D;cases D;exact⟨u,r,.inr ⟨.inl J,c,w,b9⟩⟩
   ·rw[List.getElem?_set_ne<|CG N]at D;obtain⟨u',r',q⟩:=hl j y v' t D e3;refine⟨u',r',?_⟩
    obtain q|⟨k,c',e,z'⟩:=q
    ·exact .inl q
    ·refine .inr ⟨k,c',e,z'.sameBut f ?_⟩;rintro rfl;exact N<|S0 hN t<|I.ok.inj _ _ _ e w ▸ Y
  ·by_cases kE:c'=c
   ·subst kE;exact⟨_,b9⟩
   ·obtain⟨w2,z2⟩:=I.cell y c' e;exact⟨w2,z2.sameBut f kE⟩
  ·obtain⟨e,n,ne,nf,d⟩:=I.pin p hp;refine⟨(f.2 p.1 ?_).trans e,n,ne,nf,d⟩;intro q;rw[q,S7]at e;exact d w'<|by rwa[<-(Option.some.inj e)]
def J9(I:be X a b H s)(c:X.N.Nodup)(d:X.N[i]?=some x)(e:xp X.env.scope x)(r:br v u)
  (h:∀s',be X a (b.set i<|some v) H s'->Q () s') (f:X.fn x=true\/X.env.scope.names.lookup x=some .local:=by first|exact .inl rfl|exact .inr rfl|assumption):wpAny M A (storeName X.env x u) Q E s:=
 S6 I c d e r (λs' j _=>h s' j) f
def be.call'(I:be X a d H s)(f:s'.os=s.os)(u:Un (gP X.stack) ch H H' s.heap s'.heap)(h:cG X.prog X.w H' s'.heap)(i:AllBare s'.gens)
  (j:∀b∈ch,(b∈X.ex\/X.s₀.heap.objs.size<=b)/\b≠X.env.locals/\(∀x c,X.env.cells.lookup x=some c->c≠b)/\∀p∈X.pn++a,p.1≠b):be X a d H' s':=by
 obtain⟨k,l,m,n,o⟩:=s';have e:=f;subst e;exact I.call u h i j
abbrev XK:=Value->Option Addr->Hp->Prop
abbrev St:=List<|Option V
abbrev VK:=V->Hp->Prop
abbrev TE:=St->Hp->VK->Prop
abbrev TT:=St->Hp->(Bool->Hp->Prop)->Prop
abbrev TA:=St->Hp->(List V->Hp->Prop)->Prop
structure wp where
 nx:St->Hp->Prop
 rt:VK
 bk:St->Hp->Prop:=λ_ _=>False
 ct:St->Hp->Prop:=λ_ _=>False
abbrev TS:=wp->St->Hp->Prop
def EP(X:Cx)(a:Ð)(c:St)(Q:VK)(u:Value)(s':Shared):Prop:=∃v b,be X a c b s'/\br v u/\Q v b
def TP(X:Cx)(a:Ð)(d:St)(Q:Bool->Hp->Prop)(b:Bool)(s':Shared):Prop:=∃c,be X a d c s'/\Q b c
def AP(X:Cx)(a:Ð)(d:St)(Q:List V->Hp->Prop)(us:Ó)(s':Shared):Prop:=∃b c,be X a d c s'/\aC b us/\Q b c
def SP(X:Cx)(b:Ð)(D:wp)(f:Flow)(s':Shared):Prop:=
 match f with
 |.next=>∃a c,be X b a c s'/\D.nx a c
 |.brk=>∃a c,be X b a c s'/\D.bk a c
 |.cont=>∃a c,be X b a c s'/\D.ct a c
 |.ret u=>∃v a c,be X b a c s'/\br v u/\D.rt v c
def PE(X:Cx)(e:Expr)(t:TE):Prop:=
 ∀a s b H Q,be X a b H s->t b H Q->ar X (eval e X.env) (EP X a b Q) X.xe s
def PT(X:Cx)(e:Expr)(t:TT):Prop:=
 ∀a s b H Q,be X a b H s->t b H Q->ar X (isTrue e X.env<|eval e X.env) (TP X a b Q) X.xe s
def PW(X:Cx)(e:Expr)(t:TT):Prop:=
 ∀whole a s b H Q,be X a b H s->t b H Q->ar X (isTrue e X.env whole) (TP X a b Q) X.xe s
def PA(X:Cx)(c:Ô)(t:TA):Prop:=
 ∀pos a s b H Q,be X a b H s->t b H Q->ar X (spliced<|backTo pos<|starEach c X.env) (AP X a b Q) X.xe s
def PS(X:Cx)(st:Stmt)(t:TS):Prop:=
 ∀a s b H D,be X a b H s->t D b H->ar X (exec st X.env) (SP X a D) X.xe s
def lF(X:Cx)(st:Õ)(t:TS):Prop:=
 ∀a s b H D,be X a b H s->t D b H->ar X (execs st X.env) (SP X a D) X.xe s
def aO(h:wpAny M A t Q E s)(b:∀a s,Q a s->c a s):wpAny M A t c E s:=CZ h b λ_ _ x=>x
def bin(k:PE X a ta)(l:PE X b m){R:V->V->Hp->Prop}(I:be X c e H s)(h:ta e H λx j=>m e j λy d=>R x y d)
    {f:Value->Value->Sem α}
  (n:∀v u i x y d,be X c e d i->br x v->br y u->R x y d->ar X (f v u) Q X.xe i):
  ar X (eval a X.env) (λv o=>ar X (eval b X.env) (λu p=>ar X (f v u) Q X.xe p) X.xe o) X.xe s:=by
 refine aO (k c s e H _ I h) λv q⟨x,j,r,t,w⟩=>?_;refine aO (l c q e j _ r w) λu i⟨y,d,z,A,B⟩=>?_;exact n v u i x y d z t A B
def J'(i:Nat):TE:=λa H Q=>∃v,a[i]?=some (some v)/\Q v H
def tC(v:V):TE:=λ_ H Q=>Q v H
def tA(j:X.N[i]?=some x)(k:DZ X.env.scope x)(hd:(x == ("__debug__" : Str))=false:=by decide)(n:(x == ("__classdict__" : Str))=false:=by decide):PE X (.Name x pos) (J' i):=by
 intro b s o H Q I h;obtain⟨v,e,h⟩:=h;obtain⟨m,p,q⟩:=I.loc;obtain⟨u,r,l⟩:=q i x v j e k;have fin:EP X b o Q u s:=⟨v,H,I,r,h⟩
 obtain⟨a,t⟩|⟨a,c,d,f⟩:=l
 ·exact wpAny_Name (wpAny_loadName_local I.ok.kind a p t fin) hd
 ·obtain a|a:=a
  ·exact wpAny_Name (wpAny_loadName_cell I.ok.kind a d f fin) hd
  ·exact wpAny_Name (wpAny_loadName_free I.ok.kind a d f fin n) hd
def dO{i j pos}:PE X (.Constant (.int i) j pos) (tC<|.int i):=λ_ _ _ H _ I h=>wpAny_Constant_int ⟨.int i,H,I.tok _,⟨_,rfl⟩,h⟩
def x5f{b j pos}:PE X (.Constant (.bool b) j pos) (tC<|.bl b):=λ_ _ _ H _ I h=>Constant_bool ⟨.bl b,H,I,rfl,h⟩
def x3p{x j pos}:PE X (.Constant (.str x) j pos) (tC<|.str x):=λ_ _ _ H _ I h=>Calls.Constant_str ⟨.str x,H,I.tok _,⟨_,rfl⟩,h⟩
def Gl(X:Cx)(x:Str):Prop:=X.env.kindOf x=some .globalImplicit
def S8(I:be X a d H s)(b:Gl X x)(c:X.mg x=some u)(h:Q u s)
  (hd:(x == ("__debug__" : Str))=false:=by decide):ar X (eval (.Name x pos) X.env) Q E s:=
 Calls.Name_function_global I.ok.kind b (Calls.loadGlobal_global (I.ok.glob▸(I.mod.glob.keeps I.bk)) c h) hd
def wa(I:be X a j H s)(b:Gl X x)(c:X.mg x=none)(d:bootBuiltins x=some u)(h:Q u s)
  (e:x ≠ "__name__":=by decide) (hd:(x == ("__debug__" : Str))=false:=by decide):ar X (eval (.Name x pos) X.env) Q E s:=by
 obtain⟨k,f,i⟩:=I.mod.blt;exact Calls.Name_function_global I.ok.kind b (Calls.loadGlobal_builtin (I.ok.glob▸(I.mod.glob.keeps I.bk)) c (I.ok.blt▸(f.keeps I.bk)) ((i x e).trans d) h) hd
def PC(X:Cx)(op:CmpOp)(a b:Expr)(t:TE):Prop:=
 ∀c s d H Q,be X c d H s->t d H Q ->
  ar X (eval a X.env) (λv e=>ar X (eval b X.env) (λu f=>ar X (compareOp op v u) (EP X c d Q) X.xe f) X.xe e) X.xe s
def tB(t:TE):TT:=λa H Q=>t a H λx b=>∃c,x=.bl c/\Q c b
def S9(h:PC X op a b t)(f:behindInMarks op b=false:=by first|exact p _ (by decide) (by decide)|rfl):PT X (.Compare a [op] [b] pos) (tB t):=by
 intro e s i H Q I j;refine wpAny_isTrue_Compare1 (aO (h e s i H _ I j) λv r f=>aO f λu w k=>aO k λc y⟨x,l,m,n,o⟩=>?_) f;obtain⟨d,rfl,q⟩:=o;cases n;exact FT ⟨l,m,q⟩
def cK(h:PE X e t)(b:∀whole,isTrue e X.env whole=(do let v <-whole;standAt e.pos;holding [v] (truthy v)):=by intro _;rfl):PT X e (tB t):=by
 intro a s c H Q I f;refine isTrue_plain (aO (h a s c H _ I f) λv m⟨x,i,j,k,l⟩=>?_)<|b _;obtain⟨d,rfl,q⟩:=l;cases k;exact FT ⟨i,j,q⟩
def Ka(t u:TT):TT:=λa H Q=>t a H λc b=>if c=true then u a b Q else Q false b
def tOr(t u:TT):TT:=λa H Q=>t a H λc b=>if c=true then Q true b else u a b Q
def Kb(t:TT):TT:=λa H Q=>t a H λc b=>Q (!c) b
theorem DS(d:PT X a f):PW X (.BoolOp .And [a] pos) f:=by
 intro j b s i H Q I h;refine isTrue_and<|aO (d b s i H Q I h) λc k e=>?_;cases c with
 |true=>exact isTrue_and_nil e
 |false=>exact e
theorem Wf(d:PT X a f):PW X (.BoolOp .Or [a] pos) f:=by
 intro j b s i H Q I h;refine isTrue_or<|aO (d b s i H Q I h) λc k e=>?_;cases c with
 |false=>exact isTrue_or_nil e
 |true=>exact e
theorem x3d(l:PT X a m)(n:PW X (.BoolOp .And (b :: e) pos) o):PW X (.BoolOp .And (a :: b :: e) pos) (Ka m o):=by
 intro p d s f H Q I h;refine isTrue_and<|aO (l d s f H _ I h) λc q⟨i,j,k⟩=>?_;cases c with
 |true=>exact n p d q f i Q j k
 |false=>exact⟨i,j,k⟩
theorem x4u(l:PT X a m)(n:PW X (.BoolOp .Or (b :: e) pos) o):PW X (.BoolOp .Or (a :: b :: e) pos) (tOr m o):=by
 intro p d s f H Q I h;refine isTrue_or<|aO (l d s f H _ I h) λc q⟨i,j,k⟩=>?_;cases c with
 |true=>exact⟨i,j,k⟩
 |false=>exact n p d q f i Q j k
def LU(d:PT X a e):PT X (.UnaryOp .Not a pos) (Kb e):=by
 intro b s f H Q I h;exact isTrue_not<|d b s f H (λc i=>Q (!c) i) I h
def Kc(ta d:TE):TE:=λa H Q=>ta a H λx b=>∃c,x=.bl c/\if c=true then Q (.bl true) b else d a b Q
def al{op}(h:PE X a t):PE X (.BoolOp op [a] pos) t:=λb s c H Q I d=>BoolOp_one<|h b s c H Q I d
theorem x4q(l:PE X a ta)(m:PE X (.BoolOp .Or (b :: e) pos) n):PE X (.BoolOp .Or (a :: b :: e) pos) (Kc ta n):=by
 intro d s i H Q I h;refine BoolOp_or<|aO (l d s i H _ I h) λv o⟨x,j,k,p,f⟩=>?_;obtain⟨c,rfl,f⟩:=f;cases p;apply FT;cases c with
 |false=>exact m d o i j Q k f
 |true=>exact⟨.bl true,j,k,rfl,f⟩
def tIf(t:TT)(ta d:TE):TE:=λa H Q=>t a H λc b=>if c=true then ta a b Q else d a b Q
theorem NL(m:PT X c n)(o:PE X a ta)(p:PE X b q):PE X (.IfExp c a b pos) (tIf n ta q):=by
 intro e s f H Q I h;refine wpAny_IfExp<|aO (m e s f H _ I h) λd i⟨j,k,l⟩=>?_;cases d with
 |true=>exact o e i f j Q k l
 |false=>exact p e i f j Q k l
def av(K:aa)(H:Hp)(a:Addr)(xs:List V):Prop:=
 Rd H a (.lst xs) \/
  ∃o b n,K.lookup a=some o/\o.cls=.type "list"/\o.dict=none/\o.data=.seq b n/\b.size<=sizeLine/\aC xs b.toList
def aU(K:aa)(H:Hp)(a:Addr)(xs:List V):Prop:=
 Rd H a (.tup xs) \/
  ∃o b n,K.lookup a=some o/\o.cls=.type "tuple"/\o.data=.seq b n/\b.size<=sizeLine/\aC xs b.toList
def Kd:Value->Option V
 |.none=>some .non
 |.bool b=>some<|.bl b
 |.int i _=>some<|.int i
 |.str x _=>some<|.str x
 |.bytes b _=>some<|.lE b
 |.float b _=>some<|.J2 b
 |.ref a=>some<|.ref a
 |.type n=>some<|.ty n
 |_=>none
theorem br.abs(r:br x u):Kd u=some x:=by
 cases x with
 |non=>cases r;rfl
 |bl _=>cases r;rfl
 |int _=>obtain⟨t,rfl⟩:=r;rfl
 |str _=>obtain⟨t,rfl⟩:=r;rfl
 |lE _=>obtain⟨t,rfl⟩:=r;rfl
 |J2 _=>obtain⟨t,rfl⟩:=r;rfl
 |ref _=>cases r;rfl
 |ty _=>cases r;rfl
def br.inj(r:br x u)(q:br y u):x=y:=Option.some.inj<|r.abs.symm.trans q.abs
theorem aC.inj:∀{xs ys}{us},aC xs us->aC ys us->xs=ys
 |_,_,_,.nil,.nil=>rfl
 |_,_,_,.cons r t,.cons a b=>by rw[r.inj a,aC.inj t b]
def av.of{K:aa}(h:H a=some (.lst xs)):av K H a xs:= .inl<|.inl h
def aU.of{K:aa}(h:H a=some (.tup xs)):aU K H a xs:= .inl<|.inl h
def be.list(I:be X c j H s)(h:av X.K H a xs):∃b:Ó,aC xs b/\PlainL s.heap a b.toArray/\xs.length<=sizeLine:=by
 obtain h|⟨o,b,n,d,f,hd,i,k,r⟩:=h
 ·obtain⟨z,b,n,r,e⟩:=h.ok I.aP;exact⟨b,r,⟨_,n,e,rfl,rfl,rfl⟩,z⟩
 ·refine⟨b.toList,r,⟨o,n,I.v9 a o d,f,hd,by simpa using i⟩,?_⟩;have e:=r.length;simp only[Cb]at e;lia
def be.tuple(I:be X c j H s)(h:aU X.K H a xs):∃b:Ó,aC xs b/\IsTup s.heap a b.toArray/\xs.length<=sizeLine:=by
 obtain h|⟨o,b,n,d,f,i,k,r⟩:=h
 ·obtain⟨z,b,r,p⟩:=h.ok I.aP;exact⟨b,r,p,z⟩
 ·refine⟨b.toList,r,⟨o,I.v9 a o d,f,n,by simpa using i⟩,?_⟩;have e:=r.length;simp only[Cb]at e;lia
def be.fP(I:be X f m H s)(h:av X.K H a xs)(h':av X.K H a ys):xs=ys:=by
 obtain⟨c,r,⟨o,n,e,_,_,d⟩,_⟩:=I.list h;obtain⟨b,k,⟨p,q,i,_,_,j⟩,_⟩:=I.list h';rw[e]at i;cases i;rw[d]at j
 injection j with l _
 have:c=b:=by simpa using BX Array.toList l
 subst this;exact r.inj k
def be.lG(I:be X f m H s)(h:aU X.K H a xs)(h':aU X.K H a ys):xs=ys:=by
 obtain⟨c,r,⟨o,e,_,n,d⟩,_⟩:=I.tuple h;obtain⟨b,k,⟨p,i,_,q,j⟩,_⟩:=I.tuple h';rw[e]at i;cases i;rw[d]at j
 injection j with l _
 have:c=b:=by simpa using BX Array.toList l
 subst this;exact r.inj k
abbrev Cx.gQ(X:Cx)(E:Î):Cx:={X with xe:=E}
abbrev Cx.wc(X:Cx):Cx:=X.gQ λ_ _=>False
def Cx.Ok.gQ{X:Cx}(ok:X.Ok)(E:Î):(X.gQ E).Ok:=
 ⟨ok.mod,ok.kind,ok.glob,ok.blt,ok.above,ok.inj,ok.has,ok.xT,ok.hd,ok.frames,ok.D0,ok.SY,ok.bs,ok.rG,ok.m5,ok.p8,ok.fN,ok.v8⟩
def Cx.Ok.cI{X:Cx}(ok:(X.gQ E).Ok):X.Ok:=
 ⟨ok.mod,ok.kind,ok.glob,ok.blt,ok.above,ok.inj,ok.has,ok.xT,ok.hd,ok.frames,ok.D0,ok.SY,ok.bs,ok.rG,ok.m5,ok.p8,ok.fN,ok.v8⟩
section
variable{X:Cx}{pins:Ð}{σ:St}{H:Hp}{s:Shared}
def be.gQ(I:be X pins σ H s)(E:Î):be (X.gQ E) pins σ H s:=⟨I.ok.gQ E,I.os,I.bare,I.base,I.loc,I.cell,I.free,I.cH,I.pin,I.aP,I.len⟩
end
section
variable{X:Cx}{pins:Ð}{σ:St}{H:Hp}{s:Shared}{E:Î}
def be.cI(I:be (X.gQ E) pins σ H s):be X pins σ H s:=⟨I.ok.cI,I.os,I.bare,I.base,I.loc,I.cell,I.free,I.cH,I.pin,I.aP,I.len⟩
end
section
variable{X:Cx}{pins:Ð}{E:Î}
theorem SP.cI(h:SP (X.gQ E) pins D f s'):SP X pins D f s':=by
 cases f with
 |next=>obtain⟨a,b,I,q⟩:=h;exact⟨a,b,I.cI,q⟩
 |brk=>obtain⟨a,b,I,q⟩:=h;exact⟨a,b,I.cI,q⟩
 |cont=>obtain⟨a,b,I,q⟩:=h;exact⟨a,b,I.cI,q⟩
 |ret u=>obtain⟨v,a,b,I,r,q⟩:=h;exact⟨v,a,b,I.cI,r,q⟩
end
def lF.wc{st:Õ}(h:lF X.wc st t):lF X st t:=λa s b H D I c=>
 CZ (h a s b H D (I.gQ _) c) (λ_ _ q=>q.cI) λ_ _ z=>False.elim z
def x5i:TS:=λD a H=>D.nx a H
def Ke(t u:TS):TS:=λD a H=>t {D with nx:=u D} a H
def OK:lF X [] x5i:=λ_ _ a H _ I h=>SM ⟨a,H,I,h⟩
theorem No{st:Stmt}(d:PS X st t)(e:lF X b u):lF X (st :: b) (Ke t u):=by
 intro a s i H D I h;refine wpAny_execs_cons<|aO (d a s i H {D with nx:=u D} I h) λf j q=>?_;cases f with
 |next=>
  obtain⟨c,k,l,q⟩:=q;exact e a j c k D l q
 |ret v=>exact q
 |brk=>exact q
 |cont=>exact q
def be.quiet(I:be X a b H s):interactive X.env=false:=by simp[interactive,I.ok.kind]
def OP(b:TE):TS:=λD a H=>b a H λ_ c=>D.nx a c
def ox(c:PE X e d)(f:swapsWith e none pos.line X.env=pure false:=by rfl):PS X (.Expr e pos) (OP d):=by
 intro a s b H D I h;exact wpAny_Expr_any (aO (c a s b H _ I h) λv l⟨x,i,j,m,k⟩=>⟨b,i,j,k⟩) I.quiet f
def Kf(a:TE):TS:=λD b H=>a b H D.rt
def Pf(c:PE X e d):PS X (.Return (some e) pos) (Kf d):=by
 intro a s b H D I h;exact wpAny_Return_some<|aO (c a s b H _ I h) λv l⟨x,f,i,j,k⟩=>⟨x,b,f,i,j,k⟩
def Kg(c:TT)(t u:TS):TS:=λD a H=>c a H λb d=>if b=true then t D a d else u D a d
theorem x5h(m:PT X c n)(o:lF X a t)(p:lF X b u):PS X (.If c a b pos) (Kg n t u):=by
 intro e s f H D I h;refine wpAny_If<|aO (m e s f H _ I h) λd i⟨j,k,l⟩=>?_;cases d with
 |true=>exact o e i f j D k l
 |false=>exact p e i f j D k l
abbrev TG:=V->St->Hp->(St->Hp->Prop)->Prop
abbrev tQ:=List V->St->Hp->(St->Hp->Prop)->Prop
def PG(X:Cx)(target:Expr)(t:TG):Prop:=
 ∀a s c H v u Q,be X a c H s->br v u->t v c H Q ->
  ar X (assign target X.env u) (λ_ e=>∃b d,be X a b d e/\Q b d) X.xe s
def D6(X:Cx)(ts:Ô)(t:tQ):Prop:=
 ∀a s c H d us Q,be X a c H s->aC d us->t d c H Q ->
  ar X (assignInOrder ((assignEach ts X.env).map (·.2)) us) (λ_ f=>∃b e,be X a b e f/\Q b e) X.xe s
abbrev D7:=V->V->Hp->VK->Prop
def Kh(X:Cx)(op:Operator)(t:D7):Prop:=
 ∀a s b H x y v u Q,be X a b H s->br x v->br y u->t x y H Q ->
  ar X (inplaceOp op v u) (EP X a b Q) X.xe s
def Ta(i:Nat):TG:=λv a H Q=>Q (a.set i<|some v) H
def pz(b:X.N.Nodup)(c:X.N[i]?=some x)(d:xp X.env.scope x)(e:X.fn x=true\/X.env.scope.names.lookup x=some .local:=by first|exact .inl rfl|exact .inr rfl|assumption):PG X (.Name x pos) (Ta i):=by
 intro a s j H v u Q I r h;exact wpAny_assign_Name<|J9 I b c d r (λk f=>⟨_,H,f,h⟩) e
def tR:tQ:=λa b H Q=>a=[]/\Q b H
def we(t:TG)(u:tQ):tQ:=λb c H Q=>∃v r,b=v :: r/\t v c H λa d=>u r a d Q
def Tc:D6 X [] tR:=by
 intro a s b H c us Q I r h;obtain⟨e,h⟩:=h;subst e;cases r;exact assignInOrder_nil ⟨b,H,I,h⟩
theorem xY(d:PG X e t)(f:D6 X b u)
  (i:(assignEach (e :: b) X.env).map (·.2)=assign e X.env :: (assignEach b X.env).map (·.2):=by rfl):D6 X (e :: b) (we t u):=by
 intro a s j H q us Q I r h;obtain⟨v,w,k,h⟩:=h;subst k;cases r with
 |cons r l=>
  rw[i];refine assignInOrder_cons<|aO (d a s j H _ _ _ I r h) λ_ m⟨c,n,o,p⟩=>?_;exact f a m c n _ _ Q o l p
def Ki(K:aa)(n:Nat)(t:tQ):TG:=λv b H Q=>∃a xs,v=.ref a/\aU K H a xs/\xs.length=n/\t xs b H Q
def Td(i:X.calm=true)(h:D6 X d t)
  (j:(assignEach d X.env).length=n:=by rfl) (l:(assignEach d X.env).findIdx? (·.1)=none:=by rfl):PG X (.Tuple d k pos) (Ki X.K n t):=by
 intro c s m H v u Q I r f;obtain⟨a,xs,p,q,w,f⟩:=f;subst p;cases r;obtain⟨x,rv,y,B⟩:=I.tuple q;refine assign_Tuple_tuple (I.ok.hd i) y (by simp[j,<-w,rv.length]) l λD z=>?_;have A:=I.kept (t':=s.toks) λb o e=>z b o (Bw<|Ax e) e;exact h c _ m H xs _ Q A (by simpa using rv) f
def xZ(b:TE)(g:TG):TS:=λD a H=>b a H λx c=>g x a c D.nx
def WQ(d:PE X e f)(i:PG X b g)(j:swapsWithSole [b] e pos.line X.env=pure false:=by rfl)(k:swappedStores [b] e X.env=pure none:=by rfl)
  (l:(assignEach [b] X.env).map (·.2)=[assign b X.env]:=by rfl):PS X (.Assign [b] e pos) (xZ f g):=by
 intro a s c H D I h;refine wpAny_Assign_stores (aO (d a s c H _ I h) λv m⟨x,n,o,p,r⟩=>?_) j k;rw[l];exact aO (i a m c n x v _ o p r) λ_ t q=>q
def rV(c:X.N.Nodup)(d:X.N[i]?=some x)(f:xp X.env.scope x)(j:PE X e k)(l:swapsWith e (some<|.Name x a) pos.line X.env=pure false:=by rfl)(m:X.fn x=true\/X.env.scope.names.lookup x=some .local:=by first|exact .inl rfl|exact .inr rfl|assumption):
  PS X (.Assign [.Name x a] e pos) (xZ k<|Ta i):=by
 intro b s n H D I h;refine wpAny_Assign_Name (aO (j b s n H _ I h) λv u⟨y,o,p,q,r⟩=>?_) l;exact J9 p c d f q (λw t=>⟨_,o,t,r⟩) m
def Kj(i:Nat)(b:TE)(c:D7):TS:=λD a H=>∃x,a[i]?=some (some x)/\b a H λy d=>c x y d λz e=>D.nx (a.set i<|some z) e
def x3g(o:X.N.Nodup)(f:X.N[i]?=some x)(d:xp X.env.scope x)(p:PE X e q)(t:Kh X op A)(B:X.fn x=true\/X.env.scope.names.lookup x=some .local:=by first|exact .inl rfl|exact .inr rfl|assumption):
  PS X (.AugAssign (.Name x j) op e pos) (Kj i q A):=by
 intro a s n H D I h;obtain⟨v,E,h⟩:=h;obtain⟨m,G,J⟩:=I.loc;have L:DZ X.env.scope x:=by obtain k|k:=d;exact .inl k;exact .inr<|.inl k
 obtain⟨u,r,l⟩:=J i x v f E L;apply wpAny_AugAssign_Name;have go:ar X (eval e X.env) (λw M=>ar X (inplaceOp op u w) (λr N=>ar X (storeName X.env x r) (λ_=>SP X a D .next) X.xe N) X.xe M) X.xe s:=by
  refine aO (p a s n H _ I h) λw O⟨y,Q,T,Y,q1⟩=>?_;refine aO (t a O n Q v y u w _ T r Y q1) λz s2⟨zv,H2,I2,r2,q2⟩=>?_;exact J9 I2 o f d r2 (λs3 I3=>⟨_,H2,I3,q2⟩) B
 obtain⟨b,hm⟩|⟨b,c,hc,g5⟩:=l
 ·exact wpAny_loadName_local I.ok.kind b G hm go
 ·obtain b|b:=b
  ·exact wpAny_loadName_cell I.ok.kind b hc g5 go
  ·obtain k|k:=d
   ·have:X.env.scope.names.lookup x=some .free:=b;rw[k]at this;cases this
   ·have:X.env.scope.names.lookup x=some .free:=b;rw[k]at this;cases this
inductive qA(f:Int->Int->Int)(x y:V)(H:Hp)(Q:VK):Prop
 |mk (i j:_)(_:x=.int i)(_:y=.int j)(_:Q (.int<|f i j) H)
def x1v:Kh X .Add (qA λi j=>i+j):=by
 intro a s f H x y v u Q I b c h;obtain⟨i,j,d,e,q⟩:=h;subst d;subst e;obtain⟨t,rfl⟩:=b;obtain⟨k,rfl⟩:=c;exact iadd_int ⟨.int _,H,I.tok _,⟨_,rfl⟩,q⟩
def WJ(c:TT)(i:TS):TS:=λD a H=>∃W:Nat->St->Hp->Prop,(∃m,W m a H)/\∀m a H,W m a H ->
 c a H λb e=>if b=true then ∃N:St->Hp->Prop,(∀d f,N d f->∃h,h<m/\W h d f)/\i {D with nx:=N,ct:=N,bk:=D.nx} a e else D.nx a e
theorem ML(t:PassesOwn (model X.prog X.w) X.A X.env X.xe)(A:PT X c B)(E:lF X body G):PS X (.While c body [] pos) (WJ B G):=by
 intro a s J H D I h;obtain⟨W,⟨L,M⟩,turn⟩:=h;refine wpAny_While<|codeAny_whileLoop (λn O=>∃i u,be X a i u O/\W n i u) ?_ L ⟨J,H,I,M⟩;rintro n Q ⟨e,w,T,Y⟩;refine HX t<|aO (A a Q e w _ T<|turn n e w Y) λb s2⟨x,y,k⟩=>?_;cases b with
 |true=>
  obtain⟨N,z,k⟩:=k;rw[BL rfl];refine HX t<|aO (E a s2 e x _ y k) λf s3 l=>?_;cases f with
  |next=>
   obtain⟨d,j,m,o⟩:=l;obtain⟨p,q,r⟩:=z d j o;exact⟨p,q,d,j,m,r⟩
  |cont=>
   obtain⟨d,j,m,o⟩:=l;obtain⟨p,q,r⟩:=z d j o;exact⟨p,q,d,j,m,r⟩
  |brk=>exact l
  |ret v=>exact l
 |false=>
  rw[C Av];exact SM ⟨e,x,y,k⟩
structure It where
 go:Nat->Hp->Prop
 x4:Nat->Hp->V->Hp->Prop
 stop:Nat->Hp->Prop
def cJ(X:Cx)(a:Ð)(H:Hp)(b:Addr):Prop:=
 H b=none/\b≠X.env.locals/\b∉X.fs/\(b∈X.ex\/X.s₀.heap.objs.size<=b)/\(∀x c,X.env.cells.lookup x=some c->c≠b)/\∀p∈X.pn++a,p.1≠b
def be.m7(I:be X a i H s)(d:s.heap.objs.size<=b)(f:H' b=none):cJ X a H' b:=by
 refine⟨f,De<|Br I.lt d,I.J6 d,.inr<|Cd I.sz d,λx c e z=>?_,λp h z=>?_⟩
 ·obtain⟨v,q⟩:=I.cell x c e;cases (Dl _) (Br q.lt<|by rwa[z])
 ·exact absurd (Br (Ax (I.pin p h).1)<|by rwa[z])<|Dl _
structure pi(P:Program)(w:World)(K:aa)(tg:Expr)(J:It)(fp:List Addr)(it:Addr)(tn:Nat->Heap->Prop):Prop where
 mem:it∈fp
 obj:∀i h,tn i h->∀b∈fp,∃o,h.get? b=some o/\∀v,o.data ≠ .cell v
 keep:∀i h h',tn i h->(∀b∈fp,∀o,h.get? b=some o->h'.get? b=some o)->tn i h'
 item:∀X,X.prog=P->X.w=w->X.K=K->X.calm=true->∀i pins s σ H E,be X pins σ H s->(∀b∈fp,cJ X pins H b)->tn i s.heap->J.go i H ->
  wpAny (model P w) X.A (pyNext<|.ref it) (λr s1=>∃ u,r=some u /\
   wpAny (model P w) X.A (letOwnedTupleGo tg (.ref it) u) (λ_ s2=>∃x H',be X pins σ H' s2/\br x u/\J.x4 i H x H'/\tn (i+1) s2.heap/\∀b∈fp,H' b=none) E s1) E s
 done:∀X,X.prog=P->X.w=w->X.K=K->X.calm=true->∀i pins s σ H E,be X pins σ H s->(∀b∈fp,cJ X pins H b)->tn i s.heap->J.stop i H ->
  wpAny (model P w) X.A (pyNext<|.ref it) (λr s1=>r=none/\be X pins σ H s1) E s
 self:∀A i s Q E,tn i s.heap->Q (.ref it) s->ba P w A (pyIter<|.ref it) Q E s
abbrev TI:=St->Hp->(It->Hp->Prop)->Prop
def Te(X:Cx)(a:Ð)(h:St)(i:Expr)(R:It->Hp->Prop)(j:Value)(d:Shared):Prop:=
 ∃it e f J c,j=.ref it/\be X a h c d/\pi X.prog X.w X.K i J e it f/\f 0 d.heap/\(∀b∈e,cJ X a c b)/\R J c
def PI(X:Cx)(c iter:Expr)(d:TI):Prop:=
 ∀a s b H R,be X a b H s->d b H R ->
  ar X (eval iter X.env) (λv e=>ar X (pyIter v) (Te X a b c R) X.xe e) X.xe s
def Kl(b:s.heap.get? it=some o)(c:o.cls=.type n)(hd:o.data=.fields vs)
    (d:["enumerate","zip","dict_itemiterator","dict_reverseitemiterator","odict_iterator","itertools.zip_longest","itertools.pairwise"].contains n=false) (a:Q () s):wpAny M A (letOwnedTupleGo e (.ref it) u) Q E s:=by
  unfold letOwnedTupleGo;cases e<;>first
    |exact BP a
    | (cases u <;> first
        |exact BP a
        | (refine BJ<|wpAny_load b ?_
           rw[c,hd];show wpAny M A (if(["enumerate","zip","dict_itemiterator","dict_reverseitemiterator","odict_iterator","itertools.zip_longest","itertools.pairwise"].contains n && vs[0]? == some (rawInt _))=true then _ else _) Q E s;rw[C<|by intro h;rw[d,UL]at h;cases h];exact BP a))
def tT(K:aa)(a:Addr):It:=
 ⟨λi H=>∃xs x,av K H a xs/\xs[i]?=some x,λi H x b=>b=H/\∀xs,av K H a xs->xs[i]?=some x,λi H=>∃xs,av K H a xs/\xs.length<=i⟩
def D8(K:aa)(a:Addr):It:=
 ⟨λi H=>∃xs x,aU K H a xs/\xs[i]?=some x,λi H x b=>b=H/\∀xs,aU K H a xs->xs[i]?=some x,λi H=>∃xs,aU K H a xs/\xs.length<=i⟩
def wg(lo:Int)(n:Nat):It:=⟨λi _=>i<n,λi H x a=>a=H/\x=.int (lo+i),λi _=>n<=i⟩
def DE{K:aa}(a it:Addr):pi P w K tg (tT K a) [it] it (λi h=>h.IsListIter it a i) where
 mem:=by simp
 obj:=λi h st b hb=>by
  have e:b=it:=by simpa using hb
  subst e;obtain⟨o,e,c,d⟩:=st;exact⟨o,e,λv z=>by rw[d]at z;cases z⟩
 keep:=λi h h' st k=>st.at λo e=>k it (by simp) o e
 item:=by
  intro X hP hw hK hc i pins s σ H E I hf st hg;subst hP hw hK;obtain⟨xs,x,hq,hx⟩:=hg;obtain⟨its,rv,p,hz⟩:=I.list hq;obtain⟨u,hu,ru⟩:=rv.get hx;obtain⟨f0,f1,f2,f3,f4,f5⟩:=hf it (by simp);refine wpAny_pyNext_list_item st p.isList (by simpa using hu) λh' fh sb=>?_;have I1:=I.turned (t':=s.toks) (λb o hb e=>(sb.2 b hb).trans e) f0 f1 f3 f4 f5;obtain⟨o,e,c,d⟩:=id fh;exact⟨u,rfl,Kl e c d (by decide) ⟨x,H,I1,ru,⟨rfl,λys hy=>by rwa[I.fP hy hq]⟩,fh,λb hb=>(hf b hb).1⟩⟩
 done:=by
  intro X hP hw hK hc i pins s σ H E I hf st hg;subst hP hw hK;obtain⟨xs,hq,hx⟩:=hg;obtain⟨its,rv,p,hz⟩:=I.list hq;obtain⟨f0,f1,f2,f3,f4,f5⟩:=hf it (by simp);have hl:=rv.length;exact wpAny_pyNext_list_end (I.ok.hd hc) st p.isList (by simp;lia) λh' eb=>⟨rfl,I.turned (λb o hb e=>eb b o hb e) f0 f1 f3 f4 f5⟩
 self:=λ_ _ _ _ _ st h=>wpAny_pyIter_listiter st h
def qx{K:aa}(a it:Addr):pi P w K tg (D8 K a) [it] it (λi h=>h.IsTupleIter it a i) where
 mem:=by simp
 obj:=λi h st b hb=>by
  have e:b=it:=by simpa using hb
  subst e;obtain⟨o,e,c,d⟩:=st;exact⟨o,e,λv z=>by rw[d]at z;cases z⟩
 keep:=λi h h' st k=>st.at λo e=>k it (by simp) o e
 item:=by
  intro X hP hw hK hc i pins s σ H E I hf st hg;subst hP hw hK;obtain⟨xs,x,hq,hx⟩:=hg;obtain⟨its,rv,p,hz⟩:=I.tuple hq;obtain⟨u,hu,ru⟩:=rv.get hx;obtain⟨f0,f1,f2,f3,f4,f5⟩:=hf it (by simp);refine wpAny_pyNext_tuple_item st (show s.heap.IsTuple a its.toArray from p) (by simpa using hu) λh' fh sb=>?_;have I1:=I.turned (t':=s.toks) (λb o hb e=>(sb.2 b hb).trans e) f0 f1 f3 f4 f5;obtain⟨o,e,c,d⟩:=id fh;exact⟨u,rfl,Kl e c d (by decide) ⟨x,H,I1,ru,⟨rfl,λys hy=>by rwa[I.lG hy hq]⟩,fh,λb hb=>(hf b hb).1⟩⟩
 done:=by
  intro X hP hw hK hc i pins s σ H E I hf st hg;subst hP hw hK;obtain⟨xs,hq,hx⟩:=hg;obtain⟨its,rv,p,hz⟩:=I.tuple hq;obtain⟨f0,f1,f2,f3,f4,f5⟩:=hf it (by simp);have hl:=rv.length;exact wpAny_pyNext_tuple_end (I.ok.hd hc) st (show s.heap.IsTuple a its.toArray from p) (by simp;lia) λh' eb=>⟨rfl,I.turned (λb o hb e=>eb b o hb e) f0 f1 f3 f4 f5⟩
 self:=λ_ _ _ _ _ st h=>wpAny_pyIter_tupleiter st h
def Wv{K:aa}(it:Addr)(lo:Int)(n:Nat):pi P w K tg (wg lo n) [it] it (λi h=>IsRangeIter h it (lo+(i:Nat)*1) ((n:Int)-(i:Nat)) 1) where
 mem:=by simp
 obj:=λi h st b hb=>by
  have e:b=it:=by simpa using hb
  subst e;exact⟨_,st,λv z=>by
   cases z⟩
 keep:=λi h h' st k=>k it (by simp) _ st
 item:=by
  intro X hP hw hK hc i pins s σ H E I hf st hg;subst hP hw hK;obtain⟨f0,f1,f2,f3,f4,f5⟩:=hf it (by simp);refine (Walks.range (prog:=X.prog) (w:=X.w) (I.ok.hd hc) it lo 1 n).item i s _ _ hg st λv h' tk hv fh kk=>?_;obtain⟨t,rfl⟩:=hv;have I1:be X pins σ H {s with heap:=h',toks:=tk}:=I.turned (λb o hb e=>kk b o (by simpa using hb) e) f0 f1 f3 f4 f5;refine⟨_,rfl,Kl fh rfl rfl (by decide) ⟨.int<|lo+i,H,I1,⟨t,?_⟩,⟨rfl,rfl⟩,fh,λb hb=>(hf b hb).1⟩⟩;rw[Int.mul_one]
 done:=by
  intro X hP hw hK hc i pins s σ H E I hf st hg;subst hP hw hK;obtain⟨f0,f1,f2,f3,f4,f5⟩:=hf it (by simp);exact wpAny_pyNext_range_end (I.ok.hd hc) st (by have:n<=i:=hg;lia) λh' eb=>⟨rfl,I.turned (λb o hb e=>eb b o hb e) f0 f1 f3 f4 f5⟩
 self:=λ_ _ _ _ _ st h=>wpAny_pyIter_rangeiter st h
def S4(K:aa)(c:TE):TI:=λd H R=>c d H λx b=>∃a,x=.ref a/\(∃xs,av K b a xs)/\R (tT K a) b
def Km(K:aa)(c:TE):TI:=λd H R=>c d H λx b=>∃a,x=.ref a/\(∃xs,aU K b a xs)/\R (D8 K a) b
def gJ(i:PE X l j):PI X y l (S4 X.K j):=by
 intro c s k H R I h;refine aO (i c s k H _ I h) λv f⟨x,m,d,n,r⟩=>?_;obtain⟨a,e,⟨xs,t⟩,q⟩:=r;subst e;cases n;obtain⟨u,rv,p,z⟩:=d.list t;refine QX p.isList<|⟨f.heap.objs.size,[f.heap.objs.size],_,_,m,rfl,d.kept λb o e=>Am _ e,DE a _,⟨_,Az _ rfl,rfl,rfl⟩,λb w=>?_,q⟩;have e:b=f.heap.objs.size:=by simpa using w
 subst e;exact d.m7 (Aq _)<|d.aP.fresh<|Aq _
def wL(j:PE X l k):PI X y l (Km X.K k):=by
 intro c s m H R I h;refine aO (j c s m H _ I h) λv d⟨x,n,f,r,t⟩=>?_;obtain⟨a,e,⟨xs,u⟩,q⟩:=t;subst e;cases r;obtain⟨i,rv,p,z⟩:=f.tuple u;refine wpAny_pyIter_tuple (show d.heap.IsTuple a i.toArray from p)<|⟨d.heap.objs.size,[d.heap.objs.size],_,_,n,rfl,f.kept λb o e=>Am _ e,qx a _,⟨_,Az _ rfl,rfl,rfl⟩,λb w=>?_,q⟩;have e:b=d.heap.objs.size:=by simpa using w
 subst e;exact f.m7 (Aq _)<|f.aP.fresh<|Aq _
def q20{lo a:Int}(I:be X c f H s)(h:-(2 ^ 62)<=lo)(i:lo<2 ^ 62)(j:-(2 ^ 62)<=a)(k:a<2 ^ 62)
  (q:R (wg lo (a-lo).toNat) H):ar X (pyIter<|.ref s.heap.objs.size) (Te X c f r R) E {s with heap:=s.heap.push {cls:= .type "range",data:= .fields #[.int lo t,.int a u,.int 1 v]},toks:=l}:=by
 apply wpAny_pyIter_range (IsRange.new ..) (small_one h i j k);have d:be X c f H {s with heap:=s.heap.push {cls:= .type "range",data:= .fields #[.int lo t,.int a u,.int 1 v]},toks:=l}:=I.kept λb o e=>Am _ e;refine⟨(s.heap.push {cls:= .type "range",data:= .fields #[.int lo t,.int a u,.int 1 v]}).objs.size,[(s.heap.push {cls:= .type "range",data:= .fields #[.int lo t,.int a u,.int 1 v]}).objs.size],_,_,H,rfl,
  d.kept λb o e=>Am _ e,Wv _ lo (a-lo).toNat,?_,λb m=>?_,q⟩
 ·have n:lo+((0:Nat):Int)*1=lo:=by simp
  have p:(((a-lo).toNat:Nat):Int)-((0:Nat):Int)=Builtin.Range.rangeSize lo a 1:=by rw[rangeSize_one];split<;>lia
  rw[n,p];exact Az _ rfl
 ·have e:b=(s.heap.push {cls:= .type "range",data:= .fields #[.int lo t,.int a u,.int 1 v]}).objs.size:=by simpa using m
  subst e;exact d.m7 (Aq _)<|d.aP.fresh<|Aq _
def Tg(ta:TA):TI:=λa H R=>ta a H λb c=>∃j:Int,b=[.int j]/\-(2 ^ 62)<=j/\j<2 ^ 62/\R (wg 0 j.toNat) c
theorem Ti{a:Expr}(d:Gl X "range")(f:X.mg "range" = none)(i:PA X [a] ta)(k:starEach [a] X.env=[(false,eval a X.env)]:=by rfl):PI X v (.Call (.Name "range" p) [a] [] pos) (Tg ta):=by
 intro b s l H R I h;refine Call_<|wa I d f boot_range<|JM (aO (i pos b s l H _ I h) λus w⟨x,y,m,n,c⟩=>?_) k rfl;obtain⟨j,e,c,o,q⟩:=c;subst e;cases n with
 |cons r u=>
  cases u;obtain⟨t,rfl⟩:=r;exact call_range_1<|q20 m (by lia) (by lia) c o<|by simpa using q
def Kn(f:TI)(g:TG)(h:TS):TS:=λD a H=>f a H λJ j=>∃W:Nat->Nat->St->Hp->Prop,(∃m,W 0 m a j)/\∀i m a H,W i m a H ->
 (J.stop i H/\D.nx a H)\/(J.go i H/\∃N:St->Hp->Prop,(∀b c,N b c->∃e,e<m/\W (i+1) e b c)/\∀x c,J.x4 i H x c->g x a c λd k=>h {D with nx:=N,ct:=N,bk:=D.nx} d k)
def x5(fp:List Addr)(h:Heap):Ð:=fp.filterMap λb=>(h.get? b).map λo=>(b,o)
def D9(a:b∈fp)(e:h.get? b=some o):(b,o)∈x5 fp h:=Go.mpr ⟨b,a,by rw[e];rfl⟩
theorem q1i(a:p∈x5 fp h):p.1∈fp/\h.get? p.1=some p.2:=by
 obtain⟨b,c,e⟩:=Go.mp a;cases q:h.get? b with
 |none=>rw[q]at e;cases e
 |some o=>
  rw[q]at e;have d:=Option.some.inj e;subst d;exact⟨c,q⟩
def be.pinned(I:be X a h H s)(i:∀b∈fp,cJ X a H b)(j:∀b∈fp,∃o,s.heap.get? b=some o/\∀v,o.data ≠ .cell v):be X (a++x5 fp s.heap) h H s:=
 I.kD λp k=>(Al.mp k).elim (λz=>I.pin p<|Ar _ z) λz=>by
  obtain⟨c,e⟩:=q1i z;obtain⟨l,f1,f2,_⟩:=i p.1 c;obtain⟨o,f,d⟩:=j p.1 c;rw[e]at f;cases f;exact⟨e,l,f1,f2,d⟩
def be.du(I:be X (a++d) b H s):be X a b H s:=I.kD λp c=>I.pin p<|Ar _<|As _ c
def zr(z:PassesOwn (model X.prog X.w) X.A X.env X.xe)(Y:X.calm=true)(hi:PI X tg iter wi)(hg:PG X tg g)(j:lF X body tb)
  (hs:∀x,foldedSetIterable iter X.env x=pure x:=by intro _;rfl):PS X (.For tg iter body [] pos) (Kn wi g tb):=by
 intro a s σ H D I h;refine wpAny_For (aO (hi a s σ H _ I h) λv s1 h1=>aO h1 λm8 s2 h2=>?_) hs;obtain⟨it,A,tn,J,H2,e,I2,T,cf,f2,W,⟨m0,w0⟩,turn⟩:=h2;subst e;have k:∀{w:Hp},(∀b∈A,w b=none)->∀b∈A,cJ X a w b:=λhn b j=>⟨hn b j,(f2 b j).2⟩;refine codeAny_forLoop_any (λn s'=>∃i l w,be X a l w s'/\tn i s'.heap/\(∀b∈A,w b=none)/\W i n l w) ?_ m0 ⟨0,σ,H2,I2,cf,λb j=>(f2 b j).1,w0⟩;rintro n s3 ⟨i,p,E,I3,Tj,Tl,w3⟩
 obtain⟨stop,qn⟩|⟨go,N,hN,step⟩:=turn i n p E w3
 ·refine HX z<|aO (T.done X rfl rfl rfl Y i a s3 p E X.xe I3 (k Tl) Tj stop) λr s4⟨G,I4⟩=>?_;subst G;exact SM ⟨p,E,I4,qn⟩
 ·refine HX z<|aO (T.item X rfl rfl rfl Y i a s3 p E X.xe I3 (k Tl) Tj go) λr s4⟨u,G,h4⟩=>?_;subst G;refine HX z<|aO h4 λ_ s5⟨x,H5,I5,r5,y5,L,M⟩=>?_;refine HX z<|aO (hg _ s5 p H5 x u _ (I5.pinned (k M)<|T.obj _ _ L) r5<|step x H5 y5) λ_ s6⟨O,H6,I6,q6⟩=>?_;refine HX z<|aO (j _ s6 O H6 _ I6 q6) λf Q y=>?_;have again:∀{c:St}{q:Hp},be X (a++x5 A s5.heap) c q Q->N c q->∃m,m<n/\∃i l w,be X a l w Q/\tn i Q.heap/\(∀b∈A,w b=none)/\W i m l w:=λ{c q}t B=>by
   obtain⟨m',hm,w7⟩:=hN c q B;refine⟨m',hm,i+1,c,q,t.du,T.keep _ _ _ L λb j o e=>(t.pin (b,o)<|Ar _<|Ar _<|D9 j e).1,λb j=>?_,w7⟩;obtain⟨o,e,d⟩:=T.obj _ _ L b j;exact(t.pin (b,o)<|Ar _<|Ar _<|D9 j e).2.1
  cases f with
  |next=>obtain⟨c,q,t,B⟩:=y;exact again t B
  |cont=>obtain⟨c,q,t,B⟩:=y;exact again t B
  |brk=>obtain⟨c,q,t,y⟩:=y;exact⟨c,q,t.du,y⟩
  |ret v=>obtain⟨x7,c,q,t,r7,y⟩:=y;exact⟨x7,c,q,t.du,r7,y⟩
abbrev R2:=V->V->Hp->VK->Prop
def dN(X:Cx)(f:Value->Value->Sem Value)(r:R2):Prop:=
 ∀a s b H x y v u Q,be X a b H s->br x v->br y u->r x y H Q ->
  ar X (f v u) (EP X a b Q) X.xe s
def EA(X:Cx)(f:Value->Sem Value)(r:V->Hp->VK->Prop):Prop:=
 ∀a s b H x v Q,be X a b H s->br x v->r x H Q ->
  ar X (f v) (EP X a b Q) X.xe s
def i7(X:Cx)(f:Value)(r:List V->Hp->VK->Prop):Prop:=
 ∀a s b H xs us Q,be X a b H s->aC xs us->r xs H Q ->
  ar X (call f us) (EP X a b Q) X.xe s
def Kq(X:Cx)(r:V->Hp->(Bool->Hp->Prop)->Prop):Prop:=
 ∀a s b H x v Q,be X a b H s->br x v->r x H Q ->
  ar X (truthy v) (TP X a b Q) X.xe s
def EB(r:R2)(ta b:TE):TE:=λa H Q=>ta a H λx c=>b a c λy d=>r x y d Q
def Sa(r:V->Hp->VK->Prop)(ta:TE):TE:=λa H Q=>ta a H λx b=>r x b Q
inductive rI(C:Int->Int->Prop)(g:Int->Int->V)(x y:V)(H:Hp)(Q:VK):Prop
 |mk (i j:_)(_:x=.int i)(_:y=.int j)(_:C i j)(_:Q (g i j) H)
inductive wj(g:Int->Int->V)(x y:V)(H:Hp)(Q:VK):Prop
 |mk (i j:_)(_:x=.int i)(_:y=.int j)(_:Q (g i j) H)
inductive rU(g:Int->V)(x:V)(H:Hp)(Q:VK):Prop
 |mk (i:_)(_:x=.int i)(_:Q (g i) H)
def tU(k:PE X a ta)(l:PE X b m){R:V->V->Hp->Prop}(I:be X c e H s)
  (h:ta e H λx j=>m e j λy d=>R x y d)  {f:Value->Value->Sem Value}
  (n:∀v u i x y d,be X c e d i->br x v->br y u->R x y d->ar X (f v u) Q X.xe i):
  ar X (eval a X.env) (λv o=>ar X (eval b X.env) (λu p=>ar X (f v u) Q X.xe p) X.xe o) X.xe s:=by
 refine aO (k c s e H _ I h) λv q⟨x,j,r,t,w⟩=>?_;refine aO (l c q e j _ r w) λu i⟨y,d,z,A,B⟩=>?_;exact n v u i x y d z t A B
def kP{op:Operator}{r:R2}(d:dN X (binaryOp op) r)(e:PE X a ta)(f:PE X b i):PE X (.BinOp a op b pos) (EB r ta i):=by
 intro c s j H Q I h;exact wpAny_BinOp<|tU e f I h λv u k x y l m n o q=>d c k j l x y v u Q m n o q
def Ze(d:EA X (unaryOp op) r)(e:PE X a ta):PE X (.UnaryOp op a pos) (Sa r ta):=by
 intro b s c H Q I h;exact UnaryOp_<|aO (e b s c H _ I h) λv f⟨x,i,j,k,l⟩=>d b f c i x v Q j k l
def EC{g:Int->Int->Int}
  (rule:∀i j t u s Q E,a i j->Q (.int (g i j) s.toks) {s with toks:=s.toks+1}->ar X (f (.int i t)<|.int j u) Q E s):
  dN X f (rI a λi j=> .int<|g i j):=by
 intro b s l H x y v u Q I c d h;obtain⟨i,j,rfl,rfl,e,q⟩:=h;obtain⟨t,rfl⟩:=c;obtain⟨k,rfl⟩:=d;exact rule i j t k s _ _ e ⟨.int<|g i j,H,I.tok _,⟨_,rfl⟩,q⟩
def x6{g:Int->Int->Int}
  (rule:∀i j t u s Q E,Q (.int (g i j) s.toks) {s with toks:=s.toks+1}->ar X (f (.int i t)<|.int j u) Q E s):
  dN X f (wj λi j=> .int<|g i j):=by
 intro a s e H x y v u Q I b c h;obtain⟨i,j,rfl,rfl,q⟩:=h;obtain⟨t,rfl⟩:=b;obtain⟨d,rfl⟩:=c;exact rule i j t d s _ _ ⟨.int<|g i j,H,I.tok _,⟨_,rfl⟩,q⟩
def x8{g:Int->Int->Bool}
  (rule:∀i j t u s Q E,Q (.bool<|g i j) s->ar X (f (.int i t)<|.int j u) Q E s):
  dN X f (wj λi j=> .bl<|g i j):=by
 intro a s e H x y v u Q I b c h;obtain⟨i,j,rfl,rfl,q⟩:=h;obtain⟨t,rfl⟩:=b;obtain⟨d,rfl⟩:=c;exact rule i j t d s _ _ ⟨.bl<|g i j,H,I,rfl,q⟩
def x9(i j:Int):Prop:=0<j/\j<1073741824
def Kr(i j:Int):Prop:=0<=j/\j<=1000000/\i.natAbs<2 ^ 64
def tV(i j:Int):Prop:=(-(2 ^ 64)<i/\i<2 ^ 64)\/(-(2 ^ 64)<j/\j<2 ^ 64)
def tV.ok(h:tV i j):IntMulOk i j:=by
 obtain⟨a,b⟩|⟨a,b⟩:=h
 ·exact .of_left<|intBits_le_64 a b
 ·exact .of_right<|intBits_le_64 a b
def gR:dN X (binaryOp .Add) (wj λi j=> .int<|i+j):=x6 λ_ _ _ _ _ _ _ q=>add_int q
def Ks:dN X (binaryOp .Sub) (wj λi j=> .int<|i-j):=x6 λ_ _ _ _ _ _ _ q=>sub_int q
def ya{X:Cx}:dN X (binaryOp .Mult) (rI tV λi j=> .int<|i*j):=EC λ_ _ _ _ _ _ _ a q=>mul_int q a.ok
def kG:dN X (binaryOp .FloorDiv) (rI x9 λi j=> .int<|i/j):=EC λi j _ _ _ _ _ a q=>by
 have b:(0:Int)<j:=a.1;have c:j<1073741824:=a.2;exact floordiv_int (by lia) (by rwa[Int.fdiv_eq_ediv_of_nonneg i<|by lia])<|.inl<|PyProof.noPylong_small<|by lia
def di:dN X (binaryOp .Mod) (rI (λ_ j=>0<j) λi j=> .int<|i%j):=EC λi j _ _ _ _ _ a q=>by
 have b:(0:Int)<j:=a;exact mod_int' (by lia)<|by rwa[Int.fmod_eq_emod_of_nonneg i<|by lia]
def Kt{X:Cx}:dN X (binaryOp .Pow) (rI Kr λi j=> .int<|i ^ j.toNat):=EC λ_ _ _ _ _ _ _ a q=>pow_int_small a.1 a.2.1 a.2.2 q
def unI{g:Int->Int}
  (rule:∀i t s Q E,Q (.int (g i) s.toks) {s with toks:=s.toks+1}->ar X (f<|.int i t) Q E s):
  EA X f (rU λi=> .int<|g i):=by
 intro a s c H x v Q I b h;obtain⟨i,rfl,q⟩:=h;obtain⟨t,rfl⟩:=b;exact rule i t s _ _ ⟨.int<|g i,H,I.tok _,⟨_,rfl⟩,q⟩
def tW:EA X (unaryOp .USub) (rU λi=> .int (-i)):=unI λ_ _ _ _ _ q=>neg_int q
def yb:V->V->Bool
 |.non,.non=>true|.non,.int _=>true|.int _,.non=>true|.non,.bl _=>true|.bl _,.non=>true|.non,.str _=>true|.str _,.non=>true
 |.int _,.int _=>true|.bl _,.bl _=>true|.str _,.str _=>true|.lE _,.lE _=>true
 |.int _,.str _=>true|.str _,.int _=>true|.bl _,.str _=>true|.str _,.bl _=>true
 |_,_=>false
def Js:R2:=λx y H Q=>yb x y=true/\Q (.bl<|decide (x=y)) H
def WC:R2:=λx y H Q=>yb x y=true/\Q (.bl (!decide (x=y))) H
def To:decide (V.int i=V.int j)=(i == j):=by
 rw[Ct];simp
def ED:decide (V.bl i=V.bl j)=(i == j):=by
 rw[Ct];simp
def Tq:decide (V.str i=V.str j)=(i == j):=by
 rw[Ct];simp
def Tr:decide (V.lE i=V.lE j)=(i.toList == j.toList):=by
 rw[Ct];cases i;cases j;simp
def dj(I:be X a b H s)(q:Q (.bl k) H)(e:k=c):EP X a b Q (.bool c) s:=by
 subst e;exact⟨.bl k,H,I,rfl,q⟩
theorem fQ:dN X (compareOp .Eq) Js:=by
 intro e s f H x y v u Q I d a h;obtain⟨c,q⟩:=h;cases x with
 |non=>
  cases d;cases y with
  |non=>cases a;exact PySem.EqNone.eq_none_none<|dj I q<|by simp
  |bl j=>cases a;exact PySem.EqNone.eq_none_bool<|dj I q<|by simp
  |int j=>obtain⟨b,rfl⟩:=a;exact PySem.EqNone.eq_none_int<|dj I q<|by simp
  |str j=>obtain⟨b,rfl⟩:=a;exact PySem.EqNone.eq_none_str<|dj I q<|by simp
  |_=>cases Av (show false=true from c)
 |bl i=>
  cases d;cases y with
  |non=>cases a;exact PySem.EqNone.eq_bool_none<|dj I q<|by simp
  |bl j=>cases a;exact eq_bool<|dj I q ED
  |str j=>obtain⟨b,rfl⟩:=a;exact PySem.EqMixed.eq_bool_str<|dj I q<|by simp
  |_=>cases Av (show false=true from c)
 |int i=>
  obtain⟨t,rfl⟩:=d;cases y with
  |non=>cases a;exact PySem.EqNone.eq_int_none<|dj I q<|by simp
  |int j=>obtain⟨b,rfl⟩:=a;exact eq_int<|dj I q To
  |str j=>obtain⟨b,rfl⟩:=a;exact PySem.EqMixed.eq_int_str<|dj I q<|by simp
  |_=>cases Av (show false=true from c)
 |str i=>
  obtain⟨t,rfl⟩:=d;cases y with
  |non=>cases a;exact PySem.EqNone.eq_str_none<|dj I q<|by simp
  |bl j=>cases a;exact PySem.EqMixed.eq_str_bool<|dj I q<|by simp
  |int j=>obtain⟨b,rfl⟩:=a;exact PySem.EqMixed.eq_str_int<|dj I q<|by simp
  |str j=>obtain⟨b,rfl⟩:=a;exact eq_str<|dj I q Tq
  |_=>cases Av (show false=true from c)
 |lE i=>
  obtain⟨t,rfl⟩:=d;cases y with
  |lE j=>obtain⟨b,rfl⟩:=a;exact PySem.W.eq_bytes<|dj I q Tr
  |_=>cases Av (show false=true from c)
 |_=>cases y<;>cases Av (show false=true from c)
theorem tX:dN X (compareOp .NotEq) WC:=by
 intro e s f H x y v u Q I d a h;obtain⟨c,q⟩:=h;cases x with
 |non=>
  cases d;cases y with
  |non=>cases a;exact PySem.EqNone.ne_none_none<|dj I q<|by simp
  |bl j=>cases a;exact PySem.EqNone.ne_none_bool<|dj I q<|by simp
  |int j=>obtain⟨b,rfl⟩:=a;exact PySem.EqNone.ne_none_int<|dj I q<|by simp
  |str j=>obtain⟨b,rfl⟩:=a;exact PySem.EqNone.ne_none_str<|dj I q<|by simp
  |_=>cases Av (show false=true from c)
 |bl i=>
  cases d;cases y with
  |non=>cases a;exact PySem.EqNone.ne_bool_none<|dj I q<|by simp
  |bl j=>cases a;exact ne_bool<|dj I q<|BX not ED
  |str j=>obtain⟨b,rfl⟩:=a;exact PySem.EqMixed.ne_bool_str<|dj I q<|by simp
  |_=>cases Av (show false=true from c)
 |int i=>
  obtain⟨t,rfl⟩:=d;cases y with
  |non=>cases a;exact PySem.EqNone.ne_int_none<|dj I q<|by simp
  |int j=>obtain⟨b,rfl⟩:=a;exact ne_int<|dj I q<|BX not To
  |str j=>obtain⟨b,rfl⟩:=a;exact PySem.EqMixed.ne_int_str<|dj I q<|by simp
  |_=>cases Av (show false=true from c)
 |str i=>
  obtain⟨t,rfl⟩:=d;cases y with
  |non=>cases a;exact PySem.EqNone.ne_str_none<|dj I q<|by simp
  |bl j=>cases a;exact PySem.EqMixed.ne_str_bool<|dj I q<|by simp
  |int j=>obtain⟨b,rfl⟩:=a;exact PySem.EqMixed.ne_str_int<|dj I q<|by simp
  |str j=>obtain⟨b,rfl⟩:=a;exact ne_str<|dj I q<|BX not Tq
  |_=>cases Av (show false=true from c)
 |lE i=>
  obtain⟨t,rfl⟩:=d;cases y with
  |lE j=>obtain⟨b,rfl⟩:=a;exact PySem.W.ne_bytes<|dj I q<|BX not Tr
  |_=>cases Av (show false=true from c)
 |_=>cases y<;>cases Av (show false=true from c)
def xP:dN X (compareOp .Lt) (wj λi j=> .bl<|decide (i<j)):=x8 λ_ _ _ _ _ _ _ q=>lt_int q
def ny:dN X (compareOp .Gt) (wj λi j=> .bl<|decide (j<i)):=x8 λ_ _ _ _ _ _ _ q=>gt_int q
def Ru(d:dN X (compareOp op) r)(e:PE X a ta)(f:PE X b i)(j:behindInMarks op b=false):PE X (.Compare a [op] [b] pos) (EB r ta i):=by
 intro c s k H Q I h;exact wpAny_Compare1 (tU e f I h λv u l x y m n o p q=>d c l k m x y v u Q n o p q) j
def Oz(t:TE):TT:=λa H Q=>t a H λx b=>∃k,x=.bl k/\Q k b
def AN(i:dN X (compareOp op) r)(j:PE X a ta)(l:PE X b m)(n:behindInMarks op b=false):PT X (.Compare a [op] [b] pos) (Oz<|EB r ta m):=by
 intro d s f H Q I h;refine wpAny_isTrue_Compare1 (aO (j d s f H _ I h) λv o⟨x,p,q,t,w⟩=>aO (l d o f p _ q w) λu A⟨y,B,D,E,G⟩=>
  aO (i d A f B x y v u _ D t E G) λc O⟨z,J,L,M,k,e,N⟩=>?_) n
 subst e;cases M;exact FT ⟨J,L,N⟩
def tY(K:aa)(x:V)(H:Hp)(k:Bool):Prop:=
 match x with
 |.non=>k=false
 |.bl b=>k=b
 |.int i=>k=(i != 0)
 |.str y=>y.length<=sizeLine/\k=((y.length:Int) != 0)
 |.lE y=>y.size<=sizeLine/\k=((y.size:Int) != 0)
 |.ref p=>(∃xs,av K H p xs/\k = !xs.isEmpty)\/(∃xs,aU K H p xs/\k = !xs.isEmpty)\/∃kvs,H p=some (.dK kvs)/\k = !kvs.isEmpty
 |_=>False
def bS(r:KV kvs vs):(!vs.isEmpty) = !kvs.isEmpty:=by
 cases r<;>rfl
def Ts(r:aC xs a):(!a.toArray.isEmpty) = !xs.isEmpty:=by
 cases r<;>simp
def yc:(sizeLine:Nat)<2 ^ 63:=by rw[DW];decide
theorem wr:Kq X (λx H Q=>∃k,tY X.K x H k/\Q k H):=by
 intro o s A H x v Q I d h;obtain⟨k,e,q⟩:=h;have B:sizeLine=16777216:=DW;cases x with
 |non=>
  cases d;have a:=e;subst a;exact truthy_none ⟨H,I,q⟩
 |bl b=>
  cases d;have a:=e;subst a;exact FT ⟨H,I,q⟩
 |int i=>
  obtain⟨t,rfl⟩:=d;have a:=e;subst a;exact PySem.P.truthy_int ⟨H,I,q⟩
 |str y=>
  obtain⟨t,rfl⟩:=d;obtain⟨w,a⟩:y.length<=sizeLine/\k=((y.length:Int) != 0):=e;subst a;exact PySem.P.truthy_str (by lia) ⟨H,I.tok _,q⟩
 |lE y=>
  obtain⟨t,rfl⟩:=d;obtain⟨w,a⟩:y.size<=sizeLine/\k=((y.size:Int) != 0):=e;subst a;exact PySem.W.truthy_bytes (by lia) ⟨H,I.tok _,q⟩
 |ref p=>
  cases d;have a:=e
  obtain⟨xs,f,a⟩|⟨xs,f,a⟩|⟨kvs,f,a⟩:=a
  ·subst a;obtain⟨l,r,n,u⟩:=I.list f;have c:=r.length;exact wpAny_truthy_list n.isList (by simp;lia) ⟨H,I.tok _,by rwa[Ts r]⟩
  ·subst a;obtain⟨l,r,n,u⟩:=I.tuple f;have c:=r.length;exact truthy_tuple n (by simp;omega) ⟨H,I.tok _,by rwa[Ts r]⟩
  ·subst a;obtain⟨u,z,j,r,m⟩:kvs.length<=sizeLine/\(p == sysModules)=false/\∃j,KV kvs j/\s.heap.DictOf (eV X.prog X.w) p j:=I.aP p _ f;have c:kvs.length=j.length:=Paired.length r;exact wpAny_truthy_dict z m (by lia) ⟨H,I.tok _,by rwa[bS r]⟩
 |_=>exact(show False from e).elim
def q38(d:PE X a ta)(e:∀whole,isTrue a X.env whole=(do let v <-whole;standAt a.pos;holding [v] (truthy v))):
  PT X a (λc H Q=>ta c H λx H'=>∃k,tY X.K x H' k/\Q k H'):=by
 intro b s c H Q I h;exact isTrue_plain (aO (d b s c H _ I h) λv f⟨x,i,j,l,m⟩=>wr b f c i x v Q j l m)<|e _
inductive ig(x y:V)(H:Hp)(Q:VK):Prop
 |mk (i j:_)(_:x=.str i)(_:y=.str j)(_:i.length+j.length<=sizeLine)(_:Q (.str<|i++j) H)
def C9:dN X (binaryOp .Add) ig:=by
 intro a s f H x y v u Q I b c h;obtain⟨i,j,rfl,rfl,d,q⟩:=h;obtain⟨t,rfl⟩:=b;obtain⟨e,rfl⟩:=c;exact add_str (λe k=>⟨.str<|i++j,H,I.tok _,⟨_,rfl⟩,q⟩) d
theorem io(r:aC [x] us):∃u,us=[u]/\br x u:=by
 cases r with
 |cons a b=>cases b;exact⟨_,rfl,a⟩
theorem wS(r:aC [x,y] us):∃u a,us=[u,a]/\br x u/\br y a:=by
 cases r with
 |cons b c=>
  cases c with
  |cons d e=>cases e;exact⟨_,_,rfl,b,d⟩
inductive i8(xs:List V)(H:Hp)(Q:VK):Prop
 |mk (i j:_)(_:xs=[.int i,.int j])(_:Q (.int (if j>i then j else i)) H)
def Tv(c:X.calm=true):i7 X (.builtin "max") i8:=by
 intro b s d H xs us Q I r h;obtain⟨i,j,rfl,q⟩:=h;obtain⟨u,e,rfl,⟨t,rfl⟩,⟨f,rfl⟩⟩:=wS r;refine max_two_ints (I.ok.hd c) λl m k=>⟨_,H,I.kept k,?_,q⟩
 by_cases a:j>i
 ·rw[BL a,BL a];exact⟨_,rfl⟩
 ·rw[C a,C a];exact⟨_,rfl⟩
theorem gN.some_of(r:gN (some v) o):∃u,o=some u/\br v u:=by
 cases o with
 |none=>exact(show False from r).elim
 |some u=>exact⟨u,rfl,r⟩
structure bJ(k:Nat)(A:Around):Prop where
 hd:A.handled=none
 dp:A.depth+3*k+5<recursionLimit
 un:A.units+16*k+200<cLine
def bJ.mono(r:bJ k A)(h:j<=k):bJ j A:=⟨r.hd,by have:=r.dp;lia,by have:=r.un;lia⟩
def bJ.deeper(r:bJ (k+1) A)(env:Env):bJ k (A.deeper env):=
 ⟨r.hd,by have:=r.dp;show A.depth+1+3*k+5<_;lia,by have:=r.un;show A.units+3+16*k+200<_;lia⟩
def bJ.depth(r:bJ k A):A.depth<recursionLimit:=by have:=r.dp;lia
def Ku:TA:=λ_ H Q=>Q [] H
def Tx(ta:TE)(b:TA):TA:=λa H Q=>ta a H λx c=>b a c λxs d=>Q (x :: xs) d
def lV:PA X [] Ku:=λ_ _ _ _ H Q I h=>Calls.spliced_nil ⟨[],H,I,.nil,h⟩
def xN(d:PE X e f)(i:PA X b t)(j:starEach (e :: b) X.env=(false,eval e X.env):: starEach b X.env:=by rfl):PA X (e :: b) (Tx f t):=by
 intro pos a s c H Q I h;rw[j];refine Calls.spliced_cons<|aO (d a s c H _ I h) λu k⟨x,l,m,n,o⟩=>?_;exact aO (i pos a k c l _ m o) λus w⟨xs,p,q,r,v⟩=>⟨x :: xs,p,q,.cons n r,v⟩
def Kv(t:TA):TE:=λb H Q=>t b H λxs a=>xs.length<=sizeLine/\∀p,a p=none->Q (.ref p) (upd a p<|.tup xs)
def Kw(t:TA):TE:=λb H Q=>t b H λxs a=>xs.length<=sizeLine/\∀p,a p=none->Q (.ref p) (upd a p<|.lst xs)
def x0a{f}(h:PA X i t):PE X (.Tuple i f pos) (Kv t):=by
 intro a s j H Q I k;refine wpAny_Tuple_spliced (aO (h pos a s j H _ I k) λus c⟨xs,l,d,r,z,q⟩=>⟨by rwa[<-r.length],?_⟩);refine⟨.ref c.heap.objs.size,upd l c.heap.objs.size<|.tup xs,d.laid (λb u e=>Am _ e) (Aq _) ?_,rfl,q _ (d.aP.fresh<|Aq _)⟩;exact⟨z,us,r,⟨_,Az _ rfl,rfl,_,rfl⟩⟩
def zY(h:PA X f t):PE X (.List f pos) (Kw t):=by
 intro a s i H Q I j;refine wpAny_List_spliced (aO (h pos a s i H _ I j) λus c⟨xs,k,d,r,z,q⟩=>⟨by rwa[<-r.length],?_⟩);refine⟨.ref c.heap.objs.size,upd k c.heap.objs.size<|.lst xs,d.laid (λb u e=>Am _ e) (Aq _) ?_,rfl,q _ (d.aP.fresh<|Aq _)⟩;exact⟨z,us,0,r,Az _ rfl⟩
abbrev Sp:=List V->Hp->VK->XK->Prop
abbrev jY:=List Env->Hp->Shared->XK->Î
structure qd(P:Program)(w:World)(K:aa)(mg:Ò)(base:Heap)(A:Around)(outer:List Env)(s:Shared)(H:Hp):Prop where
 frames:A.frames=some outer
 mod:AD K mg base
 bs:∀b o,base.get? b=some o->s.heap.get? b=some o/\H b=none
 rG:base.objs.size<=s.heap.objs.size
 fN:s.heap.FunFrames base outer
 v8:∀b∈gP outer,H b=none
 aP:cG P w H s.heap
 bare:AllBare s.gens
def CE(outer:List Env)(P:Program)(w:World)(H:Hp)(s:Shared)(Q:VK)(u:Value)(s':Shared):Prop:=
 ∃v a,s'.os=s.os/\AllBare s'.gens/\Un (gP outer) [] H a s.heap s'.heap/\cG P w a s'.heap/\br v u/\Q v a
def CR(CX:jY)(outer:List Env)(P:Program)(w:World)(H:Hp)(s:Shared)(Q:VK)(E:XK)(r:Result)(s':Shared):Prop:=
 match r with
 |.ok (.ret u)=>CE outer P w H s Q u s'
 |.ok _=>False
 |.error e=>CX outer H s E e s'
structure aG(P:Program)(w:World)(K:aa)(mg:Ò)(base:Heap)(CX:jY)(k:Nat)(f:Addr)(fd:FuncData)(ps:Ñ)(sp:Sp):Prop where
 len:∀vs H Q E,sp vs H Q E->vs.length=ps.length
 run:∀A outer s H args us vs Q E,bJ k A->qd P w K mg base A outer s H->BindsTo s fd args (ps.zip us)->aC vs us->sp vs H Q E ->
  codeAny (model P w) A (.call (.ref f) args) (CR CX outer P w H s Q E) s
def aG.mono{K:aa}(F:aG P w K mg base CX j f b ps sp)(h:j<=k):
  aG P w K mg base CX k f b ps sp:=⟨F.len,λA a s H args us c Q E d=>F.run A a s H args us c Q E<|d.mono h⟩
def be.Kx(I:be X a b H s):qd X.prog X.w X.K X.mg X.base X.A X.stack s H:=
 ⟨I.ok.frames,I.ok.mod,I.bs,Cd I.ok.rG I.sz,I.stack,I.fc,I.aP,I.bare⟩
def be.after(I:be X a e H s)(h:CE X.stack X.prog X.w H s Q u s'):EP X a e Q u s':=by
 obtain⟨v,f,os,c,un,i,r,q⟩:=h;obtain⟨k,g,d,t,j⟩:=s';obtain rfl:j=s.os:=os;exact⟨v,f,I.call un i c (λb z=>absurd z<|by simp),r,q⟩
def Tz(sp:Sp)(a:List V)(E:XK)(t:TA):TE:=λb H Q=>t b H λc d=>sp (c++a) d Q E
def ma(K:aa)(b:FuncData)(ps:Ñ)(a:Ó):Prop:=
 ∀s us,K.In s.heap->(us++a).length=ps.length->BindsTo s b ⟨us,[]⟩ (ps.zip<|us++a)
def ma.all{K:aa}(h:∀us:Ó,us.length=ps.length->bindArgs b ⟨us,[]⟩=pure (ps.zip us)):ma K b ps []:=λs us _ a=>by
 rw[Bd]at a ⊢;exact .of_eq<|h us a
def qf(CX:jY)(X:Cx)(E:XK):Prop:=∀a c H s e b,be X a c H s->CX X.stack H s E e b->X.xe e b
theorem dt(F:aG X.prog X.w X.K X.mg X.base CX k f l ps sp)(m:bJ k X.A)(n:ma X.K l ps c)(hd:aC d c)(o:qf CX X E)
  (I:be X a i H s) (r:aC vs us) (h:sp (vs++d) H Q E):ar X (call (.ref f) us) (EP X a i Q) X.xe s:=by
 have j:=r.append hd;have p:(us++c).length=ps.length:=j.length▸(F.len _ _ _ _ h)
 refine wpAny_call<|JK (F.run X.A X.stack s H ⟨us,[]⟩ (us++c) (vs++d) Q E m I.Kx (n s us I.v9 p) j h) λr q b=>?_;cases r with
 |error e=>exact o a i H s e q I b
 |ok t=>
  cases t with
  |ret u=>exact I.after b
  |next=>exact False.elim b
  |brk=>exact False.elim b
  |cont=>exact False.elim b
def QH(F:aG X.prog X.w X.K X.mg X.base CX k f d ps sp)(i:bJ k X.A)(j:Gl X x)(l:X.mg x=some (.ref f))(m:PySem.W.keepIn X.K (.ref f)=true)(n:ma X.K d ps o)(hd:aC u o)(v:qf CX X E)
  (w:PA X (e :: b) t) (y:(x == ("__debug__" : Str))=false:=by decide) (z:starEach (e :: b) X.env=(false,eval e X.env):: starEach b X.env:=by rfl) (A:(backTo pos<|starEach b X.env).any (·.1)=false:=by rfl):
  PE X (.Call (.Name x p) (e :: b) [] pos) (Tz sp u E t):=by
 intro a s B H Q I h;refine KC<|S8 I j l ?_ y;refine PySem.W.callWith_K I.ok.mod.xS m (aO (w pos a s B H _ I h) λus D⟨G,J,c,r,q⟩=>⟨c.v9,?_⟩) z A;exact dt F i n hd v c r q
structure ak(N P:Ñ)(sc:Scope):Prop where
 kind:sc.kind=.function
 co:sc.isCoroutine=false
 gen:sc.isGenerator=false
 nd:N.Nodup
 pre:N.take P.length=P
 par:∀x∈P,sc.names.lookup x=some .local\/sc.names.lookup x=some .cell
 jZ:∀y∈sc.names,y.2 ≠ .free
theorem TB{kindOf:Str->Option NameKind}:∀{a}{m},(∀v,(x,v)∉a)->bindL kindOf a m x=m x
 |[],_,_=>rfl
 |(n,v):: r,m,h=>by
  rw[bindL,TB λw b=>h w<|Af _ b]
  split
  ·have:x≠n:=by rintro rfl;exact h v Ac
   simp[this]
  ·rfl
theorem TC{kindOf:Str->Option NameKind}:∀{a}{m},(∀v,(x,v)∉a)->bindC kindOf a m x=m x
 |[],_,_=>rfl
 |(n,v):: r,m,h=>by
  rw[bindC,TC λw b=>h w<|Af _ b]
  split
  ·rfl
  ·have:x≠n:=by rintro rfl;exact h v Ac
   simp[this]
theorem TD{kindOf:Str->Option NameKind}:∀{P:Ñ}{vs:Ó}{i:Nat}{m:Ò},P.Nodup->P[i]?=some x->vs[i]?=some v->kindOf x=some .local ->
  bindL kindOf (P.zip vs) m x=some v
 |[],_,_,_,_,h,_,_=>by simp at h
 |_ :: _,[],_,_,_,_,h,_=>by simp at h
 |p :: P,w :: vs,0,m,nd,a,b,c=>by
  simp at a b;subst a;subst b;show bindL kindOf ((p,w):: P.zip vs) m p=_;rw[bindL,TB λv d=>(Bb.mp nd).1 (SN d).1,BL c];simp
 |p :: P,w :: vs,i+1,m,nd,a,b,c=>by
  unfold bindL;exact TD (i:=i) (Bb.mp nd).2 (by simpa using a) (by simpa using b) c
theorem TH{kindOf:Str->Option NameKind}:∀{P:Ñ}{vs:Ó}{i:Nat}{m:Ò},P.Nodup->P[i]?=some x->vs[i]?=some v->kindOf x≠some .local ->
  bindC kindOf (P.zip vs) m x=some v
 |[],_,_,_,_,h,_,_=>by simp at h
 |_ :: _,[],_,_,_,_,h,_=>by simp at h
 |p :: P,w :: vs,0,m,nd,a,b,c=>by
  simp at a b;subst a;subst b;show bindC kindOf ((p,w):: P.zip vs) m p=_;rw[bindC,TC λv d=>(Bb.mp nd).1 (SN d).1,C c];simp
 |p :: P,w :: vs,i+1,m,nd,a,b,c=>by
  unfold bindC;exact TH (i:=i) (Bb.mp nd).2 (by simpa using a) (by simpa using b) c
def il(N:Ñ)(vs:List V):St:=vs.map some++replicate (N.length-vs.length) none
noncomputable def dY(CX:jY)(P:Program)(w:World)(K:aa)(mg:Ò)(base:Heap)(N:Ñ)(qual:Str)(scope:Scope)(f:Addr)(cd:Value)(A:Around)(outer:List Env)(s:Shared)(H:Hp)(E:XK):Cx where
 prog:=P
 w:=w
 K:=K
 mg:=mg
 base:=base
 A:=A.deeper<|envOfC qual scope s.heap.objs.size f cd
 N:=N
 s₀:=s
 H₀:=H
 env:=envOfC qual scope s.heap.objs.size f cd
 outer:=outer
 stack:=envOfC qual scope s.heap.objs.size f cd :: outer
 ex:=[]
 calm:=true
 fn:=λ_=>true
 pn:=[]
 xe:=λe s'=>wpAny (model P w) (A.deeper<|envOfC qual scope s.heap.objs.size f cd) (leaving (envOfC qual scope s.heap.objs.size f cd) e) (λ_ t6=>CX outer H s E e t6) (λe' t6=>CX outer H s E e' t6) s'
def TK{a:Scope}(h:a.names.lookup x=some .cell):∃c,(cellsFrom n a.names []).lookup x=some c:=by
 exact Fr.mp (JD a.names n []<|.inl h)
def da{K:aa}{vs:List V}
  (S:ak N ps scope) (hd:A.handled=none) (l:qd P w K mg base A outer s H) (Q:vs.length=ps.length) (r:aC vs us)
  (x:InCallC s s.heap.objs.size (bindL (envOfC j scope s.heap.objs.size f B).kindOf (ps.zip us) λ_=>none) (cellsFrom (s.heap.objs.size+1) scope.names []) (bindC (envOfC j scope s.heap.objs.size f B).kindOf (ps.zip us) λ_=>none) M):
  be (dY CX P w K mg base N j scope f B A outer s H E) [] (il N vs) H M:=by
 have T:ps.length<=N.length:=by have:=BX List.length S.pre;rw[Bm]at this;lia
 obtain⟨D,Y,rfl,I⟩:=x.done;have G:∀b:Addr,b∉(dY CX P w K mg base N j scope f B A outer s H E).ex:=λb z=>absurd (show b∈([]:List Addr)from z) (by simp);refine⟨⟨l.mod,S.kind,rfl,rfl,Aq _,λy z c D d=>?_,λy m=>?_,λy c _ h=>?_,λ_=>hd,Around.frames_deeper l.frames,.inr ⟨rfl,rfl⟩,λb z=>absurd z<|G b,l.bs,l.rG,λb _ _=>G b,λb z=>absurd z<|G b,l.fN,l.v8⟩,
  rfl,l.bare,Un.kept I,⟨_,x.toInCall.ns,λi y v D d h3=>?_⟩,λy c h=>⟨_,x.cell y c h⟩,l.aP.fresh<|Aq _,λy c h=>?_,λp o=>absurd (show p∈([]:Ð)from o) (by simp),l.aP.kept I,?_⟩
 ·exact name_of_addr x.apart (DK D)<|DK d
 ·have m:scope.names.lookup y=some .cell\/scope.names.lookup y=some .free:=m
  obtain m|m:=m
  ·exact TK m
  ·cases (S.jZ _<|DK m) rfl
 ·exact Cv<|x.above y c<|DK h
 ·have t:i<vs.length:=by
   unfold il at d
   by_cases t:i<vs.length
   ·exact t
   ·rw[Ay<|by simpa using t]at d;rw[Ft]at d
    split at d<;>cases d
  have O:vs[i]?=some v:=by
   unfold il at d;rw[Aw (by simpa using t),Aj]at d;cases e:vs[i]? with
   |none=>rw[e]at d;cases d
   |some a=>rw[e]at d;cases d;rfl
  obtain⟨u,J,rv⟩:=r.get O;have o:ps[i]?=some y:=by
   rwa[<-S.pre,Eb<|by lia]
  have L:ps.Nodup:=S.pre▸(S.nd.sublist<|List.take_sublist _ _)
  refine⟨u,rv,?_⟩
  obtain k|k:=S.par y (An o)
  ·exact .inl ⟨k,TD L o J k⟩
  ·obtain⟨c,e⟩:=TK (n:=s.heap.objs.size+1) k;refine .inr ⟨.inl k,c,e,?_⟩;have q:=x.cell y c e;rwa[TH L o J<|by show scope.names.lookup y≠_;rw[k];decide]at q
 ·exact l.aP.fresh<|Cv<|x.above y c<|DK h
 ·unfold il;show _=N.length;rw[Ah,Aa,Gc];lia
theorem TR{K:aa}{B kV j pm h ct M:Value}
     (lk:K.lookup f=some ⟨M,od,.func<|PySem.W.fnOf name a c body scope B kV j pm O h ct,pv⟩) (T:PySem.W.codeIn K h a=true) (S:ak N ps scope)
  (len:∀vs H Q E,sp vs H Q E->vs.length=ps.length)
  (Y : ∀A outer s H vs Q E, bJ k (A.deeper<|envOfC a scope s.heap.objs.size f h) → sp vs H Q E →
   ∃t,lF (dY CX P w K mg base N a scope f h A outer s H E) body t/\t {nx:=λ_ H'=>Q .non H',rt:=Q} (il N vs) H):
  aG P w K mg base CX (k+1) f (PySem.W.fnOf name a c body scope B kV j pm O h ct) ps sp:=by
 refine⟨len,λA outer s H args us vs Q E m l hb r D=>?_⟩;have G:K.In s.heap:=l.mod.xS.keeps λb o e=>(l.bs b o e).1;have p:s.heap.NoLimit:=l.mod.nolimit.keeps λb o e=>(l.bs b o e).1;have yf:∀y∈ps.zip us,scope.names.lookup y.1=some .local\/(scope.names.lookup y.1=some .cell/\((cellsFrom (s.heap.objs.size+1) scope.names []).lookup y.1).isSome=true):=λ⟨n,v⟩hy=>by
  obtain q|q:=S.par n (SN hy).1
  ·exact .inl q
  ·exact .inr ⟨q,JD _ _ _<|.inl q⟩
 refine codeAny_call_function m.depth (G _ _ lk) rfl S.co S.gen rfl (PySem.W.codeRec_of G T) (hb _ _ _ _ ?_);refine wpAny_newFunctionEnv_cells S.kind yf λÖ he L x=>?_;subst he;refine⟨p.keeps x.toInCall.keep,codeAny_func ?_⟩;obtain⟨t,ht,hq⟩:=Y A outer s H vs Q E (m.deeper _) D;have I:be (dY CX P w K mg base N a scope f h A outer s H E) [] (il N vs) H L:=da S m.hd l (len _ _ _ _ D) r x;refine CZ (ht [] L (il N vs) H _ I hq) (λfl z i=>?_) λe z i=>i;have fin:∀{d:St}{H':Hp}{v:V}{u:Value},be (dY CX P w K mg base N a scope f h A outer s H E) [] d H' z->br v u->Q v H'->CE outer P w H s Q u z:=
  λ{d H' v u}J rv q=>⟨v,H',J.os,J.bare,J.base,J.aP,rv,q⟩
 cases fl with
 |ret u=>
  obtain⟨v,d,H',J,rv,q⟩:=i;exact fin J rv q
 |next=>
  obtain⟨d,H',J,q⟩:=i;exact fin (v:=V.non) (u:=Value.none) J rfl q
 |brk=>
  obtain⟨_,_,_,q⟩:=i;exact False.elim q
 |cont=>
  obtain⟨_,_,_,q⟩:=i;exact False.elim q
def EE(r:List V->Hp->VK->Prop)(t:TA):TE:=λa H Q=>t a H λb c=>r b c Q
def ll{id:String}(d:i7 X (.builtin id) r)(f:Gl X x)(i:X.mg x=none)(j:bootBuiltins x=some (.builtin id))(k:PA X (e :: b) t)(l:x ≠ "__name__":=by decide)(m:(x == ("__debug__" : Str))=false:=by decide)
  (n:starEach (e :: b) X.env=(false,eval e X.env):: starEach b X.env:=by rfl) (o:(backTo pos<|starEach b X.env).any (·.1)=false:=by rfl):PE X (.Call (.Name x p) (e :: b) [] pos) (EE r t):=by
 intro a s c H Q I h;refine KC<|wa I f i j ?_ l m;exact PyProof.Rows.callWith_builtin1 (aO (k pos a s c H _ I h) λus q⟨u,v,w,y,z⟩=>d a q c v u us Q w y z) n o
def fx(d:i7 X (.type T) r)(f:Gl X x)(i:X.mg x=none)(j:bootBuiltins x=some (.type T))(k:PA X (e :: b) t)(l:x ≠ "__name__":=by decide)(m:(x == ("__debug__" : Str))=false:=by decide)
  (n:starEach (e :: b) X.env=(false,eval e X.env):: starEach b X.env:=by rfl) (o:(backTo pos<|starEach b X.env).any (·.1)=false:=by rfl):PE X (.Call (.Name x p) (e :: b) [] pos) (EE r t):=by
 intro a s c H Q I h;refine KC<|wa I f i j ?_ l m;exact JM (aO (k pos a s c H _ I h) λus q⟨u,v,w,y,z⟩=>d a q c v u us Q w y z) n o
end L2
namespace HT
open PySem PyProof.Rows
section
open PySem.SeqAt
open PySem.AutoSeq1 (wpAny_loadPart')
open PySem.MeetsSeq PySem.MeetsSeq2 PySem.MeetsSeq3
end
def ja(n d:Nat):Option Int->Nat
 |none=>d
 |some v=>if v<0 then(v+(n:Int)).toNat else min v.toNat n
def jc(n d:Nat):ja n d none=d:=rfl
def kH(n d k:Nat):ja n d (some (k:Int))=min k n:=by
 show(if(k:Int)<0 then((k:Int)+(n:Int)).toNat else min (k:Int).toNat n)=min k n;rw[C (by lia),Bt]
end HT
namespace L2
open PySem PySem.Spec PyProof.Rows
abbrev TO:=St->Hp->(Option Int->Hp->Prop)->Prop
def PO(X:Cx)(e:Option Expr)(t:TO):Prop:=
 ∀a s b H Q,be X a b H s->t b H Q ->
  ar X (evalPart e X.env) (λu d=>∃o c,be X a b c d/\IsPart u o/\Q o c) X.xe s
def gw:TO:=λ_ H Q=>Q none H
def jj(t:TE):TO:=λa H Q=>t a H λx b=>∃i,x=.int i/\Q (some i) b
def yk:PO X none gw:=by
 intro a s b H Q I h;rw[evalPart_none];exact BP ⟨none,H,I,.none,h⟩
def Ps(h:PE X e b):PO X (some e) (jj b):=by
 intro a s c H Q I d;rw[evalPart_some];refine aO (h a s c H _ I d) λu m⟨x,f,j,k,l⟩=>?_;obtain⟨i,rfl,q⟩:=l;obtain⟨t,rfl⟩:=k;exact⟨some i,f,j,.int i t,q⟩
def Ky(X:Cx)(r:V->Option Int->Option Int->Hp->VK->Prop):Prop:=
 ∀a s b H x v c d lo e f Q,be X a b H s->br x v->s.heap.IsSliceOf f c d .none->IsPart c lo->IsPart d e->r x lo e H Q ->
  ∃T id,typeLookup (.type T) "__getitem__" = pure (some<|.builtin id)/\s.TypeIs v T/\ar X (getItem v<|.ref f) (EP X a b Q) X.xe s
def tSl(r:V->Option Int->Option Int->Hp->VK->Prop)(b:TE)(c d:TO):TE:=λa H Q=>b a H λx e=>c a e λl f=>d a f λu h=>r x l u h Q
def SI{lo j:Option Expr}(m:Ky X r)(n:PE X e o)(p:PO X lo t)(w:PO X j y):PE X (.Subscript e (.Slice lo j none p2) pos) (tSl r o t y):=by
 intro a s c H Q I h;refine Subscript_<|aO (n a s c H _ I h) λv z ⟨x,A,B,D,E⟩=>?_;refine wpAny_Slice<|aO (p a z c A _ B E) λf G ⟨l,J,L,M,N⟩=>aO (w a G c J _ L N) λi d ⟨u,k,O,Y,q3⟩=>?_;rw[evalPart_none];apply BP;have I4:be X a c k {d with heap:=d.heap.push {cls:= .type "slice",data:= .fields #[f,i,.none]}}:=O.kept λb ob q=>Am _ q;obtain⟨T,id,hT,ht,hg⟩:=m a {d with heap:=d.heap.push {cls:= .type "slice",data:= .fields #[f,i,.none]}} c k x v f i l u d.heap.objs.size Q I4 D (Heap.IsSliceOf.new ..) M Y q3;exact tail_any ht hT hg<|by with_unfolding_all rfl
def jd(xs:List V)(lo a:Option Int):List V:=(xs.drop<|HT.ja xs.length 0 lo).take<|HT.ja xs.length xs.length a-HT.ja xs.length 0 lo
def eh(xs:List V)(lo a:Option Int):(jd xs lo a).length<=xs.length:=by
 rw[jd,Bm,Cy];lia
noncomputable def rK(n:Nat)(i:Int):Option Nat:=if 0<=i then(if i<n then some i.toNat else none)else if -(n:Int)<=i then some (i+n).toNat else none
def gS(xs:List α)(i:Int):Option α:=(rK xs.length i).bind λj=>xs[j]?
theorem ZB(h:rK n i=some j):seqIndex? i n=some j/\j<n/\-(n:Int)<=i/\i<n:=by
 unfold rK at h
 by_cases b:0<=i
 ·rw[BL b]at h
  by_cases a:i<n
  ·rw[BL a]at h;have e:=Option.some.inj h;exact⟨by rw[seqIndex_of b a,e],by lia,by lia,a⟩
  ·rw[C a]at h;cases h
 ·rw[C b]at h
  by_cases a:-(n:Int)<=i
  ·rw[BL a]at h;exact⟨by rw[seqIndex_neg (by omega) a,Option.some.inj h],by lia,a,by lia⟩
  ·rw[C a]at h;cases h
theorem Kz(h:gS xs i=some v):∃j,seqIndex? i xs.length=some j/\xs[j]?=some v/\j<xs.length/\-(xs.length:Int)<=i/\i<xs.length:=by
 unfold gS at h;cases e:rK xs.length i with
 |none=>rw[e]at h;cases h
 |some j=>
  rw[e]at h;obtain⟨a,b,c,d⟩:=ZB e;exact⟨j,a,h,b,c,d⟩
def wm{j:Nat}(h:xs[j]?=some v):gS xs (j:Int)=some v:=by
 have a:j<xs.length:=(Ad.mp h).1;have e:rK xs.length (j:Int)=some j:=by
  rw[rK,BL (by lia),BL<|by lia];simp
 unfold gS;rwa[e]
def q3k(xs:List α)(v:α):gS (xs++[v]) (-1)=some v:=by
 have a:(xs++[v]).length=xs.length+1:=by simp
 have e:rK (xs++[v]).length (-1)=some xs.length:=by
  rw[rK,a,C (by decide),BL<|by lia]
  congr 1
  lia
 rw[gS,e];show(xs++[v])[xs.length]?=some v;simp
def TU(b:Expr):Prop:=∀o i,subscripted b false o i=operate [o,i] (getItem o i)
def yg(X:Cx)(r:R2):Prop:=
 ∀value slice a s b H x y v u Q,be X a b H s->br x v->br y u->r x y H Q ->
  subscripted slice false v u=operate [v,u] (getItem v u)->ar X (subscriptTail value slice v u) (EP X a b Q) X.xe s
def yh(X:Cx)(id:String)(r:V->List V->Hp->VK->Prop):Prop:=
 ∀a s b H x xs v us Q,be X a b H s->br x v->aC xs us->r x xs H Q ->
  ar X (call (.builtin id)<|v :: us) (EP X a b Q) X.xe s
def qa(d:yg X r)(e:PE X a ta)(f:PE X b i)(j:TU b):PE X (.Subscript a b pos) (EB r ta i):=by
 intro c s k H Q I h;exact Subscript_<|tU e f I h λv u l x y m n o p q=>d a b c l k m x y v u Q n o p q<|j _ _
inductive KA(K:aa)(x y:V)(H:Hp)(Q:VK):Prop
 |mk (p xs i v:_)(_:x=.ref p)(_:y=.int i)(_:av K H p xs)(_:gS xs i=some v)(_:Q v H)
inductive KE(K:aa)(x y:V)(H:Hp)(Q:VK):Prop
 |mk (p xs i v:_)(_:x=.ref p)(_:y=.int i)(_:aU K H p xs)(_:gS xs i=some v)(_:Q v H)
inductive KG(x y:V)(H:Hp)(Q:VK):Prop
 |mk (z i c:_)(_:x=.str z)(_:y=.int i)(_:z.length<=sizeLine)(_:gS z.cps.toList i=some c)(_:Q (.str ⟨#[c]⟩) H)
theorem dZ:yg X (KA X.K):=by
 intro value slice a s m H x y v u Q I n o h f;obtain⟨p,xs,i,z,rfl,rfl,A,B,q⟩:=h;cases n;obtain⟨t,rfl⟩:=o;obtain⟨c,r,d,M⟩:=I.list A;obtain⟨j,b,D,N,E,G⟩:=Kz B;obtain⟨w,k,J⟩:=r.get D;have L:=r.length;have O:=yc;have fin:EP X a m Q w s:=⟨z,H,I,J,q⟩
 by_cases l:0<=i
 ·have e:i.toNat=j:=by
   rw[seqIndex_of l G]at b;exact Option.some.inj b
  exact item_listR d.isList l (by omega) (by rw[e];simpa using k) fin f
 ·have e:(i+(c.toArray.size:Int)).toNat=j:=by
   rw[seqIndex_neg (by omega) E]at b;rw[Bc,<-L];exact Option.some.inj b
  exact subscriptTail_builtinR d.isList.typeIs slot_list_getitem.lookup
   (wpAny_getItem_list_neg d.isList (by lia) (by rw[Bc]<;>lia) (by lia) (by rw[e];simpa using k) ⟨rfl,fin⟩) f
theorem cw:yg X (KE X.K):=by
 intro value slice a s c H x y v u Q I d e h f;obtain⟨p,xs,i,z,rfl,rfl,k,l,q⟩:=h;cases d;obtain⟨t,rfl⟩:=e;obtain⟨m,r,b,B⟩:=I.tuple k;obtain⟨j,D,n,E,G,J⟩:=Kz l;obtain⟨w,o,A⟩:=r.get n;have L:=yc;have fin:EP X a c Q w s:=⟨z,H,I,A,q⟩;exact subscriptTail_builtinR b.typeIs slot_tuple_getitem.lookup
  (getItem_tuple b (by omega) (by omega) (by rwa[Bc,<-r.length]) (by simpa using o) ⟨rfl,fin⟩) f
theorem T1:yg X KG:=by
 intro value slice a s r H x y v u Q I d e h f;obtain⟨z,i,c,rfl,rfl,w,k,q⟩:=h;obtain⟨t,rfl⟩:=d;obtain⟨A,rfl⟩:=e;obtain⟨j,b,l,B,m,n⟩:=Kz k;have o:z.cps.toList.length=z.length:=by simp[Str.length]
 rw[o]at b m n;have D:=yc;exact tail_any (typeIs_str s z t) slot_str_getitem.lookup (getItem_str (by
  have p:decide (i>=2 ^ 63)=false:=BR (by omega);rw[BR (by omega),p,Bool.or_false]) (by rw[b];simpa using l) ⟨.str ⟨#[c]⟩,H,I.tok _,⟨_,rfl⟩,q⟩) f
def pw(lo a:Option Int)(n:Nat):(sliceBounds lo a none n).1=((HT.ja n 0 lo:Nat):Int)/\(sliceBounds lo a none n).2.1=((HT.ja n n a:Nat):Int)/\(sliceBounds lo a none n).2.2=1:=by
 refine⟨?_,?_,rfl⟩
 ·cases lo with
  |none=>simp[sliceBounds,HT.ja]
  |some i=>
   simp only[sliceBounds,HT.ja,Option.getD_none,show(1:Int)>0 by decide,DQ]
   by_cases h:i<0
   ·simp only[h,DQ]<;>lia
   ·simp only[h,CW]<;>lia
 ·cases a with
  |none=>simp[sliceBounds,HT.ja]
  |some i=>
   simp only[sliceBounds,HT.ja,Option.getD_none,show(1:Int)>0 by decide,DQ]
   by_cases h:i<0
   ·simp only[h,DQ]<;>lia
   ·simp only[h,CW]<;>lia
def YI(a:Ó)(lo b:Option Int):slicePick a.toArray lo b none=((a.drop<|HT.ja a.length 0 lo).take<|HT.ja a.length a.length b-HT.ja a.length 0 lo).toArray:=by
 obtain⟨c,d,e⟩:=pw lo b a.toArray.size;rw[slicePick,c,d,e];simp only[sliceRange_one,pick_run,Bc]<;>rfl
inductive KI(K:aa)(x:V)(lo hi:Option Int)(H:Hp)(Q:VK):Prop
 |mk (a xs:_)(_:x=.ref a)(_:av K H a xs)(_:∀p,H p=none->Q (.ref p) (upd H p<|.lst<|jd xs lo hi))
theorem EF:Ky X (KI X.K):=by
 intro d s p H x v t u lo e w Q I i j k l h;obtain⟨a,xs,rfl,m,q⟩:=h;cases i;obtain⟨n,r,f,o⟩:=I.list m;have c:=r.length;refine⟨"list",_,slot_list_getitem.lookup,f.isList.typeIs,?_⟩;refine wpAny_getItem_list_slice f.isList j k l .none (by simp) ?_ (by rw[Bc]<;>omega);rw[YI,<-c];refine⟨.ref s.heap.objs.size,_,I.laid (λb y q=>Am _ q) (Aq _) ?_,rfl,q _<|I.aP.fresh<|Aq _⟩;exact⟨Cd (eh xs lo e) o,_,0,(r.drop<|HT.ja xs.length 0 lo).take<|HT.ja xs.length xs.length e-HT.ja xs.length 0 lo,Az _ rfl⟩
def m9:V->Bool
 |.non=>true
 |.bl _=>true
 |.int _=>true
 |.str _=>true
 |_=>false
noncomputable def dv:V->V->Bool
 |.non,.non=>true
 |.bl a,.bl b=>a == b
 |.bl a,.int b=>(if a then 1 else 0) == b
 |.int a,.bl b=>a == (if b then 1 else 0)
 |.int a,.int b=>a == b
 |.str a,.str b=>a == b
 |_,_=>false
theorem T4(e:br y u)(c:br x v)(h:m9 y=true)(f:m9 x=true):SeqAt.EqAt A s u v (dv y x):=by
 cases y with
 |non=>
  cases e;cases x with
  |non=>cases c;exact SeqAt.EqAt.same _
  |bl b=>cases c;exact SeqAt.EqAt.none_bool b
  |int b=>obtain⟨t,rfl⟩:=c;exact SeqAt.EqAt.none_int b t
  |str b=>obtain⟨t,rfl⟩:=c;exact SeqAt.EqAt.none_str b t
  |_=>cases Av (show false=true from f)
 |bl a=>
  cases e;cases x with
  |non=>cases c;exact SeqAt.EqAt.bool_none a
  |bl b=>cases c;exact SeqAt.EqAt.bool_bool a b
  |int b=>obtain⟨t,rfl⟩:=c;exact SeqAt.EqAt.bool_int a b t
  |str b=>obtain⟨t,rfl⟩:=c;exact SeqAt.EqAt.bool_str a b t
  |_=>cases Av (show false=true from f)
 |int a=>
  obtain⟨d,rfl⟩:=e;cases x with
  |non=>cases c;exact SeqAt.EqAt.int_none a d
  |bl b=>cases c;exact SeqAt.EqAt.int_bool a d b
  |int b=>obtain⟨t,rfl⟩:=c;exact SeqAt.EqAt.int_int a d b t
  |str b=>obtain⟨t,rfl⟩:=c;exact SeqAt.EqAt.int_str a d b t
  |_=>cases Av (show false=true from f)
 |str a=>
  obtain⟨d,rfl⟩:=e;cases x with
  |non=>cases c;exact SeqAt.EqAt.str_none a d
  |bl b=>cases c;exact SeqAt.EqAt.str_bool a d b
  |int b=>obtain⟨t,rfl⟩:=c;exact SeqAt.EqAt.str_int a d b t
  |str b=>obtain⟨t,rfl⟩:=c;exact SeqAt.EqAt.str_str a d b t
  |_=>cases Av (show false=true from f)
 |_=>cases Av (show false=true from h)
def iV(x:V)(u:Value):Bool:=match u with
 |.none=>dv .non x
 |.bool b=>dv (.bl b) x
 |.int i _=>dv (.int i) x
 |.str z _=>dv (.str z) x
 |_=>false
theorem T5(r:br y u)(f:m9 y=true):iV x u=dv y x:=by
 cases y with
 |non=>cases r;rfl
 |bl b=>cases r;rfl
 |int i=>obtain⟨t,rfl⟩:=r;rfl
 |str z=>obtain⟨t,rfl⟩:=r;rfl
 |_=>cases Av (show false=true from f)
theorem yi:∀{xs}{us},aC xs us->xs.all m9=true->us.any (iV x)=xs.any λy=>dv y x
 |_,_,.nil,_=>rfl
 |y :: xs,u :: us,.cons r t,f=>by
  rw[Hn,Bx]at f;rw[Gk,Gk,T5 r f.1,yi t f.2]
theorem wn(b:br x v)(c:m9 x=true):∀{xs}{us},aC xs us->xs.all m9=true->∀u∈us,SeqAt.EqAt A s u v<|iV x u
 |_,_,.nil,_=>λu a=>by cases a
 |y :: xs,u :: us,.cons r t,f=>λd a=>by
  rw[Hn,Bx]at f
  obtain rfl|a:=Ak.mp a
  ·rw[T5 r f.1];exact T4 r b f.1 c
  ·exact wn b c t f.2 d a
def t7(x:V)(xs:List V):Bool:=xs.any λy=>dv y x
inductive T6(K:aa)(neg:Bool)(x y:V)(H:Hp)(Q:VK):Prop
 |mk (p xs:_)(_:y=.ref p)(_:(av K H p xs\/aU K H p xs))(_:m9 x=true)(_:xs.all m9=true)(_:Q (.bl (if neg then !t7 x xs else t7 x xs)) H)
def t8:dN X (compareOp .In) (T6 X.K false):=by
 intro f s m H x y v u Q I i k h;obtain⟨p,xs,rfl,b,j,c,q⟩:=h;cases k
 obtain b|b:=b
 ·obtain⟨a,r,d,l⟩:=I.list b;refine SeqAt.in_listAt (iV x) d.isList (λw e=>wn i j r c w<|by simpa using e) ⟨.bl _,H,I,rfl,?_⟩;rwa[show a.toArray.any (iV x)=a.any (iV x) by simp,yi r c]
 ·obtain⟨a,r,d,l⟩:=I.tuple b;refine SeqAt.in_tupleAt (iV x) d (λw e=>wn i j r c w<|by simpa using e) ⟨.bl _,H,I,rfl,?_⟩;rwa[show a.toArray.any (iV x)=a.any (iV x) by simp,yi r c]
def T7:dN X (compareOp .NotIn) (T6 X.K true):=by
 intro f s m H x y v u Q I i k h;obtain⟨p,xs,rfl,b,j,c,q⟩:=h;cases k
 obtain b|b:=b
 ·obtain⟨a,r,d,l⟩:=I.list b;refine SeqAt.notIn_listAt (iV x) d.isList (λw e=>wn i j r c w<|by simpa using e) ⟨.bl _,H,I,rfl,?_⟩;rwa[show a.toArray.any (iV x)=a.any (iV x) by simp,yi r c]
 ·obtain⟨a,r,d,l⟩:=I.tuple b;refine SeqAt.notIn_tupleAt (iV x) d (λw e=>wn i j r c w<|by simpa using e) ⟨.bl _,H,I,rfl,?_⟩;rwa[show a.toArray.any (iV x)=a.any (iV x) by simp,yi r c]
inductive fT(X:Cx)(xs:List V)(H:Hp)(Q:VK):Prop
 |mk (p ys:_)(_:xs=[.ref p])(_:(av X.K H p ys\/aU X.K H p ys))(_:Q (.int ys.length) H)
theorem eX:i7 X (.builtin "len") (fT X):=by
 intro f s l H xs us Q I r h;obtain⟨p,i,rfl,b,q⟩:=h;obtain⟨u,rfl,j⟩:=io r;cases j;have m:=yc
 obtain b|b:=b
 ·obtain⟨c,d,e,k⟩:=I.list b;have a:=d.length;exact Calls.call_len_list e.isList (by simp<;>lia) ⟨.int i.length,H,I.tok _,⟨s.toks+1,by rw[Bc,a]⟩,q⟩
 ·obtain⟨c,d,e,k⟩:=I.tuple b;have a:=d.length;exact len_tuple e (by simp<;>omega) ⟨.int i.length,H,I.tok _,⟨s.toks+1,by rw[Bc,a]⟩,q⟩
inductive fU(X:Cx)(xs:List V)(H:Hp)(Q:VK):Prop
 |mk (p ys:_)(_:xs=[.ref p])(_:(av X.K H p ys\/aU X.K H p ys))(_:∀l,H l=none->Q (.ref l) (upd H l<|.lst ys))
theorem T8:i7 X (.type "list") (fU X):=by
 intro i s z H xs us Q I r h;obtain⟨p,t,rfl,j,q⟩:=h;obtain⟨u,rfl,A⟩:=io r;cases A;have fin:∀(a:Ó),aC t a->t.length<=sizeLine->∀(c:Heap)(d:Nat),(∀b y,s.heap.get? b=some y->c.get? b=some y) ->
   c.get? s.heap.objs.size=some {cls:= .type "list",dict:=none,data:= .seq a.toArray d,slots:=#[]}->EP X i z Q (.ref s.heap.objs.size) {s with heap:=c}:=λa f k c d l e=>
  ⟨.ref s.heap.objs.size,_,I.laid l (Aq _) (show aI X.prog X.w _ c _ (.lst t) from⟨k,a,d,f,e⟩),rfl,q _<|I.aP.fresh<|Aq _⟩
 obtain j|j:=j
 ·obtain⟨a,f,v,k⟩:=I.list j;have m:=f.length;obtain⟨o,w,x,n,hd⟩:=v.isList;exact call_list_seq p (.inl rfl) w x hd (λc d l e=>fin a f k c d l e)<|by simp<;>omega
 ·obtain⟨a,f,v,k⟩:=I.tuple j;have m:=f.length;obtain⟨o,w,x,n,hd⟩:=v;exact call_list_seq p (.inr rfl) w x hd (λc d l e=>fin a f k c d l e)<|by simp<;>lia
def qg(K:aa)(T:String)(x:V)(H:Hp):Prop:=match x with
 |.str _=>T = "str"
 |.int _=>T = "int"
 | .ref p=>(T = "list"/\∃xs,av K H p xs)\/(T = "tuple"/\∃o,K.lookup p=some o/\o.cls=.type "tuple"/\o.dict=none) \/
   (T = "dict"/\((∃kvs,H p=some (.dK kvs))\/∃kvs,H p=some (.dT kvs)))\/(T = "set"/\∃S n,H p=some (.set S n))
 |_=>False
theorem T9(I:be X h u H s)(r:br x v)(ty:qg X.K T x H):
  s.TypeIs v T/\∀a,v=.ref a->∃j,s.heap.get? a=some j/\j.dict=none:=by
 cases x with
 |str z=>
  obtain⟨t,rfl⟩:=r;cases (show T = "str" from ty);exact⟨typeIs_str s z t,λ_ e=>nomatch e⟩
 |int i=>
  obtain⟨t,rfl⟩:=r;cases (show T = "int" from ty);exact⟨typeIs_int s i t,λ_ e=>nomatch e⟩
 |ref p=>
  cases r
  obtain⟨rfl,xs,l⟩|⟨rfl,o,b,m,hd⟩|⟨rfl,b⟩|⟨rfl,S,n,b⟩:=ty
  ·obtain⟨q,_,k,_⟩:=I.list l;refine⟨k.isList.typeIs,λa e=>?_⟩;cases e;obtain⟨o,n,e,c,hd,_⟩:=k;exact⟨o,e,hd⟩
  ·refine⟨⟨o,I.v9 p o b,m⟩,λa e=>?_⟩;cases e;exact⟨o,I.v9 _ o b,hd⟩
  ·have z:∃o,s.heap.get? p=some o/\o.ExactDict:=by
    obtain⟨kvs,b⟩|⟨kvs,b⟩:=b
    ·obtain⟨_,_,_,_,o,_,_,e,d,_⟩:=I.aP p _ b;exact⟨o,e,d⟩
    ·obtain⟨_,_,_,_,o,_,_,e,d,_⟩:=I.aP p _ b;exact⟨o,e,d⟩
   obtain⟨o,e,d⟩:=z;refine⟨⟨o,e,d.1⟩,λa f=>?_⟩;cases f;exact⟨o,e,d.2.1⟩
  ·obtain⟨o,_,_,_,e,d,_⟩:=I.aP p _ b;refine⟨⟨o,e,d.1⟩,λa f=>?_⟩;cases f;exact⟨o,e,d.2.1⟩
 |_=>exact False.elim ty
def KL(K:aa)(T:String)(r:V->List V->Hp->VK->Prop)(b:TE):TE:=λc H Q=>b c H λx a=>qg K T x a/\r x [] a Q
def i9(K:aa)(T:String)(r:V->List V->Hp->VK->Prop)(c:TE)(t:TA):TE:=λa H Q=>c a H λx b=>qg K T x b/\t a b λxs d=>r x xs d Q
def Tk{T id:String}(f:PlainAttrs T)(slot:Slot T name id)(i:typeOf (.builtin id)=pure (.type "method_descriptor"))(j:yh X id r)(k:PE X o l)
  (m:attributeBase o name X.env (eval o X.env)=eval o X.env:=by rfl) (b:(apos.endLine == n.line)=true:=by rfl):PE X (.Call (.Attribute o name apos) [] [] n) (KL X.K T r l):=by
 intro a s c H Q I h;refine wpAny_Call_method0_late m b<|aO (k a s c H _ I h) λv p⟨x,q,d,e,ty,t⟩=>?_;obtain⟨u,w⟩:=T9 d e ty;exact⟨T,id,f,slot,i,u,w,JF rfl (PySem.evalArgs_none<|j a p c q x [] v [] Q d e .nil t)⟩
def KO{T id:String}(l:PlainAttrs T)(slot:Slot T name id)(m:typeOf (.builtin id)=pure (.type "method_descriptor"))(n:yh X id r)(p:PE X o q)(u:PA X (e :: b) t)
  (w:attributeBase o name X.env (eval o X.env)=eval o X.env:=by rfl)
  (y : ((backTo d<|starEach (e :: b) X.env).all (λx => !x.1) && (backToKw d<|keywordEach [] X.env).all (λx => x.1.isSome)
   && decide ((e :: b).length+([]:List Keyword).length+(if([]:List Keyword).isEmpty then 0 else 1)<30))=true:=by rfl)
  (c:(apos.endLine == d.line)=true:=by rfl) (z:starEach (e :: b) X.env=(false,eval e X.env):: starEach b X.env:=by rfl) (A:(backTo d<|starEach b X.env).any (·.1)=false:=by rfl):
  PE X (.Call (.Attribute o name apos) (e :: b) [] d) (i9 X.K T r q t):=by
 intro a s f H Q I h;refine wpAny_Call_method_late w y c rfl (aO (p a s f H _ I h) λv B⟨x,D,i,j,ty,E⟩=>?_);obtain⟨G,J⟩:=T9 i j ty;refine⟨T,id,l,slot,m,G,J,?_⟩;have k:=u d a B f D _ i E;rw[z]at k ⊢;refine JF (by show(false || (backTo d<|starEach b X.env).any (·.1))=false;rw[A]<;>rfl)<|PB ?_;exact aO k λus L⟨M,N,O,Y,q2⟩=>n a L f N x M v us Q O j Y q2
def rL(X:Cx)(id:String)(r:V->List V->Hp->VK->Prop):Prop:=
 ∀a s b H x xs v us Q,be X a b H s->br x v->aC xs us->r x xs H Q ->
  ar X (call (.builtin id)<|v :: us) (EP X a b Q) X.xe s
theorem aC.hd(h:aC (x :: xs) us):∃u vs,us=u :: vs/\br x u/\aC xs vs:=by
 cases h with
 |cons r t=>exact⟨_,_,rfl,r,t⟩
def aC.nl(h:aC [] us):us=[]:=by
 cases h;rfl
def aC.one(h:aC [x] us):∃u,us=[u]/\br x u:=by
 obtain⟨u,a,rfl,r,t⟩:=h.hd;rw[t.nl];exact⟨u,rfl,r⟩
def aC.two(h:aC [x,y] us):∃u v,us=[u,v]/\br x u/\br y v:=by
 obtain⟨u,a,rfl,r,t⟩:=h.hd;obtain⟨v,b,rfl,q,t⟩:=t.hd;rw[t.nl];exact⟨u,v,rfl,r,q⟩
theorem aC.zero:∀{us},aC [] us->us=[]
 |_,.nil=>rfl
theorem aC.dropLast(h:aC xs us):aC xs.dropLast us.dropLast:=by
 induction h with
 |nil=>exact .nil
 |cons r t a=>
  cases t with
  |nil=>exact .nil
  |cons q b=>exact .cons r a
theorem aC.eraseIdx:∀{xs}{us}i,aC xs us->aC (xs.eraseIdx i) (us.eraseIdx i)
 |_,_,_,.nil=> .nil
 |_,_,0,.cons _ t=>t
 |_,_,i+1,.cons r t=> .cons r<|aC.eraseIdx i t
theorem dV(l:List α):l.eraseIdx (l.length-1)=l.dropLast:=by
 induction l with
 |nil=>rfl
 |cons a r c=>
  cases r with
  |nil=>rfl
  |cons b r=>
   have e:(a :: b :: r).length-1=((b :: r).length-1)+1:=by
    have d:(a :: b :: r).length=r.length+2:=rfl;have f:(b :: r).length=r.length+1:=rfl;lia
   rw[e,RQ,c]
   all_goals rfl
theorem Ua:∀(l:List α)(i:Nat),(l.eraseIdx i).length<=l.length
 |[],_=>Aq _
 |_ :: _,0=>Fm _
 |_ :: r,i+1=>Nat.succ_le_succ<|Ua r i
def be.ng{a its':Ó}(I:be X b c H s)(d:H l=some (.lst xs))
  (e:s.heap.get? l=some {cls:= .type "list",data:= .seq a.toArray n}) (h:f a.toArray=its'.toArray) (i:aC ys its') (j:ys.length<=sizeLine):
  be X b c (upd H l<|.lst ys) {s with heap:=s.heap.update l<|Obj.mapSeq f,toks:=t'}:=by
 have q:=PySem.IsL.update e f;rw[h]at q;refine I.write (d▸trivial) (.inl rfl) (λo u k m=>(Cr s.heap (Obj.mapSeq f)<|CG k).trans m) ⟨_,q⟩ ?_;exact⟨j,its',_,i,q⟩
def be.yj(I:be X a c H s)(d:aC ys b)(e:ys.length<=sizeLine):
  be X a c (upd H s.heap.objs.size<|.lst ys) {s with heap:=s.heap.push {cls:= .type "list",data:= .seq b.toArray},toks:=t'}:=
 I.laid (λ_ _ q=>Am _ q) (Aq _) ⟨e,b,0,d,Az _ rfl⟩
section
variable{X:Cx}{pins:Ð}{σ:St}{H:Hp}{s:Shared}
def be.fresh(I:be X pins σ H s):H s.heap.objs.size=none:=I.aP.fresh<|Aq _
end
def be.je(I:be X b d H s)(c:H l=some (.lst xs)):xs.length<=sizeLine/\∃a n,aC xs a/\xs.length=a.length/\s.heap.get? l=some {cls:= .type "list",data:= .seq a.toArray n}:=by
 obtain⟨z,a,n,r,e⟩:=I.aP l _ c;exact⟨z,a,n,r,r.length,e⟩
def oy(h:n<=sizeLine):Builtin.List.listTooLong n=false:=by
 unfold Builtin.List.listTooLong;exact BR<|by lia
inductive qi(x:V)(vs:List V)(H:Hp)(Q:VK):Prop
 |mk (l xs y:_)(_:x=.ref l)(_:vs=[y])(_:H l=some (.lst xs))(_:xs.length<sizeLine)(_:Q .non<|upd H l<|.lst<|xs++[y])
def Ub:rL X "list.append" qi:=by
 intro b s i H x j v us Q I d rv h;obtain⟨l,xs,y,rfl,rfl,c,k,q⟩:=h;cases d;obtain⟨u,rfl,f⟩:=rv.one;obtain⟨z,a,n,r,m,e⟩:=I.je c;refine KN F.slot_list_append ⟨_,e,rfl⟩ F.entry_list_append (F.args_list_append_2 _ _) (PySem.list_append l a.toArray n u<|by rw[Bc];lia) ⟨e,?_⟩;refine⟨.non,_,I.ng (its':=a++[u]) c e (by simp) (r.append<|.cons f .nil) ?_,rfl,q⟩;rw[Ah,Dh];lia
inductive qj(x:V)(vs:List V)(H:Hp)(Q:VK):Prop
 |mk (l b xs zs:_)(_:x=.ref l)(_:vs=[.ref b])(_:H l=some (.lst xs))(_:H b=some (.lst zs))(_:xs.length+zs.length<=sizeLine)(_:Q .non<|upd H l<|.lst<|xs++zs)
def my:rL X "list.extend" qj:=by
 intro f s y H x A v us Q I j rv h;obtain⟨l,b,xs,zs,rfl,rfl,i,k,B,q⟩:=h;cases j;obtain⟨u,rfl,m⟩:=rv.one;cases m;obtain⟨z,a,n,r,D,e⟩:=I.je i;obtain⟨E,c,o,p,G,t⟩:=I.je k;have d:a.toArray.size+c.toArray.size<=sizeLine:=by rw[Bc,Bc];lia
 have w:¬(!a.toArray.isEmpty && Builtin.List.listTooLong (a.toArray.size+c.toArray.size))=true:=by
  rw[oy d,Hl];exact Av
 refine KN F.slot_list_extend ⟨_,e,rfl⟩ F.entry_list_extend (F.args_list_extend_2 _ _)
  (AutoSeq1.list_extend_list_list_0 l a.toArray n b c.toArray o w (by rw[Bc];lia)<|by lia) ⟨e,t,?_⟩
 refine⟨.non,_,I.ng (its':=a++c) i e (by simp) (r.append p) ?_,rfl,q⟩;rw[Ah];lia
inductive KP(x:V)(vs:List V)(H:Hp)(Q:VK):Prop
 |mk (l xs y:_)(_:x=.ref l)(_:vs=[])(_:H l=some (.lst xs))(_:xs[xs.length-1]?=some y)(_:Q y<|upd H l<|.lst xs.dropLast)
def Uc:rL X "list.pop" KP:=by
 intro c s o H x p v us Q I f rv h;obtain⟨l,xs,y,rfl,rfl,d,i,q⟩:=h;cases f;have b:=rv.zero;subst b;obtain⟨z,a,n,r,j,e⟩:=I.je d;obtain⟨u,t,k⟩:=r.get i;have m:a.toArray[a.toArray.size-1]?=some u:=by
  show a.toArray[a.length-1]?=some u;rwa[<-Cc,<-j]
 refine KN F.slot_list_pop ⟨_,e,rfl⟩ F.entry_list_pop (F.args_list_pop_1 _) (MeetsSeq.list_pop_last l a.toArray n u m<|by rw[Bc];lia) ⟨e,?_⟩;refine⟨y,_,I.ng (its':=a.dropLast) d e ?_ r.dropLast ?_,k,q⟩
 ·rw[Bc,NZ,dV]
 ·rw[List.length_dropLast];lia
inductive t9(x:V)(vs:List V)(H:Hp)(Q:VK):Prop
 |mk (l xs i k y:_)(_:x=.ref l)(_:vs=[.int i])(_:H l=some (.lst xs))(_:-(2 ^ 63)<=i)(_:i<2 ^ 63)(_:seqIndex? i xs.length=some k)(_:xs[k]?=some y)(_:Q y<|upd H l<|.lst<|xs.eraseIdx k)
def FV:rL X "list.pop" t9:=by
 intro b s B H x D v us Q I d rv h;obtain⟨l,xs,i,k,y,rfl,rfl,c,f,j,E,m,q⟩:=h;cases d;obtain⟨u,rfl,o⟩:=rv.one;obtain⟨t,rfl⟩:=o;obtain⟨z,a,n,r,p,e⟩:=I.je c;obtain⟨w,G,A⟩:=r.get m;refine KN F.slot_list_pop ⟨_,e,rfl⟩ F.entry_list_pop (F.args_list_pop_2 _ _)
  (MeetsSeq.list_pop_at l a.toArray n i t k w (fitsIndex_both f j) (by rwa[Bc,<-p]) (by rwa[<-Cc])<|by rw[Bc];lia) ⟨e,?_⟩
 refine⟨y,_,I.ng (its':=a.eraseIdx k) c e ?_ (r.eraseIdx k) ?_,A,q⟩
 ·rw[NZ]
 ·have:=Ua xs k;lia
inductive yl(x y:V)(H:Hp)(Q:VK):Prop
 |mk (l b xs zs:_)(_:x=.ref l)(_:y=.ref b)(_:H l=some (.lst xs))(_:H b=some (.lst zs))(_:xs.length+zs.length<=sizeLine)(_:∀p,H p=none->Q (.ref p) (upd H p<|.lst<|xs++zs))
def EG:dN X (binaryOp .Add) yl:=by
 intro c s t H x y v u Q I f i h;obtain⟨l,b,xs,zs,rfl,rfl,j,k,w,q⟩:=h;cases f;cases i;obtain⟨z,a,n,r,A,e⟩:=I.je j;obtain⟨B,d,D,m,E,o⟩:=I.je k;refine PySem.P.add_list e o ?_ (by rw[Bc,Bc];lia);have p:a.toArray++d.toArray=(a++d).toArray:=by simp
 rw[p];exact⟨.ref _,_,I.yj (r.append m) (by rw[Ah];lia),rfl,q _ I.fresh⟩
end L2
namespace Ud
open PySem PySem.W PySem.Calls PyProof.Rows
theorem rp:∀ns vs,WellAll P h vs (ns.map WData.int)->IntsAre vs ns:=by
 intro ns
 induction ns with
 |nil=>
  intro vs w;rw[RJ]at w;cases w;exact .nil
 |cons n ns c=>
  intro vs w;rw[Be]at w;cases w with
  |cons a b=>
   cases a;exact .cons _ _<|c _ b
theorem WS{l:OpenLaw}(k:l.most=some n)
  (i:l.row.toRowW.claim.pre args=true) (m:WellAll P h b args):
  ∃a vs ns,b=[Value.ref a]/\args=[WData.list<|ns.map WData.int]/\h.get? a=some {cls:= .type "list",data:= .seq vs.toArray}/\IntsAre vs ns/\ns.length<=n:=by
 have j:l.pre.holds [] {args:=args}=true:=(pre_splitW i).2;obtain⟨d,r,rfl,o,p⟩:=hasAllW_cons ((pre_splitW i).1);obtain rfl:=hasAllW_nil p;obtain⟨xs,rfl,s⟩:=hasW_list o;obtain⟨ns,rfl⟩:=items_int s;have c:ns.length<=n:=by
  unfold OpenLaw.pre at j;have f:(WTm.not<|.lt (.lit<|.int (n:Int))<|.len<|.arg 0).holds [] {args:=[.list<|ns.map .int]}=true:=by
   have f:=(holds_andW j).1;rwa[k]at f
  have e:=condW_of f<|w_not<|w_lt w_lit<|w_len_list<|w_arg rfl;rw[Aa]at e;refine RK λq=>?_;have t:(n:Int)<((ns.length:Nat):Int):=by lia
  first
   |(rw[BW t]at e;exact absurd e<|by decide)
   |(simp at e;lia)
 cases m with
 |cons u v=>
  cases v;cases u with
  |list w x=>exact⟨_,_,ns,rfl,rfl,w,rp ns _ x,c⟩
def VT(l:OpenLaw)(args:List WData):l.row.toRowW.claim.post args (.bool true) args=true:=
 postW_of
  (show WShape.has [] (.bool true) .bool=true by first|rfl|decide|simp[WShape.has,WShape.arms,WShape.armsAll])
  (show(WTm.eq .res<|.lit<|.bool true).value [] {args:=args,res:=some<|.bool true,after:=args}=some (.bool<|true == true)from w_eq_bool (w_res rfl) w_lit) rfl
def jg{l:OpenLaw}
  (u:l.most=some n) (v:d.params.defaults=[])
  (call : ∀(w : World)(s₀ b : Shared)(mg m : Str → Option Value)(i : Addr)(o : Obj)(pm k c : Value)(a : Addr)(vs : List Value)(ns : List Int),
   Ground q e [] x w s₀ mg m b.heap->y w b.heap ->
   b.heap.get? i=some o->o.data=.func (docDef d.name d.params d.body d.scope pm k c)->b.heap.CodeRec k d.name->mg d.name=some (.ref i) ->
   b.heap.get? a=some {cls:= .type "list",data:= .seq vs.toArray}->IntsAre vs ns->ns.length<=n->b.gens=#[] ->
   codeAny (model l.prog w) callerA (.call (.ref i) ⟨[.ref a],[]⟩) (λr s'=>r=.ok (.ret<|.bool true)/\OldK b.heap s'.heap/\s'.os=b.os/\AllBare s'.gens) b):
  WalkO q e x y l.row.toRowW d [] (λf vs=>PySem.call f vs):=by
 intro w s₀ b mg m G Y i o pm k c z kV A hd B p D E args s as H t I J L;obtain rfl:z=.none:=Dflts.none p v;obtain rfl:kV=.none:=Dflts.noKw p;obtain⟨a,vs,ns,rfl,rfl,M,h,j⟩:=WS u H J;refine enter_call<|JK (call w s₀ b mg m i o pm k c a vs ns G Y A (fd_plain hd) B D M h j E) λr s' N=>?_;obtain⟨rfl,O,Q,T⟩:=N;exact⟨.inl ⟨.bool true,.bool true,[],rfl,λ_=>rfl,.bool true,VT l _,λ_=>⟨List.Pairwise.nil,λ_ hm=>(nomatch hm)⟩⟩,O,Q,T⟩
end Ud
namespace L2
open PySem PySem.Spec PyProof.Rows
theorem Ue:∀{vs}{ns},IntsAre vs ns->aC (ns.map V.int) vs
 |_,_,.nil=> .nil
 |_,_,.cons n t h=> .cons ⟨t,rfl⟩<|Ue h
def xz(H:Hp):Prop:=∀b,H b=none\/∃o xs,H b=some (.dX o<|.lst xs)
theorem Ma{K:aa}
  (E:K.In c.heap) (G:c.heap.Ns mainGlobals mg) (f:c.heap.Ns builtinsNs I) (y:∀ x:Str,x ≠ "__name__"->I x=bootBuiltins x) (KU:c.heap.NoLimit) (hg:c.gens=#[])
  (p:c.heap.get? a=some {cls:= .type "list",data:= .seq vs.toArray}) (J:IntsAre vs ns) (hl:ns.length<=sizeLine) (hr:bJ k callerA)
  (F:∀base:Heap,K.In base->base.Ns mainGlobals mg->aG P w K mg base CX k L fd [x] sp) (yn:∀(s:Shared)(u:Value),BindsTo s fd ⟨[u],[]⟩ [(x,u)])
  (eG:∀H:Hp,xz H->av K H a (ns.map V.int)->sp [.ref a] H (λv _=>v=.bl true) λ_ _ _=>False)
  (KW:∀H e s',CX [] H c (λ_ _ _=>False) e s'->False):
  codeAny (model P w) callerA (.call (.ref L) ⟨[.ref a],[]⟩) (λr s'=>r=.ok (.ret<|.bool true)/\OldK c.heap s'.heap/\s'.os=c.os/\AllBare s'.gens) c:=by
 have rv:=Ue J;have core:∀H:Hp,xz H->av K H a (ns.map V.int)->cG P w H c.heap->(∀b,H b≠none->b=a)->(H a≠none->K.lookup a=none) ->
   codeAny (model P w) callerA (.call (.ref L) ⟨[.ref a],[]⟩) (λr s'=>r=.ok (.ret<|.bool true)/\OldK c.heap s'.heap/\s'.os=c.os/\AllBare s'.gens) c:=by
  intro H M hS N O hK;have Q:∀{b:Addr}{o:Obj},c.heap.get? b=some o->H b=none->(ic c.heap H).get? b=some o:=λe n=>BK e n;have yd:∀{b:Addr}{o:Obj}{i:Array DictEntry}{j:Nat},c.heap.get? b=some o->o.data=.dict i j->H b=none:=λ{b o i j}e d=>by
   cases q:H b with
   |none=>rfl
   |some u=>
    have A:b=a:=O b (by rw[q];simp);subst A;rw[p]at e;cases e;have d':Data.seq vs.toArray _=Data.dict i j:=d;cases d'
  have t:∀{b:Addr}{m:Ò},c.heap.Ns b m->(ic c.heap H).Ns b m:=λ{b m}⟨o,i,j,e,d,r⟩=>⟨o,i,j,Q e<|yd e d,d,r⟩;have T:K.In (ic c.heap H):=λb o e=>Q (E b o e)<|by
   cases q:H b with
   |none=>rfl
   |some u=>
    have A:b=a:=O b (by rw[q];simp);subst A;rw[hK<|by rw[q];simp]at e;cases e
  have hM:AD K mg (ic c.heap H):=⟨T,t G,⟨I,t f,y⟩,let ⟨mc,h1,h2⟩:=KU;⟨mc,t h1,h2⟩⟩;have e0:qd P w K mg (ic c.heap H) callerA [] c H:=⟨rfl,hM,λb o e=>q7q e,Nat.le_of_eq<|k8a _ _,trivial,λb f=>absurd (show b∈([]:List Addr)from f) (by simp),N,.of_eq hg⟩;refine JK ((F _ T<|t G).run callerA [] c H ⟨[.ref a],[]⟩ [.ref a] [.ref a] _ _ hr e0 (yn c<|.ref a) (.cons rfl .nil)<|eG H M hS) λr s' h=>?_;cases r with
  |error e=>exact(KW H e s' h).elim
  |ok fl=>
   cases fl with
   |next=>exact False.elim h
   |brk=>exact False.elim h
   |cont=>exact False.elim h
   |ret u=>
    obtain⟨v,H',os,l,un,K1,r',q⟩:=h;have q':v=.bl true:=q;subst q';obtain rfl:u=Value.bool true:=r';refine⟨rfl,OldK.of_keep λb o e=>?_,os,l⟩;cases q:H b with
    |none=>exact un.keep b o e q (by intro z;exact absurd (show b∈([]:List Addr)from z)<|by simp)<|by simp
    |some u=>
     obtain z|⟨ob,xs,z⟩:=M b
     ·rw[q]at z;cases z
     ·have z2:=un.gO b ob _ z;obtain⟨Y,_⟩:=N b _ z;obtain⟨e2,_⟩:=K1 b _ z2;rw[e]at Y;cases Y;exact e2
 cases B:K.lookup a with
 |some o=>
  have e:=E a o B;rw[p]at e;cases e;refine core (λ_=>none) (λ_=> .inl rfl) (.inr ⟨_,vs.toArray,_,B,rfl,rfl,rfl,by rwa[Bc,J.length],by simpa using rv⟩) (λb u z=>by have D:(none:Option HO)=some u:=z;cases D) (λb z=>absurd rfl z) λz=>absurd rfl z
 |none=>
  refine core (λb=>if b=a then some (.dX {cls:= .type "list",data:= .seq vs.toArray}<|.lst<|ns.map V.int)else none) (λb=>?_) (.inl<|.inr ⟨{cls:= .type "list",data:= .seq vs.toArray},BL rfl⟩) (λb u z=>?_) (λb z=>?_) λ_=>B
  ·by_cases f:b=a
   ·exact .inr ⟨_,_,BL f⟩
   ·exact .inl<|C f
  ·by_cases f:b=a
   ·have D:=(BL f).symm.trans z;cases D;subst f;exact⟨p,by rwa[Aa],vs,_,rv,p⟩
   ·cases ((C f).symm.trans z)
  ·by_cases f:b=a
   ·exact f
   ·cases z (C f)
def qm{l:PySem.W.OpenLaw}{K:Params->aa}{CX:World->jY}{sp:World->Sp}{x:Str}
  (t:l.most=some n) (y:n<=sizeLine) (z:d.params.defaults=[]) (A:bJ k callerA)
  (B:∀(w:World)(h:Heap),D w h->(K w.params).In h)
  (F : ∀(w : World)(mg : Str → Option Value)(i : Addr)(h : Heap), (K w.params).In h → h.Ns mainGlobals mg → mg d.name = some (.ref i) →
   ∃j:FuncData,(∀(s:Shared)(u:Value),BindsTo s j ⟨[u],[]⟩ [(x,u)]) /\
    ∀base:Heap,(K w.params).In base->base.Ns mainGlobals mg->aG l.prog w (K w.params) mg base (CX w) k i j [x] (sp w))
  (E:∀(w:World)(H:Hp)(a:Addr)(ns:List Int),ns.length<=n->xz H->av (K w.params) H a (ns.map V.int)->sp w [.ref a] H (λv _=>v=.bl true) λ_ _ _=>False)
  (I:∀(w:World)(H:Hp)(s:Shared)(e:Value)(s':Shared),CX w [] H s (λ_ _ _=>False) e s'->False):
  PySem.W.WalkO q m XP D l.row.toRowW d [] (λf vs=>PySem.call f vs):=by
 refine Ud.jg t z λw p J mg mb i o pm cd L a vs ns G Y ho hd kF M N c b O=>?_;have r:=B w _ Y;obtain⟨j,Q,T⟩:=F w mg i _ r G.T.g M;exact Ma r G.T.g G.T.b G.T.builtins G.T.nolimit O N c (Cd b y) A T Q (λH hO hS=>E w H a ns b hO hS) λH e s'=>I w H J e s'
def pB(s:Stmt):Arguments:=match s with
 |.FunctionDef _ a _ _ _ _ _ _ _ _=>a
 |_=>{posonlyargs:=[],args:=[],vararg:=none,kwonlyargs:=[],kw_defaults:=[],kwarg:=none,defaults:=[]}
def iW(s:Stmt):Õ:=match s with
 |.FunctionDef _ _ b _ _ _ _ _ _ _=>b
 |_=>[]
def aW(s:Stmt):Scope:=match s with
 |.FunctionDef _ _ _ _ _ _ a _ _ _=>a
 |_=>{kind:= .function,names:=[],isGenerator:=false,isCoroutine:=false}
abbrev bF:jY:=λ_ _ _ _ _ _=>False
abbrev E0:XK:=λ_ _ _=>False
def nq:qf bF X E0:=λ_ _ _ _ _ _ _ h=>h.elim
structure bA(K:aa)(x qual:Str)(st:Stmt)(f:Addr)(fd:FuncData):Prop where
 ex:∃oc od kV doc pm an bM ct pv,
  fd=PySem.W.fnOf x qual (pB st) (iW st) (aW st) .none kV doc pm an bM ct/\K.lookup f=some ⟨oc,od,.func fd,pv⟩/\PySem.W.codeIn K bM qual=true
 kp:PySem.W.keepIn K (.ref f)=true
def bA.ok{K:aa}{st:Stmt}(F:bA K x a st f c)(S:ak N ps<|aW st)(len:∀vs H Q E,sp vs H Q E->vs.length=ps.length)
  (d : ∀b A outer s H vs Q E, bJ k (A.deeper<|envOfC a (aW st) s.heap.objs.size f b) → sp vs H Q E →
   ∃t,lF (dY bF P w K mg base N a (aW st) f b A outer s H E).wc (iW st) t/\t {nx:=λ_ H'=>Q .non H',rt:=Q} (il N vs) H):aG P w K mg base bF (k+1) f c ps sp:=by
 obtain⟨m,n,kV,e,pm,o,b,p,r,rfl,lk,i⟩:=F.ex;refine TR lk i S len λA outer s H vs Q E j l=>?_;obtain⟨t,h,q⟩:=d b A outer s H vs Q E j l;exact⟨t,h.wc,q⟩
def bA.binds{K:aa}{st:Stmt}(F:bA K x b st f e)
  (h:∀kV a pm c d ct us,us.length=ps.length->bindArgs (PySem.W.fnOf x b (pB st) (iW st) (aW st) .none kV a pm c d ct) ⟨us,[]⟩=pure (ps.zip us)):ma K e ps []:=by
 obtain⟨i,j,kV,a,pm,c,d,ct,k,rfl,lk,l⟩:=F.ex;exact .all<|h kV a pm c d ct
def x3b{K:aa}{st:Stmt}{kV b pm d ct:Value}(l:K.lookup f=some ⟨h,i,.func<|PySem.W.fnOf x a (pB st) (iW st) (aW st) .none kV b pm e d ct,j⟩)
  (c:PySem.W.codeIn K d a=true) (k:PySem.W.keepIn K (.ref f)=true):bA K x a st f (PySem.W.fnOf x a (pB st) (iW st) (aW st) .none kV b pm e d ct):=⟨⟨h,i,kV,b,pm,e,d,ct,j,rfl,l,c⟩,k⟩
def bU(h:B):if false=true then A else B:=by
 rwa[C Av]
def bK(h:A):if true=true then A else B:=by
 rwa[BL rfl]
def jh[Decidable c](a:c->A)(b:¬ c->B):if c then A else B:=by
 by_cases h:c
 ·rw[BL h];exact a h
 ·rw[C h];exact b h
def aj(H H':Hp):Prop:=∀b o,H b=some o->H' b=some o
def aj.refl(H:Hp):aj H H:=λ_ _ h=>h
def aj.trans(a:aj H d)(b:aj d e):aj H e:=λc o h=>b c o<|a c o h
theorem aj.free(e:aj H H')(h:H' l=Option.none):H l=Option.none:=by
 cases q:H l with
 |none=>rfl
 |some o=>
  rw[e l o q]at h;cases h
def aj.seq{K:aa}(e:aj H H')(h:av K H a xs):av K H' a xs:=by
 obtain(h|⟨o,h⟩)|h:=h
 ·exact .inl<|.inl<|e _ _ h
 ·exact .inl<|.inr ⟨o,e _ _ h⟩
 ·exact .inr h
def az[DecidableEq κ](kvs:List<|κ×V)(k:κ):Option V:=(kvs.find? λa=>decide (a.1=k)).map (·.2)
noncomputable def putK[DecidableEq κ](kvs:List<|κ×V)(k:κ)(v:V):List (κ×V):=
 if(kvs.any λa=>decide (a.1=k))=true then kvs.map (λa=>if a.1=k then(a.1,v)else a)else kvs++[(k,v)]
def jG[DecidableEq κ]{k:κ}(e:p.1=k):az (p :: r) k=some p.2:=by simp[az,Fz,e]
def ji[DecidableEq κ]{k:κ}(e:¬ p.1=k):az (p :: r) k=az r k:=by simp[az,Fz,e]
section
variable{κ:Type}[DecidableEq κ]
theorem wo(k:κ):∀kvs:List<|κ×V,(kvs.any λa=>decide (a.1=k))=(az kvs k).isSome
 |[]=>rfl
 |p :: r=>by
  rw[Gk]
  by_cases e:p.1=k
  ·simp only[jG e,BW e,Bool.true_or,Option.isSome_some]
  ·rw[ji e,BR e,Bool.false_or];exact wo k r
end
section
variable{κ:Type}[DecidableEq κ]
theorem Uh(k j:κ)(y:V):∀kvs:List<|κ×V,az (kvs.map λa=>if a.1=k then(a.1,y)else a) j=(az kvs j).map λx=>if j=k then y else x
 |[]=>rfl
 |p :: r=>by
  have b:=Uh k j y r;rw[Be]
  by_cases h:p.1=k
  ·rw[BL h]
   by_cases e:p.1=j
   ·rw[jG (p:=(p.1,y)) e,jG e,Hh,BL<|e.symm.trans h]
   ·rw[ji (p:=(p.1,y)) e,ji e,b]
  ·rw[C h]
   by_cases e:p.1=j
   ·rw[jG e,jG e,Hh,C λz=>h<|e.trans z]
   ·rw[ji e,ji e,b]
end
section
variable{κ:Type}[DecidableEq κ]
theorem Ui(k j:κ)(y:V):∀kvs:List<|κ×V,az kvs k=none->az (kvs++[(k,y)]) j=if j=k then some y else az kvs j
 |[],_=>by
  by_cases e:k=j
  ·rw[BL e.symm];exact jG (p:=(k,y)) e
  ·rw[C λz=>e z.symm];exact ji (p:=(k,y)) e
 |p :: r,a=>by
  rw[Er];have b:¬ p.1=k:=λz=>by rw[jG z]at a;cases a
  rw[ji b]at a;by_cases e:p.1=j
  ·rw[jG e,jG e,C λz=>b<|e.trans z]
  ·rw[ji e,ji e,Ui k j y r a]
end
def cR{κ:Type}[DecidableEq κ](kvs:List<|κ×V)(k j:κ)(y:V):az (putK kvs k y) j=if j=k then some y else az kvs j:=by
 unfold putK
 by_cases a:(kvs.any λb=>decide (b.1=k))=true
 ·rw[BL a,Uh];rw[wo]at a
  by_cases e:j=k
  ·obtain⟨x,c⟩:=Fr.mp a;rw[BL e,e,c,Hh,BL rfl]
  ·rw[C e];cases az kvs j with
   |none=>rfl
   |some x=>rw[Hh,C e]
 ·rw[C a];apply Ui k j y kvs;rw[wo]at a;cases q:az kvs k with
  |none=>rfl
  |some x=>rw[q]at a;exact(a rfl).elim
def jm[DecidableEq κ](kvs:List<|κ×V)(k:κ)(v:V):(putK kvs k v).length<=kvs.length+1:=by
 unfold putK
 split
 ·rw[Aa];lia
 ·rw[Ah,Au,Fj];lia
def Uj{κ:Type}[DecidableEq κ]{kvs:List (κ×V)}{k:κ}(v:V)(h:az kvs k=none):putK kvs k v=kvs++[(k,v)]:=by
 rw[putK,wo,h];exact C<|by decide
theorem gN.cn(r:gN o u):o.isSome=u.isSome:=by
 cases o with
 |none=>cases u with
  |none=>rfl
  |some _=>exact(show False from r).elim
 |some _=>cases u with
  |none=>exact(show False from r).elim
  |some _=>rfl
theorem KV.val[DecidableEq κ]{kvs:List (κ×V)}(r:KV kvs vs)(k:κ):gN (az kvs k) (valueAt vs k):=by
 unfold KV at r
 induction r with
 |nil=>exact True.intro
 | @cons p q ps a h t f=>
  obtain⟨d,i⟩:=h
  by_cases e:p.1=k
  ·have c:=d.symm.trans e;have b:valueAt (q :: a) k=some q.2:=by simp[valueAt,Fz,c]
   rwa[jG e,b]
  ·have c:¬ q.1=k:=λz=>e<|d.trans z;have b:valueAt (q :: a) k=valueAt a k:=by simp[valueAt,Fz,c]
   rwa[ji e,b]
theorem KV.any[DecidableEq κ](r:KV kvs vs)(k:κ):(kvs.any λa=>decide (a.1=k))=vs.any λa=>decide (a.1=k):=by
 unfold KV at r
 induction r with
 |nil=>rfl
 |cons h t b=>rw[Gk,Gk,b,h.1]
theorem KV.repl[DecidableEq κ](r:KV kvs vs)(k:κ)(c:br y u):
  KV (kvs.map λa=>if a.1=k then(a.1,y)else a) (vs.map λa=>if a.1=k then(a.1,u)else a):=by
 unfold KV at r ⊢
 induction r with
 |nil=>exact .nil
 | @cons p q ps i h t d=>
  rw[Be,Be];refine .cons ?_ d;obtain⟨b,f⟩:=h
  by_cases e:p.1=k
  ·rw[BL e,BL<|b.symm.trans e];exact⟨b,c⟩
  ·rw[C e,C λz=>e<|b.trans z];exact⟨b,f⟩
def KV.put[DecidableEq κ](r:KV kvs vs)(k:κ)(a:br y u):KV (putK kvs k y) (stored vs k u):=by
 unfold putK stored;rw[r.any k]
 by_cases e:(vs.any λb=>decide (b.1=k))=true
 ·rw[BL e,BL e];exact r.repl k a
 ·rw[C e,C e];exact Paired.snoc r ⟨rfl,a⟩
theorem KV.keys[DecidableEq κ]{vs:List (κ×Value)}(r:KV kvs vs):kvs.map (·.1)=vs.map (·.1):=by
 unfold KV at r
 induction r with
 |nil=>rfl
 |cons h t a=>rw[Be,Be,a,h.1]
section
variable{κ:Type}[DecidableEq κ]
def KV.length(r:KV kvs vs):kvs.length=vs.length:=Paired.length r
end
theorem rM(r:br (kV k) u):(eV P w).is k u=true:=by
 cases k with
 |inl i=>obtain⟨t,e⟩:=(show ∃t,u=Value.int i t from r);subst e;exact PD P w i t
 |inr x=>obtain⟨t,e⟩:=(show ∃t,u=Value.str x t from r);subst e;exact vr P w x t
theorem Uk:∀{ks}{us},aC (ks.map kV) us->ItemsAre (eV P w) ks us
 |[],_,r=>by rw[RJ]at r;cases r;exact .nil
 |k :: ks,_,r=>by
  rw[Be]at r;cases r with
  |cons h t=>exact .cons (rM h)<|Uk t
abbrev KT(H:Hp):List (List Key×V)->List (List Key×Addr×Value)->Prop:=Paired λp q=>p.1=q.1/\H q.2.1=some (.tup<|p.1.map kV)/\br p.2 q.2.2
theorem KT.val{kvs:List (List Key×V)}(r:KT H kvs xs)(k:List Key):gN (az kvs k) ((atKey xs k).map (·.2)):=by
 induction r with
 |nil=>exact True.intro
 | @cons p q ps a h t f=>
  obtain⟨d,_,i⟩:=h
  by_cases e:p.1=k
  ·have c:=d.symm.trans e;have b:atKey (q :: a) k=some q.2:=by simp[atKey,Fz,c]
   rwa[jG e,b]
  ·have c:¬ q.1=k:=λz=>e<|d.trans z;have b:atKey (q :: a) k=atKey a k:=by simp[atKey,Fz,c]
   rwa[ji e,b]
theorem KT.repl(r:KT H kvs xs)(k:List Key)(d:br y u):
  KT H (kvs.map λb=>if b.1=k then(b.1,y)else b) (xs.map<|putAt k u):=by
 induction r with
 |nil=>exact .nil
 | @cons p q ps j h t f=>
  rw[Be,Be];refine .cons ?_ f;obtain⟨a,c,i⟩:=h;unfold putAt
  by_cases e:p.1=k
  ·rw[BL e,BL<|a.symm.trans e];exact⟨a,c,d⟩
  ·rw[C e,C λz=>e<|a.trans z];exact⟨a,c,i⟩
def KT.put(r:KT H kvs xs)(k:List Key)(c:H b=some (.tup<|k.map kV))(a:br y u):
  KT H (putK kvs k y) (storedH xs k b u):=by
 have e:(kvs.any λd=>decide (d.1=k))=(atKey xs k).isSome:=by
  rw[wo,(r.val k).cn,QZ]
 unfold putK storedH;rw[e]
 by_cases q:(atKey xs k).isSome=true
 ·rw[BL q,BL q];exact r.repl k a
 ·rw[C q,C q];exact Paired.snoc r ⟨rfl,c,a⟩
def KT.keeps(r:KT H kvs xs)(a:∀b ys,H b=some (.tup ys)->H' b=some (.tup ys)):KT H' kvs xs:=
 Paired.tN r λ_ _ z=>⟨z.1,a _ _ z.2.1,z.2.2⟩
def Ul(ok:cG P w H h)(e:Rd H a u):aI P w H h a u:=e.ok ok
def ub(ok:cG P w H h)(e:Rd H a<|.dK kvs):kvs.length<=sizeLine/\(a == sysModules)=false/\∃vs,KV kvs vs/\h.DictOf (eV P w) a vs:=
 show aI P w H h a (.dK kvs)from Ul ok e
def K3(ok:cG P w H h)(e:H a=some (.dK kvs)):kvs.length<=sizeLine/\(a == sysModules)=false/\∃vs,KV kvs vs/\h.DictOf (eV P w) a vs:=ub ok<|.inl e
def wq(ok:cG P w H h)(e:H a=some (.tup<|ks.map kV)):(tupleKind<|eV P w).is h ks a:=by
 obtain⟨_,b,r,o,c,d,n,f⟩:=(show aI P w H h a (.tup<|ks.map kV)from ok a _ e);exact⟨o,b.toArray,n,c,d,f,by simpa using Uk r⟩
def yo(ok:cG P w H h)(e:Rd H a<|.dT kvs):kvs.length<=sizeLine/\(a == sysModules)=false /\
  ∃xs,KT H kvs xs/\h.DictOfH (tupleKind<|eV P w) a xs:=by
 obtain⟨z,y,xs,r,o,d,f,i,j,k,n,s⟩:=(show aI P w H h a (.dT kvs)from Ul ok e);refine⟨z,y,xs,r,o,d,f,i,j,k,n,λx b=>?_,s⟩;have all:∀{l}{m},KT H l m->∀x∈m,(tupleKind<|eV P w).is h x.1 x.2.1:=by
  intro l m q
  induction q with
  |nil=>intro x b;exact nomatch b
  | @cons p q ps v c t u=>
   intro x b
   obtain e|b:=Ak.mp b
   ·subst e;exact wq ok<|c.1▸c.2.1
   ·exact u x b
 exact all r x b
def Um(ok:cG P w H h)(e:H a=some (.dT kvs)):kvs.length<=sizeLine/\(a == sysModules)=false /\
  ∃xs,KT H kvs xs/\h.DictOfH (tupleKind<|eV P w) a xs:=yo ok<|.inl e
def bf(H:Hp)(a:Addr)(y:V)(r:Option V):Prop:=
 (∃kvs k,Rd H a (.dK kvs)/\y=kV k/\r=az kvs k)\/∃kvs k b,Rd H a (.dT kvs)/\y=.ref b/\H b=some (.tup<|k.map kV)/\r=az kvs k
def bO(H:Hp)(a:Addr)(y v:V)(H':Hp):Prop:=
 (∃kvs k,H a=some (.dK kvs)/\y=kV k/\kvs.length<sizeLine/\H'=upd H a (.dK<|putK kvs k v)) \/
 ∃kvs k b,H a=some (.dT kvs)/\y=.ref b/\H b=some (.tup<|k.map kV)/\kvs.length<sizeLine/\H'=upd H a (.dT<|putK kvs k v)
def bf.k{k:Key}(e:H a=some (.dK kvs)):bf H a (kV k) (az kvs k):= .inl ⟨kvs,k,.inl e,rfl,rfl⟩
def bf.t{k:List Key}(e:H a=some (.dT kvs))(c:H b=some (.tup<|k.map kV)):bf H a (.ref b) (az kvs k):= .inr ⟨kvs,k,b,.inl e,rfl,c,rfl⟩
def bO.k{k:Key}(e:H a=some (.dK kvs))(b:kvs.length<sizeLine):bO H a (kV k) v (upd H a<|.dK<|putK kvs k v):= .inl ⟨kvs,k,e,rfl,b,rfl⟩
def bO.t{k:List Key}(e:H a=some (.dT kvs))(c:H b=some (.tup<|k.map kV))(d:kvs.length<sizeLine):
  bO H a (.ref b) v (upd H a<|.dT<|putK kvs k v):= .inr ⟨kvs,k,b,e,rfl,c,d,rfl⟩
def be.big(I:be X a b H s):sysModules<s.heap.objs.size:=by
 exact Nat.lt_trans (by decide) ((I.mod.glob.keeps I.bk).lt)
def th(o:A.units+1<cLine)(I:be X d q H s)(g:bf H a y<|some v)(n:br y u)(h:∀c s',be X d q H s'->br v c->Q c s'):
  wpAny (model X.prog X.w) A (getItem (.ref a) u) Q E s:=by
 obtain⟨kvs,k,e,f,l⟩|⟨kvs,k,b,e,f,r,l⟩:=g
 ·subst f;obtain⟨z,hd,x,rel,i⟩:=ub I.aP e;obtain⟨c,j,m⟩:=gN.some_of (l▸(rel.val k));exact wpAny_getItem_of (rM n) i.mapOf j<|h c _ (I.tok _) m
 ·subst f;cases (show u=Value.ref b from n);obtain⟨z,hd,xs,rel,i⟩:=yo I.aP e;obtain⟨c,j,m⟩:=gN.some_of (l▸(rel.val k));obtain⟨p,t,w⟩:=Ba.mp j;apply wpAny_getItem_heap (KD o) (wq I.aP r) i t;rw[w];exact h c _ (I.tok _) m
def K4(j:A.units+1<cLine)(I:be X c m H s)(g:bf H a y o)(i:br y u)(h:∀s',be X c m H s'->Q (.bool o.isSome) s'):
  wpAny (model X.prog X.w) A (compareOp .In u<|.ref a) Q E s:=by
 obtain⟨kvs,k,e,d,l⟩|⟨kvs,k,b,e,d,n,l⟩:=g
 ·subst d;obtain⟨z,hd,p,rel,f⟩:=ub I.aP e;apply wpAny_in_of (rM i) hd f.mapOf;rw[<-(rel.val k).cn,<-l];exact h _<|I.tok _
 ·subst d;cases (show u=Value.ref b from i);obtain⟨z,hd,xs,rel,f⟩:=yo I.aP e;apply wpAny_in_heap (KD j) (wq I.aP n) hd f;have q:=(rel.val k).cn;rw[QZ]at q;rw[<-q,<-l];exact h _<|I.tok _
def Sf(j:A.units+1<cLine)(I:be X c m H s)(g:bf H a y o)(i:br y u)(h:∀s',be X c m H s'->Q (.bool (!o.isSome)) s'):
  wpAny (model X.prog X.w) A (compareOp .NotIn u<|.ref a) Q E s:=by
 obtain⟨kvs,k,e,d,l⟩|⟨kvs,k,b,e,d,n,l⟩:=g
 ·subst d;obtain⟨z,hd,p,rel,f⟩:=ub I.aP e;apply wpAny_notIn_of (rM i) hd f.mapOf;rw[<-(rel.val k).cn,<-l];exact h _<|I.tok _
 ·subst d;cases (show u=Value.ref b from i);obtain⟨z,hd,xs,rel,f⟩:=yo I.aP e;apply wpAny_notIn_heap (KD j) (wq I.aP n) hd f;have q:=(rel.val k).cn;rw[QZ]at q;rw[<-q,<-l];exact h _<|I.tok _
def rN(I:be X c e H s)(f:xQ<|H a)(h:Heap.SameBut a s.heap h')(i:∃q,h'.get? a=some q)(new:aI X.prog X.w (upd H a d) h' a d):
  be X c e (upd H a d) {s with heap:=h',toks:=t'}:=
 I.write f (.inl rfl) (λb q j z=>(h.2 b j).trans z) i new
def K5(z:kvs.length<=sizeLine)(hd:(a == sysModules)=false)(rel:KV kvs vs)(dd:h'.DictOf (eV P w) a vs):
  aI P w H' h' a (.dK kvs):=⟨z,hd,vs,rel,dd⟩
theorem N1(B:A.units+1<cLine)(I:be X d D H s)(g:bO H a y v H')(t:br y u)(rv:br v r)(h:∀s',be X d D H' s'->Q () s'):
  wpAny (model X.prog X.w) A (setItem (.ref a) u r) Q E s:=by
 obtain⟨kvs,k,e,j,l,m⟩|⟨kvs,k,b,e,j,w,l,m⟩:=g
 ·subst j m;obtain⟨z,hd,G,rel,n⟩:=K3 I.aP e;have J:G.length<=sizeLine:=by rwa[<-rel.length]
  have o:(putK kvs k v).length<=sizeLine:=by have:=jm kvs k v;lia
  refine wpAny_setItem_pairs (rM t) n λx f p=>h _ ?_;have L:∃q,x.get? a=some q:=let ⟨q,_,_,i,_⟩:=f;⟨q,i⟩
  exact rN I (e▸True.intro) p L<|K5 o hd (rel.put k rv) f
 ·subst j m;cases (show u=Value.ref b from t);obtain⟨z,hd,xs,rel,n⟩:=Um I.aP e;have J:xs.length<=sizeLine:=by rwa[<-Paired.length rel]
  have o:(putK kvs k v).length<=sizeLine:=by have:=jm kvs k v;omega
  refine wpAny_setItem_heap (KD B) (wq I.aP w) n λx f p=>h _ ?_;obtain⟨q,M,N,i,O,T,Y,_,h5⟩:=f;refine rN I (by rw[e];exact True.intro) p ⟨q,i⟩ ⟨o,hd,_,(rel.put k w rv).keeps λc ys ec=>?_,q,M,N,i,O,T,Y,h5⟩;rwa[ax<|cm ec e λz=>nomatch z]
def q8(I:be X b c H s)(e:Rd H a<|.dK kvs)(h:∀ t s',be X b c H s'->Q (.int kvs.length t) s'):wpAny (model X.prog X.w) A (call (.builtin "len") [.ref a]) Q E s:=by
 obtain⟨z,hd,f,rel,d⟩:=ub I.aP e;refine call_len_dict hd d (by rw[<-rel.length];rw[DW]at z;lia) ?_;rw[<-rel.length];exact h _ _<|I.tok _
def uc(i:Expr):Prop:=∀a b,subscripted i false a b=operate [a,b] (getItem a b)
def uw{T id:String}
  (j:typeLookup (.type T) "__getitem__" = pure (some<|.builtin id)) (k:uc slice)
  (h:ba prog w A (eval value env) (λo d=>ba prog w A (eval slice env) (λi b=>b.TypeIs o T/\ba prog w A (getItem o i) Q E b) E d) E s):
  ba prog w A (eval (.Subscript value slice pos) env) Q E s:=by
 refine Subscript_<|CZ h (λo d a=>CZ a (λi b c=>?_) λ_ _ x=>x) λ_ _ x=>x;obtain⟨e,c⟩:=c;unfold subscriptTail;apply BJ;rw[getitemInPython_of_ne e.not_modules];refine BJ<|SQ e j ?_;have fin:ba prog w A (subscripted slice false o i) (λr f=>ba prog w A (letTemporaryGo value o r >>= λ_=>pure r) Q E f) E b:=by
  rw[k o i];exact wpAny_operating<|CZ c (λr f l=>BJ<|wpAny_letTemporaryGo<|BP l) λ_ _ x=>x
 first
  |exact BP<|BJ fin
  |exact BJ<|BP<|BJ fin
  |exact BJ fin
def MW(I:be X d f H s)(g:bf H a y o):s.TypeIs (.ref a) "dict":=by
 obtain⟨kvs,k,e,_,_⟩|⟨kvs,k,b,e,_,_,_⟩:=g
 ·obtain⟨_,_,h,_,c⟩:=ub I.aP e;exact c.typeIs
 ·obtain⟨_,_,xs,_,c⟩:=yo I.aP e;exact c.typeIs
def SO(d ty:TE):TE:=λb H Q=>d b H λx e=>ty b e λy c=>∃a v,x=.ref a/\bf c a y (some v)/\Q v c
def K6(ty d:TE):TE:=λb H Q=>ty b H λy e=>d b e λx c=>∃a o,x=.ref a/\bf c a y o/\Q (.bl o.isSome) c
def xf(ty d:TE):TE:=λb H Q=>ty b H λy e=>d b e λx c=>∃a o,x=.ref a/\bf c a y o/\Q (.bl (!o.isSome)) c
def TW(d ty e:TE):TS:=λD b H=>e b H λv f=>d b f λx h=>ty b h λy i=>∃a c,x=.ref a/\bO i a y v c/\D.nx b c
def jA(e:X.A.units+1<cLine)(f:PE X o j)(k:PE X i ty)(l:uc i):PE X (.Subscript o i pos) (SO j ty):=by
 intro b s c H Q I h;refine uw PySem.F.slot_dict_getitem.lookup l<|aO (f b s c H _ I h) λu m⟨x,n,p,q,r⟩=>aO (k b m c n _ p r) λE G⟨y,t,d,w,a,v,z,g,A⟩=>?_;subst z;obtain rfl:u=Value.ref a:=q;exact⟨MW d g,th e d g w λJ L B D=>⟨v,t,B,D,A⟩⟩
def Zd(d:X.A.units+1<cLine)(e:PE X i ty)(f:PE X o j):PC X .In i o (K6 ty j):=by
 intro b s c H Q I h;refine aO (e b s c H _ I h) λB k⟨y,l,m,n,p⟩=>aO (f b k c l _ m p) λu D⟨x,q,r,t,a,v,w,g,z⟩=>?_;subst w;obtain rfl:u=Value.ref a:=t;exact K4 d r g n λE A=>⟨.bl v.isSome,q,A,rfl,z⟩
def Mw(d:X.A.units+1<cLine)(e:PE X i ty)(f:PE X o j):PC X .NotIn i o (xf ty j):=by
 intro b s c H Q I h;refine aO (e b s c H _ I h) λB k⟨y,l,m,n,p⟩=>aO (f b k c l _ m p) λu D⟨x,q,r,t,a,v,w,g,z⟩=>?_;subst w;obtain rfl:u=Value.ref a:=t;exact Sf d r g n λE A=>⟨.bl (!v.isSome),q,A,rfl,z⟩
def v7(e:X.A.units+1<cLine)(f:PE X o j)(k:PE X i ty)(l:PE X value m)(n:swapsWith value (some<|.Subscript o i c) pos.line X.env=pure false):
  PS X (.Assign [.Subscript o i c] value pos) (TW j ty m):=by
 intro b s d H D I h;refine wpAny_Assign_Subscript (aO (l b s d H _ I h) λr p⟨v,q,t,rv,w⟩=>aO (f b p d q _ t w) λu z⟨x,A,B,E,G⟩=>aO (k b z d A _ B G) λT Y⟨y,H3,J,L,a,M,N,g,O⟩=>?_) n;subst N;obtain rfl:u=Value.ref a:=E;exact N1 e J g L rv λs4 Q=>⟨d,M,Q,O⟩
def K7(h:Heap)(a:sysModules < h.objs.size):aI P w H (h.push {cls:= .type "dict",data:= .dict #[]}) h.objs.size (.dK []):=
 ⟨By _,beq_eq_false_iff_ne.mpr<|CG<|Bw a,[],.nil,Heap.DictOf.new h⟩
def K8(h:Heap)(a:sysModules < h.objs.size):aI P w H (h.push {cls:= .type "dict",data:= .dict #[]}) h.objs.size (.dT []):=
 ⟨By _,beq_eq_false_iff_ne.mpr<|CG<|Bw a,[],.nil,_,#[],0,Az _ rfl,⟨rfl,rfl,rfl⟩,rfl,rfl,Co⟩
def x2f:TE:=λ_ H Q=>∀p,H p=none->Q (.ref p) (upd H p<|.dK [])
def x1z:TE:=λ_ H Q=>∀p,H p=none->Q (.ref p) (upd H p<|.dT [])
def q5b:PE X (.Dict [] [] pos) x2f:=λa s b H Q I h=>
 wpAny_Dict_empty ⟨.ref s.heap.objs.size,_,I.laid (λ_ _ q=>Am _ q) (Aq _)<|K7 s.heap I.big,rfl,h _<|I.aP.fresh<|Aq _⟩
def DT:PE X (.Dict [] [] pos) x1z:=λa s b H Q I h=>
 wpAny_Dict_empty ⟨.ref s.heap.objs.size,_,I.laid (λ_ _ q=>Am _ q) (Aq _)<|K8 s.heap I.big,rfl,h _<|I.aP.fresh<|Aq _⟩
inductive jn(xs:List V)(H:Hp)(Q:VK):Prop
 |mk (a kvs:_)(_:xs=[V.ref a])(_:H a=some (.dK kvs))(_:Q (.int kvs.length) H)
def Uo:i7 X (.builtin "len") jn:=by
 intro b s f H xs us Q I r h;obtain⟨a,kvs,rfl,c,q⟩:=h;obtain⟨u,rfl,d⟩:=io r;cases d;exact q8 I (.inl c) λt i e=>⟨.int kvs.length,H,e,⟨t,rfl⟩,q⟩
def Uq{κ:Type}[DecidableEq κ]{kvs:List (κ×V)}{k:κ}(h:az kvs k=some v):k∈kvs.map (·.1):=by
 have q:(kvs.any λa=>decide (a.1=k))=true:=by
  rw[wo,h]
  all_goals rfl
 obtain⟨p,b,e⟩:=Gy.mp q;exact Ag.mpr ⟨p,b,BZ e⟩
section
variable{κ:Type}[DecidableEq κ]
theorem pC:∀{l:List κ}{k:κ},l.Nodup->¬ k∈l->(l++[k]).Nodup
 |[],k,_,_=>by simp
 |a :: r,k,h,b=>by
  obtain⟨c,d⟩:=Bb.mp h;show(a :: (r++[k])).Nodup;refine Bb.mpr ⟨λm=>?_,pC d λm=>b<|Ak.mpr<|Or.inr m⟩
  obtain q|q:=Al.mp m
  ·exact c q
  ·exact b<|Ak.mpr<|Or.inl (Ae.mp q).symm
end
theorem Ur{env:Env}:∀{names:List (Str×NameKind)}{x:Str}{a:NameKind},
  (names.map λ(n,k)=>if(k == NameKind.free && env.scope.kind == .function && env.kindOf n == some .cell) then(n,NameKind.cell) else(n,k)).lookup x=some a ->
  ∃k,names.lookup x=some k/\(a=k\/(k=.free/\a=.cell))
 |[],_,_,h=>by simp at h
 |(n,k):: r,x,a,h=>by
  have d:=@Ur env r x a
  change List.lookup x ((if(k == NameKind.free && env.scope.kind == .function && env.kindOf n == some .cell)=true then(n,NameKind.cell) else(n,k)):: _)=_ at h
  cases b:x == n with
  |true=>
   by_cases c:(k == NameKind.free && env.scope.kind == .function && env.kindOf n == some .cell)=true
   ·rw[BL c]at h;simp only[Ef,b]at h;cases h;have e:k=.free:=by
     have:=(Bx _ _ ▸ (Bx _ _ ▸ c).1).1;cases k<;>first|rfl|(exact absurd this<|by decide)
    exact⟨k,by simp[Ef,b],.inr ⟨e,rfl⟩⟩
   ·rw[C c]at h;simp only[Ef,b]at h;cases h;exact⟨k,by simp[Ef,b],.inl rfl⟩
  |false=>
   have f:∃k,r.lookup x=some k/\(a=k\/(k=.free/\a=.cell)):=by
    by_cases c:(k == NameKind.free && env.scope.kind == .function && env.kindOf n == some .cell)=true
    ·rw[BL c]at h;simp only[Ef,b]at h;exact d h
    ·rw[C c]at h;simp only[Ef,b]at h;exact d h
   obtain⟨i,j,l⟩:=f;exact⟨i,by simp[Ef,b,j],l⟩
def cY(names:List<|Str×NameKind)(b:List<|Str×Addr)(acc:List<|Str×Addr):List (Str×Addr):=
 names.foldl (λa x=>if x.2 == .free then(match b.lookup x.1 with|some c=>(x.1,c):: a|none=>a)else a) acc
def wu(h:∀x∈scope.names,x.2=.free->∃c,env.cells.lookup x.1=some c):closureFor scope env=pure (cY scope.names env.cells []):=by
 have all:∀l a,(∀x∈l,x.2=.free->∃c,env.cells.lookup x.1=some c) ->
   (forIn l a λx e=>(if x.2 == .free then(do let c <-cellOf env x.1;pure (ForInStep.yield<|(x.1,c):: e))else pure (ForInStep.yield e):Sem _))=pure (cY l env.cells a):=by
  intro l
  induction l with
  |nil=>intro a _;rfl
  |cons x r f=>
   intro a i;rw[Fk];have j:=λy m=>i y<|Af _ m;cases b:x.2 == .free with
   |true=>
    have d:x.2=.free:=by
     revert b
     cases x.2<;>intro b<;>first|rfl|(exact absurd b<|by decide)
    obtain⟨c,k⟩:=i x Ac d;simp only[DQ,cellOf,k];rw[show cY (x :: r) env.cells a=cY r env.cells ((x.1,c):: a) by unfold cY;rw[Dq];simp[b,k]];exact f _ j
   |false=>
    simp only[Bk,CW];rw[show cY (x :: r) env.cells a=cY r env.cells a by unfold cY;rw[Dq];simp[b]];exact f _ j
 simp only[closureFor];exact(BX (· >>= λr=>pure r) (all scope.names [] h)).trans rfl
theorem K9:∀names a acc,(∀x c,(x,c)∈acc->a.lookup x=some c)->∀x c,(x,c)∈cY names a acc->a.lookup x=some c
 |[],_,_,h=>h
 |y :: r,a,acc,h=>by
  have e:cY (y :: r) a acc=cY r a (if y.2 == .free then(match a.lookup y.1 with|some c=>(y.1,c):: acc|none=>acc)else acc):=rfl;rw[e];apply K9 r a _;cases i:y.2 == .free with
  |false=>simpa using h
  |true=>
   cases f:a.lookup y.1 with
   |none=>simpa using h
   |some c=>
    intro x d b;simp only[DQ]at b
    obtain e|b:=Ak.mp b
    ·cases e;exact f
    ·exact h x d b
theorem Us:∀names a acc x c,(x,c)∈acc->(x,c)∈cY names a acc
 |[],_,_,_,_,h=>h
 |y :: r,a,acc,x,c,h=>by
  have e:cY (y :: r) a acc=cY r a (if y.2 == .free then(match a.lookup y.1 with|some c=>(y.1,c):: acc|none=>acc)else acc):=rfl;rw[e];apply Us r a _ x c;cases b:y.2 == .free with
  |false=>simpa using h
  |true=>
   cases f:a.lookup y.1 with
   |none=>simpa using h
   |some d=>simp only[DQ];exact Af _ h
theorem K':∀names a acc x c,(x,NameKind.free)∈names->a.lookup x=some c->(x,c)∈cY names a acc
 |[],_,_,_,_,h,_=>by cases h
 |y :: r,a,acc,x,c,h,b=>by
  have e:cY (y :: r) a acc=cY r a (if y.2 == .free then(match a.lookup y.1 with|some c=>(y.1,c):: acc|none=>acc)else acc):=rfl;rw[e]
  obtain d|h:=Ak.mp h
  ·subst d;apply Us r a _ x c;have:(NameKind.free == NameKind.free)=true:=rfl;simp only[b,this,DQ];exact Ac
  ·exact K' r a _ x c h b
theorem La:∀{l:List (Str×α)}{x:Str}{c:α},(x,c)∈l->∃d,l.lookup x=some d
 |[],_,_,h=>by cases h
 |(n,d):: r,x,c,h=>by
  cases a:x == n with
  |true=>exact⟨d,by simp[Ef,a]⟩
  |false=>
   obtain e|h:=Ak.mp h
   ·cases e;simp at a
   ·obtain⟨b,e⟩:=La h;exact⟨b,by simp[Ef,a,e]⟩
theorem k3f(I:Nat->Shared->Prop)
  (turn : ∀ n s, I n s → ba prog w A (pyNext it) (λr k => match r with
   |none=>R (.ok .next) k
   | some v=>ba prog w A (letOwnedTupleGo target it v) (λ_ a=>ba prog w A (assign target env v) (λ_ o=>
     ba prog w A (forIn i true λc r=>if r=true then do let ok <- isTrue c env<|eval c env;pure (ForInStep.yield ok)else pure (ForInStep.yield r)) (λok l=>
      if ok=true then ba prog w A (eval j env) (λx p=>
       ba prog w A (call (.builtin "list.append") [acc,x]) (λ_ q=>∃m,m<n/\I m q) (notedBy (model prog w) A env λe s'=>R (.error e) s') p) (notedBy (model prog w) A env λe s'=>R (.error e) s') l
      else ∃m,m<n/\I m l) (notedBy (model prog w) A env λe s'=>R (.error e) s') o) (notedBy (model prog w) A env λe s'=>R (.error e) s') a) (notedBy (model prog w) A env λe s'=>R (.error e) s') k) (notedBy (model prog w) A env λe s'=>R (.error e) s') s)
  (n:Nat) (h:I n s):
  codeAny (model prog w) A (.compLoop (.ListComp j [⟨target,iter,i,0⟩] scope pos) 0 it acc env) R s:=by
 refine codeAny_loop rfl I (λn s u=>?_) n h;show wpAny _ A ((compTurn (.ListComp j [⟨target,iter,i,0⟩] scope pos) 0 it acc env).onRaise λx=>do noteFrame x env;theTreesLotGoes x) _ _ s;apply wpAny_noted;rw[compTurn_list];refine BJ<|DX<|BJ<|CZ (turn n s u) (λr k d=>?_) λ_ _ b=>b;cases r with
 |none=>exact BP d
 |some v=>
  refine BJ<|CZ d (λ_ a f=>?_) λ_ _ b=>b;refine BJ<|CZ f (λ_ o y=>BJ<|CZ y (λok l t=>?_) λ_ _ b=>b) λ_ _ b=>b;cases ok with
  |false=>exact BP ⟨rfl,t⟩
  |true=>
   exact BJ<|BJ<|CZ t (λx p z=>BJ<|CZ z (λ_ q B=>BP<|BP ⟨rfl,B⟩) λ_ _ b=>b) λ_ _ b=>b
def Ut(X:Cx)(b:Ô)(t:TT):Prop:=
 ∀a s d H Q,be X a d H s->t d H Q ->
  ar X (forIn b true λc r=>if r=true then do let ok <-isTrue c X.env<|eval c X.env;pure (ForInStep.yield ok)else pure (ForInStep.yield r)) (TP X a d Q) X.xe s
def Lb:TT:=λ_ H Q=>Q true H
def Y6:Ut X [] Lb:=λ_ _ _ H _ I h=>wpAny_tests_nil ⟨H,I,h⟩
def NG(h:PT X c t):Ut X [c] t:=λa s b H Q I d=>wpAny_tests_one<|h a s b H Q I d
def iX(X:Cx)(N':Ñ)(scope:Scope)(b:List<|Str×Addr)(a:Addr)(s₀:Shared)(H₀:Hp)(ex:List Addr):Cx:=
 {prog:=X.prog,w:=X.w,K:=X.K,mg:=X.mg,base:=X.base,A:=X.A,N:=N',s₀:=s₀,H₀:=H₀,env:=compEnvC scope b a X.env,outer:=X.stack,stack:=X.stack,ex:=ex,fn:=λx=>match scope.names.lookup x with|some .cell=>true|_=>false,calm:=X.calm,pn:=[],xe:=λ_ _=>False}
def lJ(h:wpAny M A t Q (λ_ _=>False) s)(b:∀a s,Q a s->c a s):wpAny M A t c E s:=CZ h b λ_ _ z=>z.elim
inductive lK(x y:V)(H:Hp)(Q:VK):Prop
 |mk (z i:_)(_:x=.str z)(_:y=.int i)(_:0<=i)(_:i<=100000)(_:z.length*i.toNat<=100000)(_:Q (.str<|Txt.mul z i) H)
theorem q7p:dN X (binaryOp .Mult) lK:=by
 intro a s m H x y v u Q I b c h;obtain⟨z,i,rfl,rfl,n,d,o,q⟩:=h;obtain⟨t,rfl⟩:=b;obtain⟨f,rfl⟩:=c;refine SB.mul ⟨?_,λj l=>?_,λj l=>?_⟩ λf k=>⟨.str _,H,I.tok k,⟨_,rfl⟩,q⟩
 ·rw[BR (by omega),BR<|by omega];rfl
 ·have p:(z.length:Int)<=100000:=by
   have r:z.length*1<=z.length*i.toNat:=Nat.mul_le_mul_left _ (by omega);omega
  have w:(100000:Int)<=(2 ^ 63-1)/i:=by
   rw[Int.le_ediv_iff_mul_le<|by omega];have:(100000:Int)*i<=100000*100000:=Int.mul_le_mul_of_nonneg_left d (by decide);have e:(2:Int) ^ 63-1=9223372036854775807:=by decide
   omega
  omega
 ·rw[Builtin.Str.tooLong,DW];exact BR<|by lia
def ff:Expr->Bool
 |.Starred _ _=>true
 |_=>false
def fM(a:Ô):Bool:=a.all λe=>!ff e
def ud(e:Expr)(a:Ô)(env:Env)(h:ff e=false):starEach (e :: a) env=(false,eval e env):: starEach a env:=by
 cases e<;>first|rfl|(exact absurd h<|by simp[ff])
theorem EJ(pos:Pos)(env:Env):∀a:Ô,fM a=true->(backTo pos<|starEach a env).any (·.1)=false
 |[],_=>rfl
 |e :: a,h=>by
  have b:(!ff e)=true/\fM a=true:=by
   have:=h;unfold fM at this ⊢;rwa[Hn,Bx]at this
  have c:ff e=false:=by
   have:=b.1;cases q:ff e with
   |true=>rw[q]at this;cases this
   |false=>rfl
  rw[ud e a env c];show(false || (backTo pos<|starEach a env).any (·.1))=false;rw[EJ pos env a b.2];rfl
theorem wv(h:fM (e :: a)=true):ff e=false/\fM a=true:=by
 unfold fM at h ⊢;rw[Hn,Bx]at h;refine⟨?_,h.2⟩;cases q:ff e with
 |true=>rw[q]at h;cases h.1
 |false=>rfl
def PM(a:PE X e b)(c:PA X d t)(f:ff e=false:=by rfl):PA X (e :: d) (Tx b t):=xN a c<|ud _ _ _ f
def Uf(F:aG X.prog X.w X.K X.mg X.base CX k f c ps sp)(d:bJ k X.A)(h:X.mg x=some (.ref f))(i:PySem.W.keepIn X.K (.ref f)=true)(j:ma X.K c ps [])(l:qf CX X E)
  (m:PA X (e :: a) t) (n:Gl X x:=by rfl) (o:(x == ("__debug__" : Str))=false:=by decide) (b:fM (e :: a)=true:=by rfl):PE X (.Call (.Name x p) (e :: a) [] pos) (Tz sp [] E t):=
 QH F d n h i j .nil l m o (ud _ _ _ (wv b).1) (EJ _ _ _ (wv b).2)
def Lc{id:String}(c:i7 X (.builtin id) r)(d:X.mg x=none)(f:bootBuiltins x=some (.builtin id))(h:PA X (e :: a) t)(i:Gl X x:=by rfl)(j:x ≠ "__name__":=by decide)(k:(x == ("__debug__" : Str))=false:=by decide)
  (b:fM (e :: a)=true:=by rfl):PE X (.Call (.Name x p) (e :: a) [] pos) (EE r t):=
 ll c i d f h j k (ud _ _ _ (wv b).1) (EJ _ _ _ (wv b).2)
def Ld(c:i7 X (.type T) r)(d:X.mg x=none)(f:bootBuiltins x=some (.type T))(h:PA X (e :: a) t)(i:Gl X x:=by rfl)(j:x ≠ "__name__":=by decide)(k:(x == ("__debug__" : Str))=false:=by decide)
  (b:fM (e :: a)=true:=by rfl):PE X (.Call (.Name x p) (e :: a) [] pos) (EE r t):=
 fx c i d f h j k (ud _ _ _ (wv b).1) (EJ _ _ _ (wv b).2)
structure Ev(X:Cx)(e:Expr)(σ:St)(H:Hp)(Q:VK):Prop where
 run:∀pins s,be X pins σ H s->ar X (eval e X.env) (EP X pins σ Q) X.xe s
structure Et(X:Cx)(e:Expr)(σ:St)(H:Hp)(Q:Bool->Hp->Prop):Prop where
 run:∀pins s,be X pins σ H s->ar X (isTrue e X.env<|eval e X.env) (TP X pins σ Q) X.xe s
structure Ew(X:Cx)(e:Expr)(σ:St)(H:Hp)(Q:Bool->Hp->Prop):Prop where
 run:∀whole pins s,be X pins σ H s->ar X (isTrue e X.env whole) (TP X pins σ Q) X.xe s
structure Ea(X:Cx)(es:Ô)(σ:St)(H:Hp)(Q:List V->Hp->Prop):Prop where
 run:∀pos pins s,be X pins σ H s->ar X (spliced<|backTo pos<|starEach es X.env) (AP X pins σ Q) X.xe s
structure Eo(X:Cx)(e:Option Expr)(σ:St)(H:Hp)(Q:Option Int->Hp->Prop):Prop where
 run:∀pins s,be X pins σ H s->ar X (evalPart e X.env) (λu s'=>∃o H',be X pins σ H' s'/\IsPart u o/\Q o H') X.xe s
structure Eg(X:Cx)(e:Expr)(v:V)(σ:St)(H:Hp)(Q:St->Hp->Prop):Prop where
 run:∀pins s u,be X pins σ H s->br v u->ar X (assign e X.env u) (λ_ s'=>∃σ' H',be X pins σ' H' s'/\Q σ' H') X.xe s
structure fg(X:Cx)(l:Õ)(D:wp)(σ:St)(H:Hp):Prop where
 run:∀pins s,be X pins σ H s->ar X (execs l X.env) (SP X pins D) X.xe s
def SS(X:Cx)(e:Expr):TE:=λa H Q=>Ev X e a H Q
def kN(X:Cx)(e:Expr):TT:=λa H Q=>Et X e a H Q
def ds(X:Cx)(e:Expr):TT:=λa H Q=>Ew X e a H Q
def yp(X:Cx)(a:Ô):TA:=λb H Q=>Ea X a b H Q
def xU(X:Cx)(e:Option Expr):TO:=λa H Q=>Eo X e a H Q
def de(X:Cx)(e:Expr):TG:=λv a H Q=>Eg X e v a H Q
def Le(X:Cx)(l:Õ):TS:=λD a H=>fg X l D a H
def bB:PE X e (SS X e):=λa s _ _ _ I h=>h.run a s I
def qo:PT X e (kN X e):=λa s _ _ _ I h=>h.run a s I
def Uu:PW X e (ds X e):=λb a s _ _ _ I h=>h.run b a s I
def lP:PA X b (yp X b):=λpos a s _ _ _ I h=>h.run pos a s I
def Uv:PO X e (xU X e):=λa s _ _ _ I h=>h.run a s I
def uf:PG X e (de X e):=λa s _ _ _ u _ I r h=>h.run a s u I r
def ug:lF X l (Le X l):=λa s _ _ _ I h=>h.run a s I
def fj(c:PE X e t)(d:t b H Q):Ev X e b H Q:=⟨λa s I=>c a s b H Q I d⟩
def wx(c:PT X e t)(d:t b H T):Et X e b H T:=⟨λa s I=>c a s b H T I d⟩
def EK(c:PW X e t)(d:t b H T):Ew X e b H T:=⟨λf a s I=>c f a s b H T I d⟩
def Uw(c:PA X d t)(e:t b H L):Ea X d b H L:=⟨λpos a s I=>c pos a s b H L I e⟩
def Ux(c:PO X e t)(d:t b H R):Eo X e b H R:=⟨λa s I=>c a s b H R I d⟩
def Lf(c:PG X e t)(d:t v b H R):Eg X e v b H R:=⟨λa s u I r=>c a s b H v u R I r d⟩
def nw{st:Stmt}(e:PS X st t)(f:t {D with nx:=λc H'=>fg X a D c H'} d H):fg X (st :: a) D d H:=⟨λb s I=>No e ug b s d H D I f⟩
def a8(h:D.nx b H):fg X [] D b H:=⟨λa s I=>OK a s b H D I h⟩
def Ev.mono(h:Ev X e b H Q)(f:∀v H',Q v H'->c v H'):Ev X e b H c:=⟨λa s I=>aO (h.run a s I) λ_ _⟨v,H',d,r,q⟩=>⟨v,H',d,r,f v H' q⟩⟩
def Et.mono(h:Et X e b H T)(f:∀v H',T v H'->c v H'):Et X e b H c:=⟨λa s I=>aO (h.run a s I) λv _⟨H',d,q⟩=>⟨H',d,f v H' q⟩⟩
def Ea.mono(h:Ea X b c H L)(f:∀v H',L v H'->d v H'):Ea X b c H d:=⟨λpos a s I=>aO (h.run pos a s I) λ_ _⟨v,H',e,r,q⟩=>⟨v,H',e,r,f v H' q⟩⟩
def U(i:Nat)(h:Q v H)(a:b[i]?=some (some v):=by rfl)(c:X.N[i]?=some x:=by rfl)(d:DZ X.env.scope x:=by first | exact Or.inl rfl | exact Or.inr (Or.inl rfl) | exact Or.inr<|Or.inr rfl)(hd:(x == ("__debug__" : Str))=false:=by decide)
  (e:(x == ("__classdict__" : Str))=false:=by decide):Ev X (.Name x p) b H Q:=fj (tA c d hd e) ⟨v,a,h⟩
def aF(h:Q (.int i) H):Ev X (.Constant (.int i) j p) a H Q:=fj (dO) h
def uh(h:Q (.bl i) H):Ev X (.Constant (.bool i) j p) a H Q:=fj (x5f) h
def eI(h:Q (.str i) H):Ev X (.Constant (.str i) j p) a H Q:=fj (x3p) h
def bb(d:dN X (binaryOp op) r)(h:Ev X a c H λx e=>Ev X b c e λy f=>r x y f Q):Ev X (.BinOp a op b pos) c H Q:=fj (kP d bB bB) h
def ui(b:EA X (unaryOp op) r)(h:Ev X a c H λx d=>r x d Q):Ev X (.UnaryOp op a pos) c H Q:=fj (Ze b bB) h
def qp(d:dN X (compareOp op) r)(h:Ev X a c H λx e=>Ev X b c e λy f=>r x y f Q)(i:behindInMarks op b=false:=by with_unfolding_all rfl):Ev X (.Compare a [op] [b] pos) c H Q:=fj (Ru d bB bB i) h
def x5o(h:Ev X a c H λx d=>∃k,x=.bl k/\if k=true then Q (.bl true) d else Ev X (.BoolOp .Or (b :: e) pos) c d Q):Ev X (.BoolOp .Or (a :: b :: e) pos) c H Q:=fj (x4q bB bB) h
def Lv(h:Ev X a b H Q):Ev X (.BoolOp op [a] pos) b H Q:=fj (al bB) h
def Uy(h:Et X c d H λk e=>if k=true then Ev X a d e Q else Ev X b d e Q):Ev X (.IfExp c a b pos) d H Q:=fj (NL qo bB bB) h
def bn(d:yg X r)(h:Ev X a c H λx e=>Ev X b c e λy f=>r x y f Q)(i:TU b:=by intro _ _;rfl):Ev X (.Subscript a b pos) c H Q:=fj (qa d bB bB i) h
def EL{lo c:Option Expr}(d:Ky X r)(h:Ev X a b H λx e=>Eo X lo b e λl f=>Eo X c b f λu i=>r x l u i Q):Ev X (.Subscript a (.Slice lo c none j) pos) b H Q:=fj (SI d bB Uv Uv) h
def ER(h:R none H):Eo X none a H R:=Ux (yk) h
def EV(h:Ev X a b H λx c=>∃i,x=.int i/\R (some i) c):Eo X (some a) b H R:=Ux (Ps bB) h
def aA(h:L [] H):Ea X [] a H L:=Uw (lV) h
def ai(h:Ev X e a H λx b=>Ea X c a b λxs d=>L (x :: xs) d)(f:ff e=false:=by rfl):Ea X (e :: c) a H L:=Uw (PM bB lP f) h
def dk(h:Ea X b c H λxs a=>xs.length<=sizeLine/\∀p,a p=none->Q (.ref p) (upd a p<|.tup xs)):Ev X (.Tuple b k pos) c H Q:=fj (x0a lP) h
def eQ(h:Ea X b c H λxs a=>xs.length<=sizeLine/\∀p,a p=none->Q (.ref p) (upd a p<|.lst xs)):Ev X (.List b pos) c H Q:=fj (zY lP) h
def Uz(F:aG X.prog X.w X.K X.mg X.base CX k f d ps sp)(i:bJ k X.A)(j:X.mg x=some (.ref f))(l:PySem.W.keepIn X.K (.ref f)=true)(m:ma X.K d ps [])(n:qf CX X E)
  (h:Ea X (e :: a) b H λvs c=>sp vs c Q E) (o:Gl X x:=by rfl) (r:(x == ("__debug__" : Str))=false:=by decide) (s:fM (e :: a)=true:=by rfl):Ev X (.Call (.Name x p) (e :: a) [] pos) b H Q:=
 fj (Uf F i j l m n lP o r s) (show Ea X (e :: a) b H _ from h.mono λvs c q=>by rwa[Bd])
def cL{id:String}(b:i7 X (.builtin id) r)(c:X.mg x=none)(d:bootBuiltins x=some (.builtin id))(h:Ea X (e :: a) f H λvs i=>r vs i Q)(j:Gl X x:=by rfl)(k:x ≠ "__name__":=by decide)(l:(x == ("__debug__" : Str))=false:=by decide)
  (m:fM (e :: a)=true:=by rfl):Ev X (.Call (.Name x p) (e :: a) [] pos) f H Q:=fj (Lc b c d lP j k l m) h
def qt(b:i7 X (.type T) r)(c:X.mg x=none)(d:bootBuiltins x=some (.type T))(h:Ea X (e :: a) f H λvs i=>r vs i Q)(j:Gl X x:=by rfl)(k:x ≠ "__name__":=by decide)(l:(x == ("__debug__" : Str))=false:=by decide)
  (m:fM (e :: a)=true:=by rfl):Ev X (.Call (.Name x p) (e :: a) [] pos) f H Q:=fj (Ld b c d lP j k l m) h
def cA(d:dN X (compareOp op) r)(h:Ev X a c H λx e=>Ev X b c e λy f=>r x y f λz i=>∃k,z=.bl k/\T k i)(j:behindInMarks op b=false:=by with_unfolding_all rfl):Et X (.Compare a [op] [b] pos) c H T:=wx (AN d bB bB j) h
def T2(h:Et X a b H λk c=>T (!k) c):Et X (.UnaryOp .Not a pos) b H T:=wx (LU qo) h
def UA(h:Ev X e a H λx b=>∃k,x=.bl k/\T k b)(c:∀whole,isTrue e X.env whole=(do let v <-whole;standAt e.pos;holding [v] (truthy v)):=by intro _;rfl):Et X e a H T:=wx (cK bB c) h
def UB(h:Ev X e b H λx a=>∃k,tY X.K x a k/\T k a)(c:∀whole,isTrue e X.env whole=(do let v <-whole;standAt e.pos;holding [v] (truthy v)):=by intro _;rfl):Et X e b H T:=wx (q38 bB c) h
def wy(h:Ew X e b H T):Et X e b H T:=⟨λa s I=>h.run _ a s I⟩
def Lg(h:Et X a c H λk d=>if k=true then Ew X (.BoolOp .And (b :: e) pos) c d T else T false d):Ew X (.BoolOp .And (a :: b :: e) pos) c H T:=EK (x3d qo Uu) h
def Lh(h:Et X a c H λk d=>if k=true then T true d else Ew X (.BoolOp .Or (b :: e) pos) c d T):Ew X (.BoolOp .Or (a :: b :: e) pos) c H T:=EK (x4u qo Uu) h
def Li(h:Et X a b H T):Ew X (.BoolOp .And [a] pos) b H T:=EK (DS qo) h
def UC(h:Et X a b H T):Ew X (.BoolOp .Or [a] pos) b H T:=EK (Wf qo) h
def a9(i:Nat)(a:X.N.Nodup)(h:R (b.set i<|some v) H)(c:X.N[i]?=some x:=by rfl)(d:xp X.env.scope x:=by first|exact Or.inl rfl|exact Or.inr rfl)(e:X.fn x=true\/X.env.scope.names.lookup x=some .local:=by first|exact .inl rfl|exact .inr rfl|assumption):Eg X (.Name x p) v b H R:=Lf (pz a c d e) h
def aX(i:Nat)(d:X.N.Nodup)(h:Ev X e c H λv f=>fg X a D (c.set i<|some v) f)(j:X.N[i]?=some x:=by rfl)(k:xp X.env.scope x:=by first|exact Or.inl rfl|exact Or.inr rfl)(l:swapsWith e (some<|.Name x b) pos.line X.env=pure false:=by rfl)
  (m:X.fn x=true\/X.env.scope.names.lookup x=some .local:=by first|exact .inl rfl|exact .inr rfl|assumption):fg X (.Assign [.Name x b] e pos :: a) D c H:=nw (rV d j k bB l m) h
def fk(h:Et X c d H λk e=>if k=true then fg X body {D with nx:=λb H'=>fg X a D b H'} d e else fg X f {D with nx:=λb H'=>fg X a D b H'} d e):fg X (.If c body f pos :: a) D d H:=nw (x5h qo ug ug) h
def UD(e ψ:Prop)(f:∀T:Bool->Hp->Prop,(∀k:Bool,(k=true->e)->(k=false->ψ)->T k H)->Et X c d H T)(h:e->fg X body {D with nx:=λb H'=>fg X a D b H'} d H)(i:ψ->fg X j {D with nx:=λb H'=>fg X a D b H'} d H):fg X (.If c body j pos :: a) D d H:=
 fk (f _ λk p q=>by
  cases k with
  |true=>rw[BL rfl];exact h<|p rfl
  |false=>rw[C Av];exact i<|q rfl)
def bQ(h:Ev X e b H D.rt):fg X (.Return (some e) pos :: a) D b H:=nw (Pf bB) h
def ik(h:Ev X e b H λ_ c=>fg X a D b c)(d:swapsWith e none pos.line X.env=pure false:=by rfl):fg X (.Expr e pos :: a) D b H:=nw (ox bB d) h
def yq(h:Ev X e d H λv f=>Eg X a v d f λc H'=>fg X b D c H')(i:swapsWithSole [a] e pos.line X.env=pure false:=by rfl)(j:swappedStores [a] e X.env=pure none:=by rfl)
  (k:(assignEach [a] X.env).map (·.2)=[assign a X.env]:=by rfl):fg X (.Assign [a] e pos :: b) D d H:=nw (WQ bB uf i j k) h
def ue(X:Cx)(f:Expr)(body:Õ)(J:It)(D:wp)(after:St->Hp->Prop)(a:St)(H:Hp):Prop:=
 ∃ W:Nat->Nat->St->Hp->Prop,(∃ m,W 0 m a H)/\∀ i m a H,W i m a H->(J.stop i H/\after a H)\/(J.go i H/\∃ N:St->Hp->Prop,(∀ b c,N b c->∃ e,e < m/\W (i+1) e b c) /\
  ∀x c,J.x4 i H x c->Eg X f x a c λd h=>fg X body {D with nx:=N,ct:=N,bk:=after} d h)
def EW(e:PI X c iter f)(h:f d H λJ i=>ue X c body J D (λb H'=>fg X a D b H') d i)(j:PassesOwn (model X.prog X.w) X.A X.env X.xe:=by exact JW)(k:X.calm=true:=by rfl)
  (l:∀x,foldedSetIterable iter X.env x=pure x:=by intro _;rfl):fg X (.For c iter body [] pos :: a) D d H:=nw (zr j k e uf ug l) h
def nF(k:X.mg "range" = none)(h:Ev X a c H λx f=>∃j:Int,x=.int j/\-(2 ^ 62)<=j/\j<2 ^ 62/\ue X l body (wg 0 j.toNat) D (λd H'=>fg X b D d H') c f)(m:Gl X "range":=by rfl)(n:PassesOwn (model X.prog X.w) X.A X.env X.xe:=by exact JW)(o:X.calm=true:=by rfl)(i:ff a=false:=by rfl):
  fg X (.For l (.Call (.Name "range" q) [a] [] p) body [] pos :: b) D c H:=
 EW (Ti m k lP<|ud a [] _ i) (show Ea X [a] c H _ from ai (h.mono λx f⟨j,e,r,s,t⟩=>aA ⟨j,by rw[e],r,s,t⟩) i) n o (by intro _;rfl)
def Sc(h:Ev X iter d H λx e=>∃a,x=.ref a/\(∃xs,aU X.K e a xs)/\ue X f body (D8 X.K a) D (λc H'=>fg X b D c H') d e)(i:PassesOwn (model X.prog X.w) X.A X.env X.xe:=by exact JW)(j:X.calm=true:=by rfl)
  (k:∀x,foldedSetIterable iter X.env x=pure x:=by intro _;rfl):fg X (.For f iter body [] pos :: b) D d H:=EW (wL bB) h i j k
def jH(h:Ev X iter d H λx e=>∃a,x=.ref a/\(∃xs,av X.K e a xs)/\ue X f body (tT X.K a) D (λc H'=>fg X b D c H') d e)(i:PassesOwn (model X.prog X.w) X.A X.env X.xe:=by exact JW)(j:X.calm=true:=by rfl)
  (k:∀x,foldedSetIterable iter X.env x=pure x:=by intro _;rfl):fg X (.For f iter body [] pos :: b) D d H:=EW (gJ bB) h i j k
def nG{lo:Int}(Pv:Nat->St->Hp->Prop)(d:Pv 0 a H)
  (f:∀i a H,i<n->Pv i a H->Eg X h (.int<|lo+i) a H λb j=>fg X body {D with nx:=Pv<|i+1,ct:=Pv<|i+1,bk:=after} b j) (hd:∀a H,Pv n a H->after a H):ue X h body (wg lo n) D after a H:=by
 refine⟨λi m a H=>m=n-i/\i<=n/\Pv i a H,⟨n,by simp,By _,d⟩,?_⟩;rintro i m a H ⟨rfl,q,p⟩
 by_cases c:i<n
 ·refine .inr ⟨c,Pv<|i+1,λk l o=>⟨n-(i+1),by lia,rfl,c,o⟩,λx l y=>?_⟩;obtain⟨e,y⟩:=y;subst e y;exact f i a _ c p
 ·have e:i=n:=by lia
  subst e;exact .inl ⟨Aq _,hd a H p⟩
def q22(Pv:Nat->St->Hp->Prop)(f:Pv 0 a H)(h:∀i a H,i<=xs.length->Pv i a H->aU X.K H b xs)
  (j:∀i x a H,xs[i]?=some x->Pv i a H->Eg X k x a H λc l=>fg X body {D with nx:=Pv<|i+1,ct:=Pv<|i+1,bk:=after} c l) (hd:∀a H,Pv xs.length a H->after a H):ue X k body (D8 X.K b) D after a H:=by
 refine⟨λi m a H=>m=xs.length-i/\i<=xs.length/\Pv i a H,⟨xs.length,by simp,By _,f⟩,?_⟩;rintro i m a H ⟨rfl,n,p⟩;have q:=h i a H n p
 by_cases d:i<xs.length
 ·refine .inr ⟨⟨xs,xs[i],q,by simp[d]⟩,Pv<|i+1,λo r s=>⟨xs.length-(i+1),by lia,rfl,d,s⟩,λx r y=>?_⟩;obtain⟨e,y⟩:=y;subst e;exact j i x a _ (y xs q) p
 ·have e:i=xs.length:=by lia
  subst e;exact .inl ⟨⟨xs,q,Aq _⟩,hd a H p⟩
def jI(Pv:Nat->St->Hp->Prop)(f:Pv 0 a H)(h:∀i a H,i<=xs.length->Pv i a H->av X.K H b xs)
  (j:∀i x a H,xs[i]?=some x->Pv i a H->Eg X k x a H λc l=>fg X body {D with nx:=Pv<|i+1,ct:=Pv<|i+1,bk:=after} c l) (hd:∀a H,Pv xs.length a H->after a H):ue X k body (tT X.K b) D after a H:=by
 refine⟨λi m a H=>m=xs.length-i/\i<=xs.length/\Pv i a H,⟨xs.length,by simp,By _,f⟩,?_⟩;rintro i m a H ⟨rfl,n,p⟩;have q:=h i a H n p
 by_cases d:i<xs.length
 ·refine .inr ⟨⟨xs,xs[i],q,by simp[d]⟩,Pv<|i+1,λo r s=>⟨xs.length-(i+1),by lia,rfl,d,s⟩,λx r y=>?_⟩;obtain⟨e,y⟩:=y;subst e;exact j i x a _ (y xs q) p
 ·have e:i=xs.length:=by lia
  subst e;exact .inl ⟨⟨xs,q,Aq _⟩,hd a H p⟩
def bA.go{K:aa}{st:Stmt}(F:bA K x a st f c)(S:ak N ps<|aW st)(len:∀vs H Q E,sp vs H Q E->vs.length=ps.length)
  (d : ∀b A outer s H vs Q E, bJ k (A.deeper<|envOfC a (aW st) s.heap.objs.size f b) → sp vs H Q E →
   fg (dY bF P w K mg base N a (aW st) f b A outer s H E).wc (iW st) {nx:=λ_ H'=>Q .non H',rt:=Q} (il N vs) H):aG P w K mg base bF (k+1) f c ps sp:=
 F.ok S len λb A outer s H vs Q E e h=>⟨_,ug,d b A outer s H vs Q E e h⟩
structure Ei(X:Cx)(ifs:Ô)(σ:St)(H:Hp)(Q:Bool->Hp->Prop):Prop where
 run:∀pins s,be X pins σ H s ->
  ar X (forIn ifs true λc r=>if r=true then do let ok <-isTrue c X.env<|eval c X.env;pure (ForInStep.yield ok)else pure (ForInStep.yield r)) (TP X pins σ Q) X.xe s
def Lj(X:Cx)(N':Ñ)(scope:Scope)(e:Expr)(d:St)(H:Hp)(Q:VK):Prop:=∀f a b c h,Ev (iX X N' scope f a b c h) e d H Q
def Ln(X:Cx)(N':Ñ)(scope:Scope)(e:Expr)(v:V)(d:St)(H:Hp)(Q:St->Hp->Prop):Prop:=∀f a b c h,Eg (iX X N' scope f a b c h) e v d H Q
def Lp(X:Cx)(N':Ñ)(scope:Scope)(d:Ô)(e:St)(H:Hp)(Q:Bool->Hp->Prop):Prop:=∀f a b c h,Ei (iX X N' scope f a b c h) d e H Q
def rO(X:Cx)(N':Ñ)(scope:Scope)(o:Expr)(e:Ô)(f:Expr)(J:It)(D:Addr)(after:Hp->Prop)(p:St)(H:Hp):Prop:=
 ∃W:Nat->Nat->St->Hp->Prop,(∃m,W 0 m p H)/\∀i m a d,W i m a d ->
  (J.stop i d ∧ after d) ∨ (J.go i d ∧ ∃ N : St → Hp → Prop, (∀ a d, N a d → ∃ j, j < m ∧ W (i + 1) j a d) ∧ ∀ x k, J.x4 i d x k → Ln X N' scope o x a k λc q => Lp X N' scope e c q λb l =>
   if b=true then Lj X N' scope f c l λv n=>∃h,n D=some (.lst h)/\h.length<sizeLine/\N c (upd n D<|.lst<|h++[v])else N c l)
theorem uj:∀names n acc,cellsFrom n names acc=cellsFrom n names []++acc
 |[],_,_=>rfl
 |(y,k):: r,n,acc=>by
  unfold cellsFrom
  split
  ·rw[uj r (n+1)<|(y,n):: acc,uj r (n+1) [(y,n)],Ap];rfl
  ·exact uj r n acc
set_option tactic.hygienic true in
theorem yr:∀names n{x}{c},(x,c)∈cellsFrom n names []->(x,NameKind.cell)∈names/\n<=c
 |[],_,_,_,h=>by cases h
 |(y,k):: r,n,x,c,h=>by
  unfold cellsFrom at h
  split at h
  ·rename_i d;rw[uj,Al]at h
   obtain h|h:=h
   ·obtain⟨a,b⟩:=yr r (n+1) h;exact⟨Af _ a,by lia⟩
   ·cases Ae.mp h;have:k=.cell:=by cases k<;>first|rfl|exact absurd d<|by decide
    subst this;exact⟨Ac,Aq _⟩
  ·obtain⟨a,b⟩:=yr r n h;exact⟨Af _ a,b⟩
theorem UE(h:(cellsFrom n names b).lookup x=some c):((x,c)∈cellsFrom n names []/\n<=c)\/b.lookup x=some c:=by
 rw[uj,QL]at h;cases e:(cellsFrom n names []).lookup x with
 |some d=>
  rw[e]at h;cases h;have a:=DK e;exact .inl ⟨a,(yr _ _ a).2⟩
 |none=>
  rw[e]at h;exact .inr h
theorem rC(h:(x,NameKind.cell)∉names):(cellsFrom n names a).lookup x=a.lookup x:=by
 rw[uj,QL];cases e:(cellsFrom n names []).lookup x with
 |some d=>exact absurd (yr _ _<|DK e).1 h
 |none=>rfl
def k1p{code:Value}
  (i : ∀ h', h'.Ns s.heap.objs.size (λ_ => none) → (∀ b o, s.heap.get? b = some o → h'.get? b = some o) → CellsOk h' (s.heap.objs.size + 1) (cellsFrom (s.heap.objs.size + 1) scope.names []) →
   Q (newEnv scope s.heap.objs.size globals (cellsFrom (s.heap.objs.size+1) scope.names c) d func code (some outer) a) {s with heap:=h'}):
  wpAny M A (newFunctionEnv scope globals c [] d func code (some outer) a) Q E s:=by
 simp only[newFunctionEnv,Option.isSome_some,DQ];refine BJ<|QJ<|BJ (wpAny_layCells _ (λname kind f=>by cases h:kind == NameKind.cell <;> simp[h]) _ _ _ _ ?_);have ok:=cellsFrom_ok scope.names (s.heap.push {cls:= .type "dict",data:= .dict #[]}) (s.heap.objs.size+1) [] ⟨λ_ _ j=>(nomatch j),List.Pairwise.nil⟩ (by rw[Dr];exact Aq _);rw[Dr]at ok;rw[show({s with heap:=s.heap.push {cls:= .type "dict",data:= .dict #[]}}:Shared).heap.objs.size=s.heap.objs.size+1 from Dr ..];rw[List.forIn_nil];exact BJ<|BP<|BP<|i _ ((Heap.Ns.new s.heap<|.type "dict").keeps<|pushCells_keeps _ _) (λb o e=>pushCells_keeps _ _ b o<|Am _ e) ok
def rP(a scope:Scope)(N N':Ñ):Bool:=
 (match scope.kind with|.function=>true|_=>false) &&
 scope.names.all (λy=>match y.2 with
  |.cell=>(match scope.names.lookup y.1 with|some .cell=>true|_=>false)
  |.local=>(match scope.names.lookup y.1 with|some .local=>true|_=>false)
  |.free=>(match a.names.lookup y.1 with|some .cell=>true|some .free=>true|_=>false) && (match scope.names.lookup y.1 with|some .free=>true|_=>false)
  |_=>true) &&
 (range N'.length).all λi => match N'[i]? with
  |none=>true
  |some x=>match scope.names.lookup x with
   |some .local=>decide (N.length<=i)
   |some .cell=>decide (N.length<=i)
   |some .free=>decide (N[i]?=some x)
   |_=>true
structure b8(sc scope:Scope)(N N':Ñ):Prop where
 kind:scope.kind=.function
 cell:∀y∈scope.names,y.2=.cell->scope.names.lookup y.1=some .cell
 names:∀y∈scope.names,y.2=.local->scope.names.lookup y.1=some .local
 free:∀y∈scope.names,y.2=.free->sc.names.lookup y.1=some .cell\/sc.names.lookup y.1=some .free
 UH:∀y∈scope.names,y.2=.free->scope.names.lookup y.1=some .free
 own:∀i x,N'[i]?=some x->scope.names.lookup x=some .local->N.length<=i
 Lq:∀i x,N'[i]?=some x->scope.names.lookup x=some .cell->N.length<=i
 out:∀(i:Nat)x,N'[i]?=some x->scope.names.lookup x=some .free->N[i]?=some x
def b8.of{N N':Ñ}(h:rP j scope N N'=true):b8 j scope N N':=by
 unfold rP at h;rw[Bx,Bx]at h;obtain⟨⟨d,k⟩,l⟩:=h;have c:=Fh.mp k;have f:=Fh.mp l;refine⟨?_,λy b e=>?_,λy b e=>?_,λy b e=>?_,λy b e=>?_,λi x a e=>?_,λi x a e=>?_,λi x a e=>?_⟩
 ·revert d;cases scope.kind<;>intro d<;>first|rfl|cases d
 ·have q:=c y b;rw[e]at q;simp only at q
  split at q
  ·assumption
  ·cases q
 ·have q:=c y b;rw[e]at q;simp only at q
  split at q
  ·assumption
  ·cases q
 ·have q:=c y b;rw[e]at q;simp only at q;rw[Bx]at q;have q:=q.1
  split at q
  ·exact .inl<|by assumption
  ·exact .inr<|by assumption
  ·cases q
 ·have q:=c y b;rw[e]at q;simp only at q;rw[Bx]at q;have q:=q.2
  split at q
  ·assumption
  ·cases q
 ·have q:=f i<|Bg.mpr (Ad.mp a).1;rw[a]at q;simp only[e]at q;exact BZ q
 ·have q:=f i<|Bg.mpr (Ad.mp a).1;rw[a]at q;simp only[e]at q;exact BZ q
 ·have q:=f i<|Bg.mpr (Ad.mp a).1;rw[a]at q;simp only[e]at q;exact BZ q
def q44(I:be X A L H s)(l:b8 X.env.scope scope X.N N')(hl:N'.length=X.N.length+n)
  (EH:h₁.Ns s.heap.objs.size m) (old:∀b o,s.heap.get? b=some o->h₁.get? b=some o) (rQ:CellsOk h₁ (s.heap.objs.size+1)<|cellsFrom (s.heap.objs.size+1) scope.names [])
  (w:∀b∈fp,cJ X A H b/\b<s.heap.objs.size):
  be (iX X N' scope (cellsFrom (s.heap.objs.size+1) scope.names<|cY scope.names X.env.cells []) s.heap.objs.size s H fp) [] (L++replicate n none) H {s with heap:=h₁,toks:=t'}:=by
 have sub:∀x c,(cY scope.names X.env.cells []).lookup x=some c->X.env.cells.lookup x=some c:=λx c e=>K9 _ _ _ (λ_ _ z=>by simp at z) x c<|DK e;have both:∀x c,(cellsFrom (s.heap.objs.size+1) scope.names<|cY scope.names X.env.cells []).lookup x=some c->((x,c)∈cellsFrom (s.heap.objs.size+1) scope.names []/\s.heap.objs.size+1<=c)\/X.env.cells.lookup x=some c:=λx c e=>by
  obtain z|z:=UE e
  ·exact .inl z
  ·exact .inr<|sub x c z
 have rS:∀x c,X.env.cells.lookup x=some c->c<s.heap.objs.size:=λx c e=>by
  obtain⟨v,o,B,_⟩:=I.cell x c e;exact Ax B
 have kindOf:∀{x:Str}{f:NameKind},(relabel scope X.env).names.lookup x=some f->∃k,scope.names.lookup x=some k/\(f=k\/(k=.free/\f=.cell)):=λz=>Ur z;have UI:∀x,scope.names.lookup x=some .free->(cellsFrom (s.heap.objs.size+1) scope.names<|cY scope.names X.env.cells []).lookup x=(cY scope.names X.env.cells []).lookup x:=λx e=>rC λq=>by
  have:=l.cell _ q rfl;rw[e]at this;cases this
 have Lw:∀x,scope.names.lookup x=some .cell->∃c,(cellsFrom (s.heap.objs.size+1) scope.names<|cY scope.names X.env.cells []).lookup x=some c:=λx e=>Fr.mp<|JD _ _ _<|.inl e;have M:(iX X N' scope (cellsFrom (s.heap.objs.size+1) scope.names<|cY scope.names X.env.cells []) s.heap.objs.size s H fp).Ok:=by
  refine⟨I.ok.mod,l.kind,I.ok.glob,I.ok.blt,Aq _,λx y c N a=>?_,λx O=>?_,λx c Q e=>?_,I.ok.hd,I.ok.frames,.inl rfl,λb h=>⟨Bw (w b h).2,λx c e=>?_⟩,
   I.bs,Cd I.ok.rG I.sz,λb o e h=>?_,λb h Q=>?_,I.stack,I.fc⟩
  ·obtain D|D:=both x c N
   ·obtain t|t:=both y c a
    ·exact name_of_addr rQ.apart D.1 t.1
    ·cases (Nat.not_lt.mpr<|Fn D.2) (rS y c t)
   ·obtain t|t:=both y c a
    ·cases (Nat.not_lt.mpr<|Fn t.2) (rS x c D)
    ·exact I.ok.inj x y c D t
  ·have kJ:(relabel scope X.env).names.lookup x=some .cell\/(relabel scope X.env).names.lookup x=some .free:=O;have:∃k,scope.names.lookup x=some k/\(k=.free\/k=.cell):=by
    obtain z|z:=kJ
    ·obtain⟨k,e,r⟩:=kindOf z
     obtain r|⟨r,_⟩:=r
     ·exact⟨k,e,.inr r.symm⟩
     ·exact⟨k,e,.inl r⟩
    ·obtain⟨k,e,r⟩:=kindOf z
     obtain r|⟨r,_⟩:=r
     ·exact⟨k,e,.inl r.symm⟩
     ·exact⟨k,e,.inl r⟩
   obtain⟨k,e,rfl|rfl⟩:=this
   ·have q:=DK e;obtain⟨c,J⟩:=I.ok.has x<|l.free _ q rfl;obtain⟨d,hd⟩:=La<|K' scope.names X.env.cells [] x c q J;exact⟨d,(UI x e).trans hd⟩
   ·exact Lw x e
  ·have O:scope.names.lookup x=some .cell:=by
    have EX:(match scope.names.lookup x with|some .cell=>true|_=>false)=true:=Q
    split at EX
    ·assumption
    ·cases EX
   have j:(cellsFrom (s.heap.objs.size+1) scope.names<|cY scope.names X.env.cells []).lookup x=some c:=e;have q1:=Fr.mp<|JD scope.names (s.heap.objs.size+1) []<|.inl O;obtain⟨d,hd⟩:=q1;rw[uj,QL,hd]at j;have a:d=c:=Option.some.inj j;have:=(yr _ _<|DK hd).2;rw[<-a];exact Fn this
  ·have j:(cellsFrom (s.heap.objs.size+1) scope.names<|cY scope.names X.env.cells []).lookup x=some c:=e
   obtain z|z:=both x c j
   ·have h1:=(w b h).2;have h2:=z.2;exact λk=>absurd h1<|Nat.not_lt.mpr<|by rw[<-k];exact Fn h2
   ·exact(w b h).1.2.2.2.2.1 x c z
  ·have:=(w b h).1.2.2.2.1
   obtain z|z:=this
   ·exact I.ok.m5 b o e z
   ·exact absurd (Br (Ax e)<|Cd I.ok.rG z)<|Dl _
  ·obtain z|z:=Ak.mp (I.ie b Q)
   ·exact(w b h).1.2.1 z
   ·exact(w b h).1.2.2.1 z
 refine⟨M,rfl,I.bare,Un.kept old,⟨m,EH,λi x v N a e3=>?_⟩,λx c e=>?_,(I.aP.fresh<|Aq _),λx c e=>?_,λp hp=>absurd hp (by simp[iX]),I.aP.kept old,?_⟩
 ·have E:i<L.length:=by
   by_cases E:i<L.length
   ·exact E
   ·rw[Ay (by lia),Ft]at a
    split at a<;>cases a
  rw[Aw E]at a;have ul:N'[i]?=some x:=N;have Kk:∃f,(relabel scope X.env).names.lookup x=some f/\(f=.local\/f=.cell\/f=.free):=by
   obtain z|z|z:=e3
   ·exact⟨_,z,.inl rfl⟩
   ·exact⟨_,z,.inr<|.inl rfl⟩
   ·exact⟨_,z,.inr<|.inr rfl⟩
  obtain⟨f,T,um⟩:=Kk;obtain⟨k,G,r⟩:=kindOf T;have kf:k=.free:=by
   obtain r|⟨r,_⟩:=r
   ·subst r
    obtain z|z|z:=um
    ·subst z;have:=l.own i x ul G;rw[I.len]at E;lia
    ·subst z;have:=l.Lq i x ul G;rw[I.len]at E;lia
    ·exact z
   ·exact r
  subst kf;have q:=DK G;obtain⟨m0,yt,jJ⟩:=I.loc;have kx:=l.free _ q rfl;obtain⟨u,ru,lk⟩:=jJ i x v (l.out i x ul G) a (by obtain z|z:=kx;exact .inr<|.inl z;exact .inr<|.inr z);refine⟨u,ru,.inr ⟨?_,?_⟩⟩
  ·obtain r|⟨_,r⟩:=r
   ·subst r;exact .inr T
   ·subst r;exact .inl T
  ·obtain⟨k1,_⟩|⟨_,c,J,g5⟩:=lk
   ·have UK:X.env.scope.names.lookup x=some .local:=k1
    obtain z|z:=kx
    ·rw[UK]at z;cases z
    ·rw[UK]at z;cases z
   ·obtain⟨d,hd⟩:=La (K' scope.names X.env.cells [] x c q J);have:d=c:=Option.some.inj<|(sub x d hd).symm.trans J;subst this;obtain⟨o,B,Y⟩:=g5;exact⟨d,(UI x G).trans hd,o,old _ _ B,Y⟩
 ·have j:(cellsFrom (s.heap.objs.size+1) scope.names<|cY scope.names X.env.cells []).lookup x=some c:=e
  obtain z|z:=both x c j
  ·exact⟨none,(rQ.empty x c z.1).1⟩
  ·obtain⟨v,o,B,Y⟩:=I.cell x c z;exact⟨v,o,old _ _ B,Y⟩
 ·have j:(cellsFrom (s.heap.objs.size+1) scope.names<|cY scope.names X.env.cells []).lookup x=some c:=e
  obtain z|z:=both x c j
  ·exact I.aP.fresh<|Fn z.2
  ·exact I.cH x c z
 ·rw[Ah,Gc,I.len];exact hl.symm
structure gf(e:Expr)(d:Nat)(tg iter:Expr)(ifs:Ô)(acc:Value)(env:Env)(inner:Sem Unit):Prop where
 at':(clausesOf e)[d]?=some ⟨tg,iter,ifs,0⟩
 quiet:∀it,(Code.compLoop e d it acc env).quiet=true
 den:∀prog w it,(model prog w).den (.compLoop e d it acc env)=(compTurn e d it acc env).onRaise (λx=>do noteFrame x env;theTreesLotGoes x)
 und:∀(A:Around)it,A.under (.compLoop e d it acc env)=A
 Ly:∀prog w it,(model prog w).den (.compStart e d it acc env)=(compStart e d it acc env).onRaise (λx=>do noteFrame x env;standAt theWindowsPlace)
 Lz:∀(A:Around)it,A.under (.compStart e d it acc env)=A
 turn:∀ it,compTurn e d it acc env=(do
   standAt iter.pos
   match <-pyNext it with
   |none=>pure<|.done .next
   |some v=>
    letOwnedTupleGo tg it v
    assign tg env v
    let mut ok:=true
    for c in ifs do
     if ok then ok <-isTrue c env<|eval c env
    if ok then
     inner
    again (.compLoop e d it acc env))
theorem j5h{R:Result->Shared->Prop}(a:gf e d p iter k acc env inner)(I:Nat->Shared->Prop)
  (turn : ∀ n s, I n s → ba prog w A (pyNext it) (λr l => match r with
   |none=>R (.ok .next) l
   | some v=>ba prog w A (letOwnedTupleGo p it v) (λ_ b=>ba prog w A (assign p env v) (λ_ q=>
     ba prog w A (forIn k true λc r=>if r=true then do let ok <- isTrue c env<|eval c env;pure (ForInStep.yield ok)else pure (ForInStep.yield r)) (λok o=>
      if ok=true then ba prog w A inner (λ_ t=>∃m,m<n/\I m t) (notedBy (model prog w) A env λe s'=>R (.error e) s') o
      else ∃m,m<n/\I m o) (notedBy (model prog w) A env λe s'=>R (.error e) s') q) (notedBy (model prog w) A env λe s'=>R (.error e) s') b) (notedBy (model prog w) A env λe s'=>R (.error e) s') l) (notedBy (model prog w) A env λe s'=>R (.error e) s') s)
  (n:Nat) (h:I n s):
  codeAny (model prog w) A (.compLoop e d it acc env) R s:=by
 refine codeAny_loop (a.quiet it) I (λn s x=>?_) n h;rw[a.und,a.den];apply wpAny_noted;rw[a.turn];refine BJ<|DX<|BJ<|CZ (turn n s x) (λr l i=>?_) λ_ _ f=>f;cases r with
 |none=>exact BP i
 |some v=>
  refine BJ<|CZ i (λ_ b j=>?_) λ_ _ f=>f;refine BJ<|CZ j (λ_ q y=>BJ<|CZ y (λok o u=>?_) λ_ _ f=>f) λ_ _ f=>f;cases ok with
  |false=>exact BP ⟨rfl,u⟩
  |true=>exact BJ<|CZ u (λ_ t z=>BP ⟨rfl,z⟩) λ_ _ f=>f
def dS{R:Result->Shared->Prop}(a:gf e d j iter i acc env inner)
  (f:codeAny (model prog w) A (.compLoop e d it acc env) R s)
  (h:ba prog w A (pyIter it) (λb s'=>codeAny (model prog w) A (.compLoop e d b acc env) R s') (notedBy (model prog w) A env λx s'=>R (.error x) s') s):
  codeAny (model prog w) A (.compStart e d it acc env) R s:=by
 apply JX;rw[a.Lz,a.Ly];apply wpAny_notedAt;rw[compStart,a.at'];refine BJ<|JN<|wpAny_ite ?_
 split
 ·first
   |exact BJ<|BP<|BP<|And.intro (a.quiet _) f
   |exact BP<|And.intro (a.quiet _) f
 ·first
   |exact BJ<|HS<|BJ<|DX<|BJ<|CZ h (λb s' c=>BP<|And.intro (a.quiet _) c) λ_ _ x=>x
   |(apply BJ<|HS;exact BJ<|DX<|BJ<|CZ h (λb s' c=>BP<|And.intro (a.quiet _) c) λ_ _ x=>x)
structure pD(X:Cx)(m:Sem Unit)(σ:St)(H:Hp)(Q:St->Hp->Prop):Prop where
 run:∀pins s,be X pins σ H s->ar X m (λ_ s'=>∃σ' H',be X pins σ' H' s'/\Q σ' H') X.xe s
def kK(X:Cx)(k:Expr)(e:Ô)(inner:Sem Unit)(J:It)(after:St->Hp->Prop)(l:St)(H:Hp):Prop:=
 ∃W:Nat->Nat->St->Hp->Prop,(∃m,W 0 m l H)/\∀i m a c,W i m a c ->
  (J.stop i c ∧ after a c) ∨ (J.go i c ∧ ∃ N : St → Hp → Prop, (∀ a c, N a c → ∃ f, f < m ∧ W (i + 1) f a c) ∧ ∀ x h, J.x4 i c x h → Eg X k x a h λd n => Ei X e d n λb j =>
   if b=true then pD X inner d j N else N d j)
def EZ(z:X.xe=λ_ _=>False)(M:X.calm=true)(a:gf e d O iter A acc X.env inner)
        (I:be X c Q H s) (T:pi X.prog X.w X.K O J fp it B) (st:B 0 s.heap) (Y:∀b∈fp,cJ X c H b) (h:kK X O A inner J after Q H)
  (hR:∀f H' s',be X c f H' s'->after f H'->R (.ok .next) s'):
  codeAny (model X.prog X.w) X.A (.compStart e d (.ref it) acc X.env) R s:=by
 obtain⟨W,⟨m0,w0⟩,turn⟩:=h;have l:∀{H':Hp},(∀b∈fp,H' b=none)->∀b∈fp,cJ X c H' b:=λhn b n=>⟨hn b n,(Y b n).2⟩;have p:codeAny (model X.prog X.w) X.A (.compLoop e d (.ref it) acc X.env) R s:=by
  refine j5h a (λk s'=>∃i f H',be X c f H' s'/\B i s'.heap/\(∀b∈fp,H' b=none)/\W i k f H') ?_ m0 ⟨0,Q,H,I,st,λb n=>(Y b n).1,w0⟩;rintro k s4 ⟨i,q,D,J4,UM,UN,w4⟩
  obtain⟨stop,qn⟩|⟨go,N,hN,step⟩:=turn i k q D w4
  ·have d1:=T.done X rfl rfl rfl M i c s4 q D (λ_ _=>False) J4 (l UN) UM stop;refine lJ d1 λr s5⟨E,I5⟩=>?_;subst E;exact hR _ _ _ I5 qn
  ·refine lJ (T.item X rfl rfl rfl M i c s4 q D (λ_ _=>False) J4 (l UN) UM go) λr s5⟨u,E,h5⟩=>?_;subst E;refine lJ h5 λ_ s6⟨x,H6,I6,r6,y6,G,L⟩=>?_;have again:∀{j:St}{t:Hp}{v:Shared},be X (c++x5 fp s6.heap) j t v->N j t->∃m,m<k/\∃i f H',be X c f H' v/\B i v.heap/\(∀b∈fp,H' b=none)/\W i m f H':=λ{j t v}w n7=>by
    obtain⟨m',hm,w7⟩:=hN j t n7;refine⟨m',hm,i+1,j,t,w.du,T.keep _ _ _ G λb n o e=>(w.pin (b,o)<|Ar _<|Ar _<|D9 n e).1,λb n=>?_,w7⟩;obtain⟨o,e,d⟩:=T.obj _ _ G b n;exact(w.pin (b,o)<|Ar _<|Ar _<|D9 n e).2.1
   have a1:=(step x H6 y6).run _ s6 u (I6.pinned (l L)<|T.obj _ _ G) r6;rw[z]at a1;refine lJ a1 λ_ v⟨j,t,w,q7⟩=>?_;have a2:=q7.run _ v w;rw[z]at a2;refine lJ a2 λok s8⟨H8,I8,y⟩=>?_;cases ok with
   |false=>
    rw[C Av]at y ⊢;exact again I8 y
   |true=>
    rw[BL rfl]at y ⊢;have a3:=y.run _ s8 I8;rw[z]at a3;exact lJ a3 λ_ s9⟨Ö,H9,I9,q9⟩=>again I9 q9
 exact dS a p<|T.self _ 0 _ _ _ st p
def yu{u0:Addr->HO}{inner:Value->Env->Sem Unit}{N:Value->Addr->Result->Shared->Prop}{it:Addr}{fp:List Addr}{Y:Nat->Heap->Prop}{J:It}{Q:VK}
  (j4:∀(Q:Î)(E:Î)(s:Shared),Q (.ref s.heap.objs.size) {s with heap:=s.heap.push o0}->ar X newAcc Q E s) (nh:∀(H:Hp)(h:Heap),sysModules<h.objs.size->aI X.prog X.w H (h.push o0) h.objs.size (u0 h.objs.size))
  (hc:X.calm=true) (ck:b8 X.env.scope scope X.N N') (hl:N'.length=X.N.length+n) (hC:∀acc env,gf e 0 O iter I acc env<|inner acc env)
  (I2:be X i L w d) (T:pi X.prog X.w X.K O J fp it Y) (cf:Y 0 d.heap) (f2:∀b∈fp,cJ X i w b)
  (q:∀D,w D=none->∀cl a s₀ H₀ ex,kK (iX X N' scope cl a s₀ H₀ ex) O I (inner (.ref D)<|compEnvC scope cl a X.env) J (λ_ H'=>Q (.ref D) H') (L++replicate n none)<|upd w D<|u0 D)
  (LJ:∀D a H' s' m,be X i L H' s'->s'.heap.Ns a m->H' a=none->a≠X.env.locals->X.s₀.heap.objs.size<=a->(∀x c,X.env.cells.lookup x=some c->c≠a)->(∀p∈X.pn++i,p.1≠a)->Q (.ref D) H'->N (.ref D) a (.ok .next) s'):
  ar X newAcc (λacc Â=>ar X (newFunctionEnv scope X.env.globals (cY scope.names X.env.cells []) [] X.env.qual none .none<|some X.env) (λnI Ã=>
   codeAny (model X.prog X.w) X.A (.compStart e 0 (.ref it) acc {nI with scope:=relabel scope X.env}) (N acc nI.locals) Ã) E Â) E d:=by
 refine j4 _ _ _<|k1p λt É Ê Ë=>?_;have q0:=q d.heap.objs.size (I2.aP.fresh<|Aq _);have fl:∀b∈fp,b<d.heap.objs.size:=λb f=>by
  obtain⟨o,e,_⟩:=T.obj 0 _ cf b f;exact Ax e
 have y:be X i L (upd w d.heap.objs.size<|u0 d.heap.objs.size) {d with heap:=d.heap.push o0}:=
  I2.laid (t':=d.toks) (λb o e=>Am _ e) (Aq _) (nh _ _ I2.big)
 generalize E9:({d with heap:=d.heap.push o0}:Shared)=j at y É Ê Ë ⊢;have Ö:j.heap.objs.size=d.heap.objs.size+1:=E9▸(Dr ..)
 have LL:∀b o,d.heap.get? b=some o->j.heap.get? b=some o:=λb o e=>by rw[<-E9];exact Am _ e
 have old:∀b o,j.heap.get? b=some o->t.get? b=some o:=Ê;have u:∀b∈fp,cJ X i (upd w d.heap.objs.size<|u0 d.heap.objs.size) b/\b<j.heap.objs.size:=λb f=>by
  refine⟨⟨?_,(f2 b f).2⟩,by rw[Ö];exact Bz<|fl b f⟩;rw[ax<|Bw<|fl b f];exact(f2 b f).1
 have I4:=λ(t':Nat)=>q44 (N':=N') (scope:=scope) (n:=n) (fp:=fp) (h₁:=t) (t':=t') y ck hl É old Ë u;generalize r:iX X N' scope (cellsFrom (j.heap.objs.size+1) scope.names<|cY scope.names X.env.cells []) j.heap.objs.size j (upd w d.heap.objs.size<|u0 d.heap.objs.size) fp=l at I4;have eP:l.prog=X.prog:=by rw[<-r];rfl
 have ew:l.w=X.w:=by rw[<-r];rfl
 have eK:l.K=X.K:=by rw[<-r];rfl
 have eA:l.A=X.A:=by rw[<-r];rfl
 have G:l.env=compEnvC scope (cellsFrom (j.heap.objs.size+1) scope.names<|cY scope.names X.env.cells []) j.heap.objs.size X.env:=by rw[<-r];rfl
 have ec:l.calm=true:=by rwa[<-r]
 have Ø:l.xe=λ_ _=>False:=by rw[<-r];rfl
 have M:∀{H':Hp},(∀b∈fp,H' b=none)->∀b∈fp,cJ l [] H' b:=λhn b f=>by
  refine⟨hn b f,?_,?_,?_,?_,?_⟩
  ·rw[G];exact Bw (u b f).2
  ·rw[<-r];intro hf
   obtain z|z:=Ak.mp (y.ie b hf)
   ·exact(u b f).1.2.1 z
   ·exact(u b f).1.2.2.1 z
  ·rw[<-r];exact .inl f
  ·rw[G];intro x c e
   obtain z|z:=UE e
   ·exact λk=>absurd (u b f).2<|Nat.not_lt.mpr<|by rw[<-k];exact Fn z.2
   ·exact(u b f).1.2.2.2.2.1 x c<|K9 _ _ _ (λ_ _ z=>by simp at z) x c<|DK z
  ·rw[<-r];intro p hp;exact absurd hp<|by simp[iX]
 have fin:∀{B:St}{H':Hp}{s':Shared},be l [] B H' s'->Q (.ref d.heap.objs.size) H'->N (.ref d.heap.objs.size) j.heap.objs.size (.ok .next) s':=λ{B H' s'}A q'=>by
  obtain⟨m',D5,_⟩:=id A.loc;rw[G]at D5;have Ù:s'.os=j.os:=by have:=A.os;rwa[<-r]at this
  have Ú:Un (gP X.stack) fp (upd w d.heap.objs.size<|u0 d.heap.objs.size) H' j.heap s'.heap:=by have:=A.base;rwa[<-r]at this
  have aP:cG X.prog X.w H' s'.heap:=by have:=A.aP;rwa[eP,ew]at this
  have IX:be X i L H' s':=y.call' (ch:=fp) Ù Ú aP A.bare λb f=>⟨(u b f).1.2.2.2.1,(u b f).1.2.1,(u b f).1.2.2.2.2.1,(u b f).1.2.2.2.2.2⟩;have mG:=A.free;rw[G]at mG;refine LJ _ _ H' s' m' IX D5 mG (De y.lt) y.sz (λx c e z=>?_) (λp hp z=>?_) q'
  ·obtain⟨v,o,ho,_⟩:=y.cell x c e;exact absurd (Ax ho)<|by rw[z];exact Dl _
  ·exact absurd (Ax (y.pin p hp).1)<|by rw[z];exact Dl _
 have Û:∀b∈fp,cJ l [] (upd w d.heap.objs.size<|u0 d.heap.objs.size) b:=M λb f=>(u b f).1.1;have q1:kK l O I (inner (.ref d.heap.objs.size) l.env) J (λ_ H'=>Q (.ref d.heap.objs.size) H') (L++replicate n none) (upd w d.heap.objs.size<|u0 d.heap.objs.size):=by
  rw[G,<-r];exact q0 _ _ _ _ _
 have T':pi l.prog l.w l.K O J fp it Y:=by rwa[eP,ew,eK]
 have fin2:=EZ (s:={j with heap:=t,toks:=j.toks}) Ø ec (hC (.ref d.heap.objs.size) l.env) (I4 j.toks) T' (T.keep 0 _ _ cf λb _ o e=>old b o<|LL b o e) Û q1 (R:=N (.ref d.heap.objs.size) j.heap.objs.size) λB H' s' A a'=>fin A a';rwa[eP,ew,eA,G]at fin2
def wb(a:Expr)(acc:Value)(env:Env):Sem Unit:=do let _ <- call (.builtin "list.append") [acc,<-eval a env]
def WH:gf (.ListComp a [⟨c,iter,b,0⟩] scope pos) 0 c iter b acc env (wb a acc env):=⟨rfl,λ_=>rfl,λ_ _ _=>rfl,λ_ _=>rfl,λ_ _ _=>rfl,λ_ _=>rfl,λ_=>rfl⟩
def UO(h:Ev X d a H λv c=>∃ys,c D=some (.lst ys)/\ys.length<sizeLine/\Q a (upd c D<|.lst<|ys++[v])):pD X (wb d (.ref D) X.env) a H Q:=by
 refine⟨λb s I=>?_⟩;unfold wb;refine BJ<|aO (h.run b s I) λv e⟨x,c,f,i,ys,j,k,q⟩=>?_;refine BJ<|aO (Ub _ e a c (.ref D) [x] (.ref D) [v] (λ_ l=>Q a l) f rfl (.cons i .nil) ⟨_,ys,x,rfl,rfl,j,k,q⟩) λ_ p⟨_,m,n,_,o⟩=>BP ⟨a,m,n,o⟩
def Eg.mono(h:Eg X c v d H R)(f:∀a H',R a H'->e a H'):Eg X c v d H e:=⟨λb s u I r=>aO (h.run b s u I r) λ_ _⟨a,H',i,q⟩=>⟨a,H',i,f _ _ q⟩⟩
def Ei.mono(h:Ei X c d H T)(f:∀b H',T b H'->e b H'):Ei X c d H e:=⟨λa s I=>aO (h.run a s I) λ_ _⟨H',i,q⟩=>⟨H',i,f _ _ q⟩⟩
theorem hH(h:rO X N' scope k e f J D after l H)(c:List<|Str×Addr)(a:Addr)(s₀:Shared)(H₀:Hp)(ex:List Addr):kK (iX X N' scope c a s₀ H₀ ex) k e (wb f (.ref D)<|compEnvC scope c a X.env) J (λ_ H'=>after H') l H:=by
 obtain⟨W,n,t⟩:=h;refine⟨W,n,λi m j H' w=>(t i m j H' w).imp id λ⟨g,N,o,st⟩=>⟨g,N,o,λx p y=>(st x p y c a s₀ H₀ ex).mono λq s r=>(r c a s₀ H₀ ex).mono λb u d=>?_⟩⟩;cases b with
 |true=>
  rw[BL rfl]at d ⊢;exact UO<|d c a s₀ H₀ ex
 |false=>
  rw[C Av]at d ⊢;exact d
def UP{scope:Scope}{j:Value->Addr->Result->Shared->Prop}{it:Addr}{fp:List Addr}{k:Nat->Heap->Prop}{Q:VK}
  (t:X.calm=true) (u:b8 X.env.scope scope X.N N') (v:N'.length=X.N.length+n) (w:be X d l e o) (T:pi X.prog X.w X.K r J fp it k) (cf:k 0 o.heap) (f2:∀b∈fp,cJ X d e b)
  (q:∀D,e D=none->rO X N' scope r f i J D (λH'=>Q (.ref D) H') (l++replicate n none) (upd e D<|.lst []))
  (y:∀D a H' s' m,be X d l H' s'->s'.heap.Ns a m->H' a=none->a≠X.env.locals->X.s₀.heap.objs.size<=a->(∀x c,X.env.cells.lookup x=some c->c≠a)->(∀p∈X.pn++d,p.1≠a)->Q (.ref D) H'->j (.ref D) a (.ok .next) s'):
  ar X (newList []) (λacc z=>ar X (newFunctionEnv scope X.env.globals (cY scope.names X.env.cells []) [] X.env.qual none .none<|some X.env) (λs A=>
   codeAny (model X.prog X.w) X.A (.compStart (.ListComp i [⟨r,iter,f,0⟩] scope pos) 0 (.ref it) acc {s with scope:=relabel scope X.env}) (j acc s.locals) A) E z) E o:=
 yu (newAcc:=newList []) (o0:={cls:= .type "list",dict:=none,data:= .seq ([]:Ó).toArray}) (u0:=λ_=> .lst []) (λ_ _ _ h=>DN h<|by show(0:Nat)<=sizeLine;exact By _) (λ_ _ _=>⟨By _,[],0,.nil,Az _ rfl⟩) t u v (λ_ _=>WH) w T cf f2 (λD B=>hH<|q D B) y
def j5(h:T true H):Ei X [] b H T:=⟨λa s I=>Y6 a s b H T I h⟩
def qu(h:Et X c b H T):Ei X [c] b H T:=⟨λa s I=>NG qo a s b H T I h⟩
def kL(k:Scope)(N N':Ñ)(n:Nat)(r:PI X l iter t)
  (h:t f H λJ p=>∀D,p D=none->rO X N' scope l i j J D (λH'=>Q (.ref D) H') (f++replicate n none) (upd p D<|.lst []))
  (u:X.calm=true:=by rfl) (w:X.env.scope=k:=by rfl) (y:X.N=N:=by rfl) (z:rP k scope N N'=true:=by decide +kernel) (A:N'.length=N.length+n:=by rfl)
  (B:∀x,foldedSetIterable iter X.env x=pure x:=by intro _;rfl):Ev X (.ListComp j [⟨l,iter,i,0⟩] scope pos) f H Q:=by
 refine⟨λc s I=>?_⟩;subst w y;have d:=b8.of z;rw[eval_ListComp];refine FP rfl B (wu λx E G=>I.ok.has x.1<|d.free x E G) d.kind d.names (aO (r c s f H _ I h) λv s1 L=>aO L λm8 s2 M=>?_);obtain⟨it,fp,tn,J,H2,e,O,T,cf,f2,q⟩:=M;subst e;apply UP u d A O T cf f2 q;intro D a H' s' m Y hn hC c1 c2 c3 c4 qq;exact⟨m,hn,λh' jo=>⟨.ref D,H',Y.turned (λb o hb e=>jo.extBut b o hb e) hC (CG<|CG c1) (.inr c2) c3 c4,rfl,qq⟩⟩
def LN(i:Nat)(Y:Scope)(N N':Ñ)(n:Nat)(qv:X.N.Nodup)(hi:PI X u iter wi)
  (h:wi d H λJ f=>∀A,f A=none->rO X N' scope u j k J A (λH'=>fg X l D (d.set i<|some<|.ref A) H') (d++replicate n none) (upd f A<|.lst []))
  (z:X.N[i]?=some y:=by rfl) (hy:xp X.env.scope y:=by first|exact Or.inl rfl|exact Or.inr rfl)
  (B:swapsWith (.ListComp k [⟨u,iter,j,0⟩] scope pos) (some<|.Name y py) yv.line X.env=pure true:=by rfl)
  (hc:X.calm=true:=by rfl) (nJ:X.env.scope=Y:=by rfl) (hN:X.N=N:=by rfl) (hk:rP Y scope N N'=true:=by decide +kernel) (hl:N'.length=N.length+n:=by rfl)
  (hs:∀x,foldedSetIterable iter X.env x=pure x:=by intro _;rfl) (E:X.fn y=true\/X.env.scope.names.lookup y=some .local:=by first|exact .inl rfl|exact .inr rfl|assumption):
  fg X (.Assign [.Name y py] (.ListComp k [⟨u,iter,j,0⟩] scope pos) yv :: l) D d H:=by
 refine nw (t:=λG d H=>wi d H λJ f=>∀ A,f A=none->rO X N' scope u j k J A (λH'=>G.nx (d.set i<|some<|.ref A) H') (d++replicate n none) (upd f A<|.lst [])) ?_ h;intro p s d H D I h;subst nJ hN;have w:=b8.of hk;rw[exec_Assign_Name_used _ _ _ _ B];refine BJ<|DX<|BJ ?_;refine BJ<|CZ (FP rfl hs (wu λx hx E=>I.ok.has x.1<|w.free x hx E) w.kind w.names
  (aO (hi p s d H _ I h) λv s1 h1=>aO h1 λm8 s2 h2=>?_)) (λ_ s' hq=>BP<|BP hq) λ_ _ e=>e
 obtain⟨it,fp,tn,J,H2,e,I2,T,cf,f2,q⟩:=h2;subst e;refine UP (Q:=λx f=>D.nx (d.set i<|some x) f) hc w hl I2 T cf f2 q ?_;intro G c H' s' m IX hn hC c1 c2 c3 c4 qq;refine wpAny_assign_Name<|S6 IX qv z hy (v:= .ref G) rfl (λt6 L M=>?_) E;obtain⟨a,M,r⟩:=M;have O:c≠a:=by
  obtain r|r:=r
  ·rwa[r]
  ·exact CG<|c3 _ _ r
 refine⟨m,hn.sameBut M O,λh' jo=>⟨_,H',L.turned (t':=t6.toks) (λb o hb e=>jo.extBut b o hb e) hC c1 (.inr c2) c3 c4,qq⟩⟩
structure aT(P:Program)(w:World)(K:aa)(mg:Ò)(base:Heap)(k:Nat)(x:Str)(ps:Ñ)(sp:Sp):Prop where
 ex:∃f fd,aG P w K mg base bF k f fd ps sp/\ma K fd ps []/\PySem.W.keepIn K (.ref f)=true/\mg x=some (.ref f)
def aT.mono{P:Program}{w:World}{K:aa}{mg:Ò}{base:Heap}{j k:Nat}{x:Str}{ps:Ñ}{sp:Sp}(h:aT P w K mg base j x ps sp)(le:j<=k):aT P w K mg base k x ps sp:=
 let ⟨f,a,F,r⟩:=h.ex;⟨f,a,F.mono le,r⟩
def bC(G:aT X.prog X.w X.K X.mg X.base k x ps sp)(c:bJ k X.A)
  (h:Ea X (e :: a) d H λvs f=>sp vs f Q E0) (i:Gl X x:=by rfl) (j:(x == ("__debug__" : Str))=false:=by decide) (l:fM (e :: a)=true:=by rfl):Ev X (.Call (.Name x p) (e :: a) [] pos) d H Q:=
 let ⟨_,_,F,b,n,m⟩:=G.ex;Uz F c m n b nq h i j l
def _root_.L2.bJ.j6(a:bJ k A):A.units+100<cLine:=by have:=a.un;lia
def _root_.L2.bJ.u1(a:bJ k A):A.units+1<cLine:=by have:=a.un;lia
def Df(K:aa)(x:Str)(st:Stmt):Prop:=∃f a,PySem.W.nsIn K mainGlobals x=some (some<|.ref f)/\bA K x x st f a
def yw{K:aa}{x:Str}{st:Stmt}{f:Addr}{e kV b pm d ct:Value}{h i:Option Addr}{j:Array (Option Value)}(a:PySem.W.nsIn K mainGlobals x=some (some<|.ref f))
  (l:K.lookup f=some ⟨e,h,.func<|PySem.W.fnOf x x (pB st) (iW st) (aW st) .none kV b pm i d ct,j⟩) (c:PySem.W.codeIn K d x=true) (k:PySem.W.keepIn K (.ref f)=true):Df K x st:=⟨f,_,a,x3b l c k⟩
structure uo where
 f:Addr
 bM:Value
 A:Around
 outer:List Env
 s:Shared
 H:Hp
 E:XK
def LV(N:Ñ)(a:Str)(scope:Scope)(P:Program)(w:World)(K:aa)(mg:Ò)(base:Heap)(b:uo):Cx:=(dY bF P w K mg base N a scope b.f b.bM b.A b.outer b.s b.H b.E).wc
def En(Q:VK):wp:={nx:=λ_ a=>Q .non a,rt:=Q}
def bA.gb{P:Program}{w:World}{K:aa}{mg:Ò}{base:Heap}{x a:Str}{st:Stmt}{f:Addr}{d:FuncData}{N ps:Ñ}{k:Nat}{sp:Sp}(F:bA K x a st f d)(S:ak N ps<|aW st)(len:∀vs H Q E,sp vs H Q E->vs.length=ps.length)
  (e:∀(b:uo)(H:Hp)(vs:List V)(Q:VK)(E:XK),bJ k (b.A.deeper<|envOfC a (aW st) b.s.heap.objs.size b.f b.bM)->sp vs H Q E->fg (LV N a (aW st) P w K mg base b) (iW st) (En Q) (il N vs) H):aG P w K mg base bF (k+1) f d ps sp:=
 F.go S len λh A c s H vs Q E i j=>e ⟨f,h,A,c,s,H,E⟩ H vs Q E i j
def Df.has{P:Program}{w:World}{K:aa}{mg:Ò}{h base:Heap}{k:Nat}{x:Str}{st:Stmt}{ps:Ñ}{sp:Sp}(d:Df K x st)(X:K.In h)(G:h.Ns mainGlobals mg)
  (e:∀(kV c pm:Value)(i:Option Addr)(j ct:Value)(us:Ó),us.length=ps.length->bindArgs (PySem.W.fnOf x x (pB st) (iW st) (aW st) .none kV c pm i j ct) ⟨us,[]⟩=pure (ps.zip us))
  (ok:∀{f:Addr}{b:FuncData},bA K x x st f b->aG P w K mg base bF k f b ps sp):aT P w K mg base k x ps sp:=
 let ⟨f,b,a,F⟩:=d;⟨f,b,ok F,F.binds e,F.kp,LQ X G a⟩
def Df.law{P:Program}{w:World}{K:aa}{mg:Ò}{h:Heap}{k:Nat}{x y:Str}{st:Stmt}{sp:Sp}{j:Addr}(d:Df K x st)(X:K.In h)(G:h.Ns mainGlobals mg)(l:mg x=some (.ref j))
  (m:∀(kV b pm:Value)(e:Option Addr)(i ct:Value)(s:Shared)(v:Value),BindsTo s (PySem.W.fnOf x x (pB st) (iW st) (aW st) .none kV b pm e i ct) ⟨[v],[]⟩ [(y,v)])
  (ok:∀(base:Heap){f:Addr}{c:FuncData},bA K x x st f c->aG P w K mg base bF k f c [y] sp):
  ∃c:FuncData,(∀(s:Shared)(v:Value),BindsTo s c ⟨[v],[]⟩ [(y,v)])/\∀base:Heap,K.In base->base.Ns mainGlobals mg->aG P w K mg base bF k j c [y] sp:=by
 obtain⟨f,c,a,F⟩:=d;cases (l.symm.trans<|LQ X G a);obtain⟨n,o,kV,b,pm,e,i,ct,p,rfl,lk,q⟩:=id F.ex;exact⟨_,m kV b pm e i ct,λbase _ _=>ok base F⟩
theorem yx{p:Ó->Prop}{k:Nat}(f:∀(a:Value)(r:Ó),r.length=k->p (a :: r)):∀us:Ó,us.length=k+1->p us
 |a :: r,h=>f a r<|Nat.succ.inj h
theorem yy{p:Ó->Prop}(f:p []):∀us:Ó,us.length=0->p us
 |[],_=>f
def cg(nd:N.Nodup:=by decide +kernel)(b:∀x∈P,a.names.lookup x=some .local\/a.names.lookup x=some .cell:=by decide +kernel)(c:∀y∈a.names,y.2 ≠ .free:=by decide +kernel)
  (kind:a.kind=.function:=by rfl) (co:a.isCoroutine=false:=by rfl) (gen:a.isGenerator=false:=by rfl) (pre:N.take P.length=P:=by rfl):ak N P a:=⟨kind,co,gen,nd,pre,b,c⟩
def bA.gc{P:Program}{w:World}{K:aa}{mg:Ò}{base:Heap}{x a:Str}{st:Stmt}{f:Addr}{c:FuncData}{N ps:Ñ}{k:Nat}{sp:Sp}(F:bA K x a st f c)(S:ak N ps<|aW st)
  (d:∀(b:uo)(H:Hp)(vs:List V)(Q:VK)(E:XK),bJ k (b.A.deeper<|envOfC a (aW st) b.s.heap.objs.size b.f b.bM)->sp vs H Q E->fg (LV N a (aW st) P w K mg base b) (iW st) (En Q) (il N vs) H)
  (len:∀vs H Q E,sp vs H Q E->vs.length=ps.length:=by intro vs H Q E h;first|(cases h;subst_vars;rfl)|repeat (first|(obtain⟨rfl,_⟩:=h;rfl)|obtain⟨_,h⟩:=h)):aG P w K mg base bF (k+1) f c ps sp:=F.gb S len d
def Df.hs{P:Program}{w:World}{K:aa}{mg:Ò}{h base:Heap}{k:Nat}{x:Str}{st:Stmt}{ps:Ñ}{sp:Sp}(d:Df K x st)(X:K.In h)(G:h.Ns mainGlobals mg)
  (ok:∀{f:Addr}{b:FuncData},bA K x x st f b->aG P w K mg base bF k f b ps sp)
  (c:∀(kV a pm:Value)(e:Option Addr)(i ct:Value)(us:Ó),us.length=ps.length->bindArgs (PySem.W.fnOf x x (pB st) (iW st) (aW st) .none kV a pm e i ct) ⟨us,[]⟩=pure (ps.zip us):=by intro _ _ _ _ _ _;(repeat (refine L2.yx λ_=>?_));exact L2.yy rfl):aT P w K mg base k x ps sp:=d.has X G c ok
end L2
namespace L2
inductive A3(a b c:Prop):Prop
 |mk (_:a)(_:b)(_:c)
inductive A4(a b c d:Prop):Prop
 |mk (_:a)(_:b)(_:c)(_:d)
inductive A5(a b c d e:Prop):Prop
 |mk (_:a)(_:b)(_:c)(_:d)(_:e)
inductive A6(a b c d e f:Prop):Prop
 |mk (_:a)(_:b)(_:c)(_:d)(_:e)(_:f)
inductive A7(a b c d e f g:Prop):Prop
 |mk (_:a)(_:b)(_:c)(_:d)(_:e)(_:f)(_:g)
inductive A8(a b c d e f g h:Prop):Prop
 |mk (_:a)(_:b)(_:c)(_:d)(_:e)(_:f)(_:g)(_:h)
inductive A9(a b c d e f g h i:Prop):Prop
 |mk (_:a)(_:b)(_:c)(_:d)(_:e)(_:f)(_:g)(_:h)(_:i)
inductive pq(a b c d e f g h i j:Prop):Prop
 |mk (_:a)(_:b)(_:c)(_:d)(_:e)(_:f)(_:g)(_:h)(_:i)(_:j)
inductive UQ(a b c d e f g h i j k l:Prop):Prop
 |mk (_:a)(_:b)(_:c)(_:d)(_:e)(_:f)(_:g)(_:h)(_:i)(_:j)(_:k)(_:l)
inductive mF(a b c d e f g h i j k l m:Prop):Prop
 |mk (_:a)(_:b)(_:c)(_:d)(_:e)(_:f)(_:g)(_:h)(_:i)(_:j)(_:k)(_:l)(_:m)
inductive E1(p:α1->Prop):Prop
 |mk (a:_)(_:p a)
inductive E2(p:α1->α2->Prop):Prop
 |mk (a b:_)(_:p a b)
inductive E3(p:α1->α2->α3->Prop):Prop
 |mk (a b c:_)(_:p a b c)
inductive E4(p:α1->α2->α3->α4->Prop):Prop
 |mk (a b c d:_)(_:p a b c d)
inductive E5(p:α1->α2->α3->α4->α5->Prop):Prop
 |mk (a b c d e:_)(_:p a b c d e)
inductive E6(p:α1->α2->α3->α4->α5->α6->Prop):Prop
 |mk (a b c d e f:_)(_:p a b c d e f)
inductive E7(p:α1->α2->α3->α4->α5->α6->α7->Prop):Prop
 |mk (a b c d e f g:_)(_:p a b c d e f g)
inductive E8(p:α1->α2->α3->α4->α5->α6->α7->α8->Prop):Prop
 |mk (a b c d e f g h:_)(_:p a b c d e f g h)
end L2
namespace bG
open PySem
def wz(m i:Nat):Nat:=(i*5+1)%m
def jq(m:Nat):Nat->Nat->List Nat
 |0,_=>[]
 |n+1,i=>i :: jq m n (wz m i)
def qw(m:Nat):Nat->Nat->Nat
 |0,i=>i
 |n+1,i=>qw m n<|wz m i
theorem E'(m:Nat):∀a b i,qw m (a+b) i=qw m b (qw m a i)
 |0,b,i=>by rw[Es];rfl
 |a+1,b,i=>by
  rw[show a+1+b=(a+b)+1 by lia];exact E' m a b<|wz m i
theorem LX(m:Nat):∀n t i,t<n->qw m t i∈jq m n i
 |0,_,_,h=>by lia
 |n+1,0,i,_=>Ac
 |n+1,t+1,i,h=>Af _<|LX m n t (wz m i)<|by lia
theorem LY(m:Nat):∀n i j,j∈jq m n i->∃t,t<n/\qw m t i=j
 |0,_,_,h=>by cases h
 |n+1,i,j,h=>by
  obtain rfl|h:=Ak.mp h
  ·exact⟨0,Gu _,rfl⟩
  ·obtain⟨t,a,e⟩:=LY m n (wz m i) j h;exact⟨t+1,Nat.succ_lt_succ a,e⟩
def mf(m:Nat):Bool:=qw m m 0 == 0 && (range m).all λj=>(jq m m 0).contains j
def Ya:mf 8=true:=by decide +kernel
def S3:mf 16=true:=by decide +kernel
def mu:mf 32=true:=by decide +kernel
def q3i:mf 64=true:=by decide +kernel
def qe:mf 128=true:=by decide +kernel
def d0:mf 512=true:=by decide +kernel
def vc(m:Nat):Prop:=m=8\/m=16\/m=32\/m=64\/m=128\/m=512
def vc.covers(h:vc m):bG.mf m=true:=by
 obtain rfl|rfl|rfl|rfl|rfl|rfl:=h
 ·exact Ya
 ·exact S3
 ·exact mu
 ·exact q3i
 ·exact qe
 ·exact d0
def vc.pos(h:vc m):8<=m/\m<=512:=by obtain rfl|rfl|rfl|rfl|rfl|rfl:=h<;>decide
def vc.mem(h:vc m)(k:i<m)(l:j<m):j∈jq m m i:=by
 have q:=h.covers;unfold bG.mf at q;rw[Bx,Fh,JQ]at q;obtain⟨z,q⟩:=q;obtain⟨a,n,d⟩:=LY m m 0 i<|Bu.mp<|q i<|Bg.mpr k;obtain⟨b,o,f⟩:=LY m m 0 j<|Bu.mp<|q j<|Bg.mpr l
 obtain c|c:=Dv b a
 ·have e:qw m (b+m-a) i=j:=by
   rw[<-d,<-E',show a+(b+m-a)=m+b by lia,E',z,f]
  rw[<-e];exact LX m m _ i<|by lia
 ·have e:qw m (b-a) i=j:=by
   rw[<-d,<-E',show a+(b-a)=b by lia,f]
  rw[<-e];exact LX m m _ i<|by lia
def wB(mask:Nat):Nat->Nat->Nat->List Nat
 |0,_,_=>[]
 |n+1,i,p=>i :: wB mask n (SetTable.leap mask i p).1 (SetTable.leap mask i p).2
theorem UR(mask:Nat):∀n i,wB mask n i 0=jq (mask+1) n i
 |0,_=>rfl
 |n+1,i=>by
  show i :: wB mask n ((i*5+1+0/32)%(mask+1)) (0/32)=i :: jq (mask+1) n (wz (mask+1) i);rw[show(0/32:Nat)=0 by decide,VR,UR mask n];rfl
def mQ:(SetTable.leap mask i p).1<mask+1:=Hm _<|Gu _
theorem UT:∀t n i p,i<mask+1->p<32 ^ t->∃a,a<mask+1/\∀j∈jq (mask+1) n a,j∈wB mask (t+n) i p
 |0,n,i,p,b,c=>by
  have e:p=0:=by simpa using c
  subst e;refine⟨i,b,λj d=>?_⟩;rwa[Es,UR]
 |t+1,n,i,p,b,c=>by
  have f:p/32<32 ^ t:=by grind
  obtain⟨a,h,q⟩:=UT t n (SetTable.leap mask i p).1 (p/32) mQ f;refine⟨a,h,λj d=>?_⟩;rw[show t+1+n=(t+n)+1 by lia];exact Af _<|q j d
def k97(a:vc<|mask+1)(b:i<mask+1)(c:p<2 ^ 64)(d:j<mask+1):j∈wB mask (mask+15) i p:=by
 obtain⟨f,e,q⟩:=UT 14 (mask+1) i p b (Br c<|by decide);have:=q j<|a.mem e d;rwa[show 14+(mask+1)=mask+15 by lia]at this
abbrev jr:=Array<|Option Nat
def wT(owner:jr)(j:Nat):Bool:=(owner.getD j<|some 0).isNone
def q4b(mask i:Nat):i<=SetTable.runEnd mask i:=by unfold SetTable.runEnd;split<;>lia
theorem UU:∀{a i p},SetTable.layClean.free mask owner a i p=none->∀j∈wB mask a i p,wT owner j=false
 |0,_,_,_,j,b=>by cases b
 |a+1,i,p,h,j,b=>by
  unfold SetTable.layClean.free at h
  split at h
  ·cases h
  ·rename_i c
   obtain rfl|b:=Ak.mp b
   ·have:=Gp.mp c 0 (Bg.mpr<|by have:=q4b mask j;lia);rw[VR]at this;exact Fo.mpr this
   ·exact UU h j b
set_option tactic.hygienic true in
theorem UX:∀{a i p j},SetTable.layClean.free mask owner a i p=some j->wT owner j=true
 |0,_,_,_,h=>by cases h
 |a+1,i,p,j,h=>by
  unfold SetTable.layClean.free at h
  split at h
  ·rename_i k b;cases h;have:=Hi b;exact this
  ·exact UX h
theorem uu:wT owner j=true↔owner[j]?=some none:=by
 unfold wT;rw[Ej];cases h:owner[j]? with
 |none=>simp
 |some v=>cases v<;>simp
structure gt(m:Nat)(owner:jr)(k:Nat):Prop where
 size:owner.size=m
 lt:∀(j v:Nat),owner[j]?=some (some v)->v<k
 has:∀v:Nat,v<k->∃j:Nat,owner[j]?=some (some v)
 inj:∀(i j v:Nat),owner[i]?=some (some v)->owner[j]?=some (some v)->i=j
def gt.start(m:Nat):gt m (Array.replicate m none) 0 where
 size:=by simp
 lt:=λj v h=>by
  rw[RL]at h
  split at h<;>cases h
 has:=λv h=>by lia
 inj:=λi j v h=>by
  rw[RL]at h
  split at h<;>cases h
def gt.put{m k j:Nat}{owner:jr}(L:gt m owner k)(n:owner[j]?=some none):gt m (owner.setIfInBounds j<|some k) (k+1):=by
 have p:j<owner.size:=by grind
 have c:∀i:Nat,(owner.setIfInBounds j<|some k)[i]?=if j=i then some (some k)else owner[i]?:=by grind
 refine⟨by rw[Array.size_setIfInBounds];exact L.size,λi v h=>?_,λv h=>?_,λa b v f d=>?_⟩
 ·rw[c]at h
  split at h
  ·cases h;exact Gh _
  ·exact Bz<|L.lt i v h
 ·obtain h|rfl:=Gm.mp h
  ·obtain⟨i,l⟩:=L.has v h;refine⟨i,?_⟩;rwa[c,C λe=>by subst e;rw[n]at l;cases l]
  ·exact⟨j,by rw[c,BL rfl]⟩
 ·rw[c]at f d
  split at f
  ·rename_i e;cases f
   split at d
   ·rename_i o;exact e.symm.trans o
   ·have:=L.lt b k d;lia
  ·split at d
   ·cases d;have:=L.lt a k f;lia
   ·exact L.inj a b v f d
def qr(m:Nat)(owner:jr):List (Nat×Nat):=(range m).filterMap λj=>(owner.getD j none).map (j,·)
theorem getD_some{owner:jr}{j v:Nat}:owner.getD j none=some v↔owner[j]?=some (some v):=by
 rw[Ej];cases h:owner[j]? with
 |none=>simp
 |some x=>simp
def js{m:Nat}{owner:jr}{p:Nat×Nat}:p∈qr m owner↔p.1<m/\owner[p.1]?=some (some p.2):=by
 rw[qr,Go]
 constructor
 ·rintro ⟨j,b,e⟩;cases a:owner.getD j none with
  |none=>rw[a]at e;cases e
  |some v=>
   rw[a]at e;cases e;exact⟨Bg.mp b,getD_some.mp a⟩
 ·rintro ⟨c,d⟩;exact⟨p.1,Bg.mpr c,by rw[getD_some.mpr d];rfl⟩
def gt.nodup{m k:Nat}{owner:jr}(L:gt m owner k):((qr m owner).map (·.2)).Nodup:=by
 have q:∀l:List Nat,l.Nodup->((l.filterMap λj=>(owner.getD j none).map (j,·)).map (·.2)).Nodup:=by
  intro l
  induction l with
  |nil=>intro _;exact Co
  |cons a r f=>
   intro b;rw[Bb]at b;rw[Fb];cases i:owner.getD a none with
   |none=>exact f b.2
   |some v=>
    show(v :: (r.filterMap λj=>(owner.getD j none).map (j,·)).map (·.2)).Nodup;rw[Bb];refine⟨λh=>?_,f b.2⟩;obtain⟨p,n,e⟩:=Ag.mp h;obtain⟨j,o,c⟩:=Go.mp n;cases d:owner.getD j none with
    |none=>rw[d]at c;cases c
    |some u=>
     rw[d]at c;cases c;have s:u=v:=e;subst s;have:=L.inj a j u (getD_some.mp i)<|getD_some.mp d;subst this;exact b.1 o
 exact q _ Fi
def gt.perm(L:gt m owner k):((qr m owner).map (·.2)).Perm (range k):=by
 rw[Dk L.nodup Fi];intro v;rw[Bg,Ag]
 constructor
 ·rintro ⟨p,b,rfl⟩;exact L.lt _ _ (js.mp b).2
 ·intro h;obtain⟨j,a⟩:=L.has v h;have c:j<m:=by
   rw[<-L.size]
   obtain h|h:=Dv j owner.size
   ·exact h
   ·rw[Fd h]at a;cases a
  exact⟨(j,v),js.mpr ⟨c,a⟩,rfl⟩
def gt.length(L:gt m owner k):(qr m owner).length=k:=by
 have:=L.perm.length_eq;rwa[Aa,Cw]at this
def gt.room(L:gt m owner k)(h:k<m):∃j,j<m/\wT owner j=true:=by
 refine CJ λi=>?_;have all:∀j,j<m->∃v,owner.getD j none=some v:=by
  intro j b;have d:j<owner.size:=by rwa[L.size]
  cases c:owner[j] with
  |none=>exact absurd ⟨j,b,uu.mpr<|by rw[Dx d,c]⟩ i
  |some v=>exact⟨v,getD_some.mpr<|by rw[Dx d,c]⟩
 have len:∀l:List Nat,(∀j∈l,j<m)->(l.filterMap λj=>(owner.getD j none).map (j,·)).length=l.length:=by
  intro l
  induction l with
  |nil=>intro _;rfl
  |cons a r n=>
   intro e;obtain⟨v,c⟩:=all a<|e a Ac;rw[Fb,c];show(_ :: _).length=_;rw[Au,Au,n λj b=>e j<|Af _ b]
 have f:=L.length;unfold qr at f;rw[len (range m) λj b=>Bg.mp b,Cw]at f;lia
def TL(h:Int):SetTable.bits h<2 ^ 64:=by
 unfold SetTable.bits;lia
theorem gt.free(L:gt (mask+1) owner k)(a:vc<|mask+1)(h:k<mask+1)(x:Int):
  ∃j,SetTable.layClean.free mask owner (SetTable.turns mask) (SetTable.bits x%(mask+1)) (SetTable.bits x)=some j/\owner[j]?=some none:=by
 cases e:SetTable.layClean.free mask owner (SetTable.turns mask) (SetTable.bits x%(mask+1)) (SetTable.bits x) with
 |some j=>exact⟨j,rfl,uu.mp<|UX e⟩
 |none=>
  obtain⟨j,b,q⟩:=L.room h;have:=UU e j<|k97 a (Hm _<|Gu _) (TL x) b;rw[q]at this;cases this
def FA(mask:Nat)(acc:Option<|jr×Nat)(h:Int):Option (jr×Nat):=do
 let (owner,k) <-acc
 let j <-SetTable.layClean.free mask owner (SetTable.turns mask) (SetTable.bits h%(mask+1))<|SetTable.bits h
 pure (owner.setIfInBounds j<|some k,k+1)
theorem UY(b:vc<|mask+1):∀(a:List Int)(owner:jr)(k:Nat),gt (mask+1) owner k->k+a.length<mask+1+1 ->
  ∃c,a.foldl (FA mask) (some (owner,k))=some (c,k+a.length)/\gt (mask+1) c (k+a.length)
 |[],owner,k,L,_=>⟨owner,rfl,L⟩
 |h :: r,owner,k,L,d=>by
  rw[Au]at d ⊢;obtain⟨j,e,f⟩:=L.free b (by lia) h;obtain⟨i,l,m⟩:=UY b r _ (k+1) (L.put f) (by lia);refine⟨i,?_,?_⟩
  ·rw[Dq,show FA mask (some (owner,k)) h=some (owner.setIfInBounds j<|some k,k+1) by unfold FA;simp[e],l]
   congr 2
   lia
  ·rw[show k+(r.length+1)=k+1+r.length by lia];exact m
def x3(b:vc<|mask+1)(a:Array Int)(c:a.size<mask+1+1):∃owner,SetTable.layClean mask a=some owner/\gt (mask+1) owner a.size:=by
 obtain⟨d,e,L⟩:=UY b a.toList _ 0 (gt.start<|mask+1) (by simpa using c);refine⟨d,?_,by simpa using L⟩;have f:SetTable.layClean mask a=(a.foldl (FA mask)<|some (Array.replicate (mask+1) none,0)).map (·.1):=rfl;rw[f,<-Array.foldl_toList,e];rfl
def UZ{led plain:Bool}(c:vc<|mask+1)(a:Array Int)(d:a.size<=mask):
  ∃t order,SetTable.laid mask finger moves led plain a=some (t,order)/\order.toList.Perm (range a.size)/\t.fits a.size=true/\t.led=led/\t.plain=plain/\t.mask=mask/\t.dummies=#[]/\t.place.size=a.size:=by
 obtain⟨o,e,L⟩:=x3 c a (by lia);have b:((qr (mask+1) o).map (·.1)).toArray.size=a.size:=by
  rw[Bc,Aa,L.length]
 refine⟨_,_,by unfold SetTable.laid;rw[e];rfl,?_,?_,rfl,rfl,rfl,rfl,b⟩
 ·show((qr (mask+1) o).map (·.2)).Perm _;exact L.perm
 ·unfold SetTable.fits SetTable.fill;show(((qr (mask+1) o).map (·.1)).toArray.size == a.size && decide (((qr (mask+1) o).map (·.1)).toArray.size+0<=mask))=true;rw[b];simp only[MJ,VP,VR,CP];exact d
def c9(w:World):Bool:=w.params.followText "set-order"
def f8(e:Int×Value):Str:=match e.2 with
 |.str x _=>x
 |_=>⟨#[]⟩
section
variable(prog:Program)(w:World)
def rT(e:Int×Value):Prop:=∃z t,e=((strKind prog w).hash z,Value.str z t)
structure jp(es:Array<|Int×Value)(t:SetTable)(zs:Ñ):Prop where
 elts:∀e∈es.toList,rT prog w e
 keys:(es.toList.map f8).Perm zs
 nodup:zs.Nodup
 few:zs.length<1000
 fits:t.fits es.size=true
 led:t.led = !c9 w
 plain:es=#[]\/t.plain=false
def aD(h:Heap)(a:Addr)(zs:Ñ):Prop:=∃o b c t,h.get? a=some o/\o.ExactSet/\o.data=.set b c t/\jp prog w b t zs
end
def jp.elems(T:jp prog w a t zs):ElemsOf (strKind prog w) a.toList:=λe b=>by
 obtain⟨z,u,rfl⟩:=T.elts e b;exact⟨⟨z,PJ _ _ _ _,rfl⟩,rfl⟩
def jp.size(T:jp prog w a t zs):a.size=zs.length:=by
 have:=T.keys.length_eq;rwa[Aa,Cb]at this
def jp.iq(T:jp prog w a t zs):a.size<1000:=T.size▸T.few
def jp.scan(T:jp prog w a t zs):a.size<scanBound:=by have:=T.iq;unfold scanBound;lia
def jp.perm(T:jp prog w b t zs)(p:a.toList.Perm b.toList)(c:t'.fits a.size=true)(d:t'.led=t.led)(f:a=#[]\/t'.plain=false):jp prog w a t' zs:=
 ⟨λe h=>T.elts e<|p.mem_iff.mp h,(p.map f8).trans T.keys,T.nodup,T.few,c,d.trans T.led,f⟩
def aD.keep(S:aD prog w h a zs)(k:∀o,h.get? a=some o->h'.get? a=some o):aD prog w h' a zs:=let ⟨o,b,c,t,d,e⟩:=S;⟨o,b,c,t,k o d,e⟩
def aD.typeIs{s:Shared}(S:aD prog w s.heap a zs):s.TypeIs (.ref a) "set":=let ⟨o,_,_,_,b,c,_⟩:=S;⟨o,b,c.1⟩
def aD.lt(S:aD prog w h a zs):a<h.objs.size:=let ⟨_,_,_,_,b,_⟩:=S;Ax b
section
variable{prog:Program}{w:World}{zs:Ñ}{h:Heap}{a:Addr}
def aD.few(S:aD prog w h a zs):zs.length<1000:=let ⟨_,_,_,_,_,_,_,T⟩:=S;T.few
end
section
variable{prog:Program}{w:World}{zs:Ñ}{h:Heap}{a:Addr}
def aD.nodup(S:aD prog w h a zs):zs.Nodup:=let ⟨_,_,_,_,_,_,_,T⟩:=S;T.nodup
end
def uq{h:Heap}(d:h.get? a=some o)(e:o.ExactSet)(hd:o.data=.set j c t)(f:jp prog w b t' i):
  (h.update a<|Obj.putSet b t').get? a=some {o with data:= .set b (c+1) t'}/\aD prog w (h.update a<|Obj.putSet b t') a i:=by
 have q:=Du (Obj.putSet b t') d (by rw[putSet_of b t' hd];rfl);rw[putSet_of b t' hd]at q;exact⟨q,_,b,c+1,t',q,e,rfl,f⟩
def LZ(a:rT prog w e)(z:Str):(strKind prog w).is z e.2=decide (z=f8 e):=by
 obtain⟨y,u,rfl⟩:=a;exact KeyKind.is_eq_decide (PJ prog w y u) z
def r9(T:jp prog w b t zs)(c:z∉zs):b.toList.findIdx? (λe=>(strKind prog w).is z e.2)=none:=by
 rw[List.findIdx?_eq_none_iff];intro e a;rw[LZ<|T.elts e a,HJ];rintro rfl;exact c<|T.keys.mem_iff.mp<|List.mem_map_of_mem a
theorem r8(T:jp prog w a t zs)(d:z∈zs):∃j,∃b:j<a.toList.length,a.toList.findIdx? (λe=>(strKind prog w).is z e.2)=some j/\f8 a.toList[j]=z:=by
 obtain⟨e,c,f⟩:=Ag.mp<|T.keys.mem_iff.mpr d;cases q:a.toList.findIdx? (λe=>(strKind prog w).is z e.2) with
 |none=>
  have:=List.findIdx?_eq_none_iff.mp q e c;rw[LZ<|T.elts e c,HJ]at this;exact absurd f.symm this
 |some j=>
  obtain⟨b,p,_⟩:=List.findIdx?_eq_some_iff_getElem.mp q;rw[LZ<|T.elts _<|Bq b,CP]at p;exact⟨j,b,rfl,p.symm⟩
def su(t:SetTable)(n:Nat):(t.orStandIn n).led=t.led/\((t.orStandIn n).plain=true->t.plain=true):=by
 unfold SetTable.orStandIn
 split
 ·exact⟨rfl,id⟩
 ·exact⟨rfl,λh=>by cases h⟩
def YD(t:SetTable)(a:Array<|Int×Value)(x:Int)(v:Value):(layNew t a x v).2.1.led=t.led:=by
 unfold layNew
 split
 ·exact(su _ _).1
 ·rfl
theorem WA(e:SetTable.laid mask f m l p a=some (t',o)):t'.led=l/\t'.plain=p:=by
 unfold SetTable.laid at e;cases c:SetTable.layClean mask a with
 |none=>rw[c]at e;cases e
 |some b=>rw[c]at e;cases e;exact⟨rfl,rfl⟩
set_option tactic.hygienic true in
def U0(t:SetTable)(a:Array<|Int×Value)(n:Nat)(b:t.plain=false):(relayAll t a n).2.1.led=t.led/\(relayAll t a n).2.1.plain=false:=by
 unfold relayAll
 split
 ·rename_i c o e;have q:=WA e
  dsimp only
  split
  ·exact⟨q.1,q.2.trans b⟩
  ·exact⟨rfl,rfl⟩
 ·exact⟨rfl,rfl⟩
def nN(h:n<1001):n<=sizeLine:=by rw[DW];lia
theorem U1{g:Bool->Sem Unit}(p:∀(b:Bool)(f:Shared)(h:Unit->Shared->Prop),h () f->ba prog w A (g b) h E f)
      (i:s.heap.get? a=some o) (j:o.ExactSet) (hd:o.data=.set r u t)
    (T:jp prog w d e zs) (l:e.plain=false)  
  (k:∀h',Heap.SameBut a s.heap h'->aD prog w h' a zs->R (some true) {s with heap:=h'}):
  ba prog w A (do
   storeSet a d e
   if c=true then do
     g (relayAll e d<|SetTable.grown d.size).2.2
     storeSet a (relayAll e d<|SetTable.grown d.size).1 (relayAll e d<|SetTable.grown d.size).2.1
     pure (some true)
    else pure (some true)) R E s:=by
 refine BJ<|GQ i hd ?_<|nN<|Bz T.iq;obtain⟨m,q⟩:=uq i j hd T;have n:=CV s.heap a<|Obj.putSet d e;cases c with
 |false=>exact BP<|k _ n q
 |true=>
  have T3:=T.perm (relayAll_perm e d<|SetTable.grown d.size) (relayAll_fits e d<|SetTable.grown d.size) (U0 e d _ l).1<|.inr (U0 e d _ l).2;refine BJ<|p _ _ _<|BJ<|GQ m rfl ?_ (nN<|Bz T3.iq);exact BP<|k _ (n.trans<|CV _ a _) (uq m j rfl T3).2
def added(zs:Ñ)(z:Str):Ñ:=if z∈zs then zs else zs++[z]
def L0(S:aD prog w s.heap a zs)(hb:zs.length+1<1000)
  (k:∀b h',Heap.SameBut a s.heap h'->aD prog w h' a (added zs z)->Q b {s with heap:=h'}):
  ba prog w A (setAddHashed a (.str z c)<|(strKind prog w).hash z) Q E s:=by
 obtain⟨o,d,N,t,h,i,hd,T⟩:=S;unfold setAddHashed setAddHashedIn;refine CK<|BJ<|CQ h hd T.fits ?_
 dsimp only
 rw[byScan_of rfl T.scan T.elems];simp only[↓reduceIte];unfold setAddByScan;refine BJ<|BJ<|HS<|BJ<|wpAny_setScan_of (PJ _ _ _ _) h hd T.fits T.elems ?_
 by_cases m:z∈zs
 ·obtain⟨j,hj,e,_⟩:=r8 T m;rw[e]
  dsimp only
  refine BP<|BP<|k false s.heap (Heap.SameBut.refl a s.heap) ?_;unfold added;rw[BL m];exact⟨o,d,N,t,h,i,hd,T⟩
 ·rw[r9 T m]
  dsimp only
  have B:∀(b:Bool) (D:Shared) (G:Unit->Shared->Prop),G () D->ba prog w A (match b with | true=>rule "set.scan.the-table-gave-way" |false=>pure ()) G E D:=
   λb D G q=>by cases b<;>first|exact BP q|exact HS q
  have p:=layNew_perm t d ((strKind prog w).hash z)<|.str z c;have f:=layNew_fits t d ((strKind prog w).hash z)<|.str z c;have l:=YD t d ((strKind prog w).hash z)<|.str z c;generalize layNew t d ((strKind prog w).hash z) (.str z c)=L at p f l ⊢;obtain⟨J,H,wd,gv⟩:=L
  dsimp only at p f l ⊢
  rw[Array.toList_push]at p;have tab:∀n:SetTable,n.fits J.size=true->n.led=H.led->n.plain=false->jp prog w J n (zs++[z]):=λn O Y h3=>{
   elts:=λe r=>by
    obtain r|r:=Al.mp (p.mem_iff.mp r)
    ·exact T.elts e r
    ·exact⟨z,c,Ae.mp r⟩
   keys:=by
    refine(p.map f8).trans ?_;rw[Ai];exact T.keys.append<|List.Perm.refl _
   nodup:=by
    rw[Bj];refine⟨T.nodup,by simp,λx i y M e=>?_⟩;rw[Ae]at M;subst M e;exact m i
   few:=by rwa[Ah]
   fits:=O
   led:=Y.trans<|l.trans T.led
   plain:= .inr h3}
  have fin:=λh' u v=>k true h' u (by unfold added;rwa[C m]);refine BJ<|B _ _ _ ?_
  split
  ·rename_i I;refine BJ ?_;rw[hashByValue_scannable 8 rfl];refine BP<|U1 B h i hd (tab {H with plain:=false} (SetTable.fits_plain_off f) rfl rfl) rfl λh' u v=>?_
   dsimp only
   exact BP<|fin h' u v
  ·rename_i I;refine BJ<|BP ?_;simp only[↓reduceIte];refine U1 B h i hd (tab H f rfl (Fo.mpr I)) (Fo.mpr I) λh' u v=>?_
   dsimp only
   exact BP<|fin h' u v
def U2(d:s.heap.get? a=some o)(hd:o.data=.set b h t)(T:jp prog w b t zs)
  (k0:z∉zs->Q none s) (k1:∀j,(f:j<b.toList.length)->f8 b.toList[j]=z->Q (some j) s):ba prog w A (setFind a (.str z i)<|(strKind prog w).hash z) Q E s:=by
 unfold setFind setFindIn;refine BJ<|CQ d hd T.fits ?_
 dsimp only
 rw[byScan_of rfl T.scan T.elems];simp only[↓reduceIte];refine BJ<|HS<|BJ<|wpAny_setScan_of (PJ _ _ _ _) d hd T.fits T.elems ?_
 by_cases c:z∈zs
 ·obtain⟨j,f,e,q⟩:=r8 T c;rw[e]
  dsimp only
  rw[Es];exact BP<|k1 j f q
 ·rw[r9 T c];exact BP<|k0 c
def FC(xs:Array α)(i:Nat):(SetTable.eraseAt xs i).toList=xs.toList.eraseIdx i:=by
 unfold SetTable.eraseAt;rw[Array.toList_append,Array.toList_extract,Array.toList_extract,List.eraseIdx_eq_take_drop_succ];simp[List.extract_eq_drop_take];exact Dg<|by simp
theorem bZ:∀(l:List α)(j:Nat)(a:j<l.length),(l[j]:: l.eraseIdx j).Perm l
 |[],_,h=>by simp at h
 |x :: r,0,_=>List.Perm.refl _
 |x :: r,j+1,h=>(List.Perm.swap x _ _).trans<|(bZ r j<|Nat.lt_of_succ_lt_succ h).cons x
def gl{t:SetTable}(h:t.fits n=true)(e:i<n):(t.drop i).fits (n-1)=true/\(t.drop i).led=t.led/\(t.drop i).plain=t.plain:=by
 unfold SetTable.fits at h;rw[Bx,JQ,CP]at h;have a:i<t.place.size:=by rwa[h.1]
 rw[SetTable.drop,Dx a]
 dsimp only
 refine⟨?_,rfl,rfl⟩;have b:(SetTable.eraseAt t.place i).size=n-1:=by
  rw[<-Cb,FC,Dm,Cb,BL a,h.1]
 have c:=λj=>by
  have:=(SetTable.insertAt_perm t.dummies (SetTable.below t.dummies j) j).length_eq
  simpa using this
 have d:=h.2;unfold SetTable.fill at d;unfold SetTable.fits SetTable.fill
 dsimp only
 rw[b,c];simp;lia
def k63(S:aD prog w s.heap a zs)
  (k0:z∉zs->Q false s) (k1:∀h',z∈zs->Heap.SameBut a s.heap h'->aD prog w h' a (zs.erase z)->Q true {s with heap:=h'}):
  ba prog w A (setDiscardHashed a (.str z n)<|(strKind prog w).hash z) Q E s:=by
 obtain⟨o,b,p,t,c,d,hd,T⟩:=S;unfold setDiscardHashed;refine BJ<|U2 c hd T (λf=>?_) λj h e=>?_
 ·exact BP<|k0 f
 ·dsimp only
  have i:j<b.size:=by simpa using h
  have f:=T.keys.mem_iff.mp<|Ag.mpr ⟨_,Bq h,e⟩;obtain⟨f1,f2,m⟩:=gl T.fits i;have k:(f8 b.toList[j]:: (b.toList.eraseIdx j).map f8).Perm zs:=by
   refine List.Perm.trans ?_ T.keys;rw[<-Be];exact(bZ _ j h).map f8
  rw[e]at k;have l:jp prog w (SetTable.eraseAt b j) (t.drop j) (zs.erase z):={
   elts:=λx d=>by
    rw[FC]at d;exact T.elts x<|Fs d
   keys:=by
    rw[FC];refine List.Perm.cons_inv<|k.trans ?_;exact List.perm_cons_erase f
   nodup:=T.nodup.erase z
   few:=Gq (List.length_erase_le) T.few
   fits:=by
    have:(SetTable.eraseAt b j).size=b.size-1:=by
     rw[<-Cb,FC,Dm,Cb,BL i]
    rwa[this]
   led:=f2.trans T.led
   plain:=by
    obtain q|q:=T.plain
    ·subst q;simp at i
    ·exact .inr (m.trans q)}
  refine BJ<|CQ c hd T.fits ?_
  dsimp only
  refine BJ<|GQ c hd ?_<|nN<|Bz l.iq;refine BJ<|wpAny_point<|BP<|k1 _ f (CV _ a _) (uq c d hd l).2
theorem U3(next:Nat->Nat):∀(a k:Nat)(left:List α)(b:Array α),left.length<=a->(pickOrder.go next a k left b).toList.Perm (b.toList++left)
 |0,k,left,b,h=>by
  have:left=[]:=Ci.mp (by lia);subst this;unfold pickOrder.go;simp
 |a+1,k,left,b,h=>by
  unfold pickOrder.go;cases e:left[next k%left.length]? with
  |none=>
   have:left=[]:=by
    cases left with
    |nil=>rfl
    |cons x r=>
     have c:next k%(x :: r).length<(x :: r).length:=Hm _ (by simp);rw[Ab c]at e;cases e
   subst this;simp
  |some x=>
   dsimp only
   obtain⟨c,d⟩:=Ad.mp e;refine(U3 next a (k+1) _ _ (by rw[Dm,BL c];lia)).trans ?_;rw[Array.toList_push,Ap];apply JL _;have:=bZ left _ c;rwa[d]at this
def U4{α:Type}(next:Nat->Nat)(xs:Array α):(pickOrder next xs).toList.Perm xs.toList:=by
 have:=U3 next xs.size 0 xs.toList #[] (by simp)
 simpa[pickOrder]using this
def wf(a:n≠0)(h:∀i d,i<n->Q i {s with drawn:=d}):ba prog w A (choose b n) Q E s:=
 λc p _=>⟨a,h _ _<|Hm _<|Nat.pos_of_ne_zero a⟩
section
variable{prog:Program}{w:World}{A:Around}{E:Î}
theorem L3:∀(n:Nat)(xs:List α)(s:Shared)(Q:List α->Shared->Prop),xs.length<=n->(∀ys d,ys.Perm xs->Q ys {s with drawn:=d})->ba prog w A (drawOrder n xs) Q E s
 |0,xs,s,Q,h,k=>by
  have:xs=[]:=Ci.mp (by lia);subst this;unfold drawOrder;exact BP<|k [] s.drawn<|List.Perm.refl _
 |n+1,[],s,Q,h,k=>by
  unfold drawOrder;exact BP<|k [] s.drawn<|List.Perm.refl _
 |n+1,x :: r,s,Q,h,k=>by
  unfold drawOrder;refine BJ (wf (by simp) λi d a=>?_);rw[Ab a]
  dsimp only
  refine BJ (L3 n _ _ _ (by rw[Dm,BL a];lia) λys b p=>?_);exact BP<|k _ b<|(p.cons _).trans<|bZ _ i a
end
def wp_text(k:Q (c9 w) s):ba prog w A setsByText Q E s:=by
 unfold setsByText;exact BJ<|JN<|BP k
theorem rb(c:s.heap.get? a=some o)(hd:o.data=.set b f t)(T:jp prog w b t zs)
  (k:∀ws d,ws.toList.Perm b.toList->Q ws {s with drawn:=d}):ba prog w A (setWalk a) Q E s:=by
 unfold setWalk;refine BJ<|CQ c hd T.fits ?_
 dsimp only
 refine BJ<|wp_text ?_;cases e:c9 w with
 |true=>
  simp;exact BJ<|JN<|BP<|k _ s.drawn<|U4 _ _
 |false=>
  simp;show wpAny _ _ (if(!t.plain && decide (b.size>1))=true then _ else _) _ _ _
  split
  ·refine BJ (L3 _ _ _ _ (by simp) λh d p=>?_);exact BP<|k _ d<|by simpa using p
  ·apply BJ;show wpAny _ _ (if(!t.led && decide (b.size>1))=true then _ else _) _ _ _;rw[C<|by rw[T.led,e];simp];exact BP<|BP<|k _ s.drawn<|List.Perm.refl _
def q3f(l:List Addr)(j:∀b∈l,∃ys,aD prog w s.heap b ys)(k:Q true s):ba prog w A (setsQuiet l) Q E s:=by
 unfold setsQuiet;refine BJ<|wpAny_forIn_list _ (λa b d=>b.1=none/\d=s/\∀c∈a,∃ys,aD prog w s.heap c ys) _ ?_ ?_ l _ ⟨rfl,rfl,j⟩
 ·rintro x a b d ⟨r,rfl,f⟩;obtain⟨ys,o,m,v,t,n,y,hd,T⟩:=f x Ac;refine BJ<|JV n hd T.fits<|BJ<|QM _ (λa b p=>b.1=none/\p=d/\∀e∈a,rT prog w e) _ ?_ ?_ m _ ⟨rfl,rfl,T.elts⟩
  ·rintro e B D q ⟨G,rfl,i⟩;obtain⟨z,u,rfl⟩:=i _ Ac;exact BP ⟨rfl,rfl,λe h=>i e<|Af _ h⟩
  ·rintro ⟨_,_⟩ q ⟨rfl,rfl,_⟩;exact BP ⟨rfl,rfl,λc h=>f c<|Af _ h⟩
 ·rintro ⟨_,_⟩ d ⟨rfl,rfl,_⟩;exact BP k
def k7w(m:s.heap.get? a=some o)(y:o.ExactSet)(hd:o.data=.set h z t)(T:jp prog w h t zs)(l:aD prog w s.heap f n)
  (k:∀ws h' d,ws.toList.Perm h.toList->Heap.SameBut f s.heap h'->aD prog w h' f n->Q ws {s with heap:=h',drawn:=d}):ba prog w A (setWalkUnseen a [f]<|some f) Q E s:=by
 unfold setWalkUnseen;refine BJ<|CQ m hd T.fits ?_
 dsimp only
 refine BJ<|wp_text ?_
 split
 ·exact rb m hd T λws d p=>k ws s.heap d p (Heap.SameBut.refl _ _) l
 ·rename_i x;have i:c9 w=false:=by
   cases e:c9 w with
   |false=>rfl
   |true=>rw[e]at x;simp at x
  refine BJ<|q3f [a,f] (λb i=>?_) ?_
  ·obtain rfl|i:=Ak.mp i
   ·exact⟨zs,o,h,z,t,m,y,hd,T⟩
   ·rw[Ae]at i;subst i;exact⟨n,l⟩
  ·simp;refine BJ<|HS ?_;obtain⟨of,B,G,j,r,u,v,c⟩:=id l;refine BJ<|CQ r v c.fits ?_
   dsimp only
   have D:jp prog w B {j with led:=j.led && t.led,plain:=j.plain && t.plain} n:=
    ⟨c.elts, c.keys, c.nodup, c.few, c.fits, by show (j.led && t.led)=_; rw[c.led, T.led]; simp, by
     obtain q|q:=c.plain
     ·exact .inl q
     ·exact .inr<|by show(j.plain && t.plain)=false;rw[q];rfl⟩
   split
   ·refine BJ<|GQ r v ?_<|nN<|Bz c.iq;exact BP<|k h _ s.drawn (List.Perm.refl _) (CV _ f _) (uq r u v D).2
   ·exact BP<|k h s.heap s.drawn (List.Perm.refl _) (Heap.SameBut.refl _ _) l
open Builtin.Frozenset
def ut(m:Nat):Bool:=m == 8 || m == 16 || m == 32 || m == 64 || m == 128
def q83(h:ut m=true):vc m:=by
 unfold ut at h;simp only[Bool.or_eq_true,JQ]at h;unfold vc;lia
def hQ:((range 64).all λn=>ut (SetTable.sizeAbove<|n*2) && decide (n<SetTable.sizeAbove (n*2)))=true:=by decide +kernel
def LB(h:n<64):vc (SetTable.sizeAbove<|n*2)/\n<SetTable.sizeAbove (n*2):=by
 have q:=hQ;rw[Fh]at q;have:=q n<|Bg.mpr h;rw[Bx,CP]at this;exact⟨q83 this.1,this.2⟩
def Nd{a:Array (Int×Value)}{order:Array Nat}(p:order.toList.Perm<|range a.size):(order.filterMap (a[·]?)).toList.Perm a.toList:=by
 rw[Array.toList_filterMap];have:=p.filterMap λi=>a[i]?;rwa[filterMap_getElem?_range]at this
structure gT(w:World)(t:SetTable):Prop where
 place:t.place=#[]
 dummies:t.dummies=#[]
 led:t.led = !c9 w
 plain:t.plain=true
def gT.tab(B:gT w t):jp prog w #[] t []:=
 ⟨λe a=>by simp at a,by simp,Co,by decide,by unfold SetTable.fits SetTable.fill;rw[B.place,B.dummies];simp,B.led,.inl rfl⟩
section
variable{w:World}
def gT.fill(B:gT w t):t.fill=0:=by rw[SetTable.fill,B.place,B.dummies];rfl
end
def q1m
  (k:∀ o,o.ExactSet->(∃ t,o.data = .set #[] 0 t/\gT w t/\t.mask=7)->o.isFreed=false->Q (.ref s.heap.objs.size) {s with heap:=s.heap.push o}):ba prog w A (newSet<|.type "set") Q E s:=by
 unfold newSet;refine BJ<|wp_text ?_
 dsimp only
 simp only[newObj];exact BJ<|QJ<|BP<|k _ ⟨rfl,rfl,rfl⟩ ⟨_,rfl,⟨rfl,rfl,rfl,rfl⟩,rfl⟩ rfl
def q84(b:s.heap.get? a=some o)(d:o.ExactSet)(hd:o.data=.set #[] m t)(B:gT w t)(h:t.mask=7)(q:n<64)
  (k:∀h' i r t',Heap.SameBut a s.heap h'->h'.get? a=some i->i.ExactSet->i.data=.set #[] r t'->gT w t'->vc (t'.mask+1)->n<=t'.mask->Q () {s with heap:=h'}):
  ba prog w A (setRoomFor a n) Q E s:=by
 have T:jp prog w #[] t []:=B.tab;unfold setRoomFor;refine BJ<|CQ b hd T.fits ?_
 dsimp only
 rw[SetTable.roomFor,B.fill,h]
 by_cases c:(0+n)*5>=7*3
 ·rw[BL c]
  dsimp only
  have u:(t.place.size+n)*2=n*2:=by rw[B.place];simp
  rw[u];obtain⟨v,L⟩:=LB q;unfold setRelay;refine BJ<|CQ b hd T.fits ?_
  dsimp only
  have x:SetTable.sizeAbove (n*2)<=512:=v.pos.2;rw[C<|by rw[DW];lia];have em:SetTable.sizeAbove (n*2)-1+1=SetTable.sizeAbove (n*2):=by lia
  obtain⟨t',order,e,p,f,y,z,j,D,G⟩:=UZ (by rwa[em]) (#[]:Array Int) (by simp);have H:t.relaid ((#[]:Array<|Int×Value).map (·.1)) (n*2)=some (t',order):=by
   unfold SetTable.relaid;rwa[show((#[]:Array<|Int×Value).map (·.1))=#[] by simp]
  rw[H];have I:order=#[]:=by
   have:=p.length_eq;simp at this;exact this
  subst I;apply BJ;show wpAny _ _ (if(((#[]:Array Nat).filterMap ((#[]:Array<|Int×Value)[·]?)).size != (#[]:Array<|Int×Value).size)=true then(unsupported "internal:set-table-lost-an-element" : Sem<|Array (Int×Value)×SetTable)else pure ((#[]:Array Nat).filterMap ((#[]:Array<|Int×Value)[·]?),t')) _ _ _;rw[C<|by simp];refine BP ?_
  dsimp only
  have J:((#[]:Array Nat).filterMap ((#[]:Array<|Int×Value)[·]?))=#[]:=by simp
  rw[J];have l:gT w t':=⟨by
   have:=G
   simpa using this,D,y.trans B.led,z.trans B.plain⟩
  refine GQ b hd ?_ (by simp);exact k _ _ _ _ (CV _ a _) ((uq b d hd<|l.tab (prog:=prog)).1) d rfl l (by rwa[j,em]) (by rw[j];lia)
 ·rw[C c];exact BP<|k s.heap o m t (Heap.SameBut.refl _ _) b d hd B (h▸(.inl rfl))<|by rw[h];lia
def EI(z:s.heap.get? a=some o)(n:o.ExactSet)(hd:o.data=.set #[] M t)(B:gT w t)(N:t.mask=7)(O:a≠b)(S:aD prog w s.heap b zs)(hz:zs.length<64)
  (k:∀h',Heap.SameBut a s.heap h'->aD prog w h' a zs->Q () {s with heap:=h'}):ba prog w A (setMerge a b D) Q E s:=by
 obtain⟨ob,h,T,i,Y,Ö,eW,d⟩:=S;unfold setMerge;have e1:(a == b)=false:=by simpa using O
 rw[e1];simp only[Bk,CW];refine BJ<|CQ Y eW d.fits ?_
 dsimp only
 by_cases c:h.isEmpty=true
 ·rw[BL c];have:h=#[]:=by simpa using c
  subst this;have ez:zs=[]:=by
   have:=d.size;exact Ci.mp<|by simpa using this.symm
  subst ez;exact BP<|k s.heap (Heap.SameBut.refl _ _) ⟨o,#[],M,t,z,n,hd,B.tab⟩
 ·rw[C c];have u:h.size<64:=by rwa[d.size]
  refine BJ<|q84 z n hd B N u λh' o' tP j G l H m v hp hl=>?_;refine BJ<|CQ l m (v.tab (prog:=prog)).fits ?_
  dsimp only
  have ld:(j.led && i.led) = !c9 w:=by rw[v.led,d.led];simp
  have I:i.plain=false:=by
   obtain q|q:=d.plain
   ·rw[q]at c;simp at c
   ·exact q
  rw[SetTable.road,v.fill];simp only[FW,Bk,CW]
  by_cases J:(j.mask == i.mask && i.dummies.isEmpty)=true
  ·rw[BL J]
   dsimp only
   have r:jp prog w h {i with finger:=j.finger,led:=j.led && i.led,moves:=j.moves,plain:=j.plain && i.plain} zs:=
    ⟨d.elts,d.keys,d.nodup,d.few,d.fits,ld,.inr<|by show(j.plain && i.plain)=false;rw[I];simp⟩
   refine GQ l m ?_<|nN<|Bz d.iq;exact k _ (G.trans<|CV _ a _) (uq l H m r).2
  ·rw[C J]
   dsimp only
   obtain⟨L,order,e,p,f,l1,l2,l3,l4,l5⟩:=UZ (led:=j.led && i.led) (plain:=j.plain && i.plain) hp (h.map (·.1)) (by simpa using hl);rw[e];have p2:order.toList.Perm (range h.size):=by simpa using p
   have y:=Nd p2;have ps:(order.filterMap (h[·]?)).size=h.size:=by
    have:=y.length_eq;rwa[Cb,Cb]at this
   refine BJ ?_;show wpAny _ _ (if((order.filterMap (h[·]?)).size != h.size)=true then _ else pure (order.filterMap (h[·]?),L)) _ _ _;rw[C<|by rw[ps];simp];refine BP ?_
   dsimp only
   have r:jp prog w (order.filterMap (h[·]?)) L zs:=⟨λx n=>d.elts x<|y.mem_iff.mp n,(y.map f8).trans d.keys,d.nodup,d.few,by rw[ps];simpa using f,l1.trans ld,.inr<|l2.trans<|by rw[I];simp⟩;refine GQ l m ?_<|nN<|Bz r.iq;exact k _ (G.trans<|CV _ a _) (uq l H m r).2
def FG(S:aD prog w s.heap a zs)(k:Q true s):ba prog w A (isAnySet<|.ref a) Q E s:=by
 unfold isAnySet;exact BJ<|JR S.typeIs sub_set_self<|BP k
def q8c{prog:Program}{w:World}{A:Around}{E:Î}{s:Shared}{a:Addr}{zs:Ñ}{Q:Î}(S:aD prog w s.heap a zs)(k:Q (.type "set") s):ba prog w A (baseOf a) Q E s:=by
 unfold baseOf;refine BJ<|JR S.typeIs sub_set_self ?_;exact BP k
def U5{prog:Program}{w:World}{A:Around}{E:Î}{s:Shared}{a:Addr}{zs:Ñ}{Q:Nat->Shared->Prop}(S:aD prog w s.heap a zs)(k:∀n,(∀s':Shared,s'.heap.get? a=s.heap.get? a->∀b:Nat->Shared->Prop,b n s'->ba prog w A (setEpoch a) b E s')->Q n s):ba prog w A (setEpoch a) Q E s:=by
 obtain⟨o,f,d,t,c,h,hd,T⟩:=S;exact KQ c hd T.fits<|k d λs' e b q=>KQ (e.trans c) hd T.fits q
def q9i{prog:Program}{w:World}{A:Around}{E:Î}{s:Shared}{zs:Ñ}{b:Addr}{id:String}{Q:Î}(S:aD prog w s.heap b zs)(d:zs.length<64)
  (k:∀ h',(∀ c o,s.heap.get? c=some o->h'.get? c=some o)->aD prog w h' s.heap.objs.size zs->Q (.ref s.heap.objs.size) {s with heap:=h'}):ba prog w A (newFrom id (.type "set")<|.ref b) Q E s:=by
 unfold newFrom;refine BJ<|q1m λo f⟨t,hd,B,h⟩i=>?_;have j:(s.heap.push o).get? s.heap.objs.size=some o:=Az _ i;have l:b<s.heap.objs.size:=S.lt;have a:aD prog w (s.heap.push o) b zs:=S.keep λr e=>Am _ e;unfold addrOf;refine BJ<|BP<|BJ<|CK ?_;unfold updateFrom;refine BJ<|FG (s:={s with heap:=s.heap.push o}) a ?_;simp only[DQ];refine BJ<|BP ?_;unfold merge;refine BJ<|U5 (s:={s with heap:=s.heap.push o}) a λn _=>?_;refine EI (s:={s with heap:=s.heap.push o}) j f hd B h (De l) a d λh' m p=>?_;refine BP<|k h' (λc u e=>?_) p;have q:c≠s.heap.objs.size:=Bw<|Ax e;rw[m.2 c q];exact Am _ e
def dC(zs:Ñ)(z:Str):Ñ:=if z∈zs then zs.erase z else zs++[z]
def L9{zs:Ñ}(a:zs.Nodup)(z y:Str):y∈dC zs z↔(if y=z then y∉zs else y∈zs):=by
 unfold dC
 by_cases c:z∈zs
 ·rw[BL c,a.mem_erase_iff]
  by_cases e:y=z
  ·subst e;simp[c]
  ·simp[e]
 ·rw[C c,Al,Ae]
  by_cases e:y=z
  ·subst e;simp[c]
  ·simp[e]
def D1(zs:Ñ)(z:Str):(dC zs z).length<=zs.length+1:=by
 unfold dC
 split
 ·exact Nat.le_succ_of_le<|List.length_erase_le
 ·simp
theorem U6:∀(ps zs:Ñ),zs.Nodup->ps.Nodup->∀y,y∈ps.foldl dC zs↔(if y∈ps then y∉zs else y∈zs)
 |[],zs,_,_,y=>by simp
 |p :: r,zs,a,b,y=>by
  rw[Bb]at b;have f:(dC zs p).Nodup:=by
   unfold dC
   split
   ·exact a.erase p
   ·rename_i c;rw[Bj];exact⟨a,by simp,λx i y d e=>by rw[Ae]at d;subst d e;exact c i⟩
  rw[Dq,U6 r _ f b.2 y]
  by_cases e:y=p
  ·subst e;rw[C b.1,L9 a,BL rfl,BL Ac]
  ·by_cases c:y∈r
   ·rw[BL c,BL<|Af _ c,L9 a,C e]
   ·rw[C c,C (λh=>by obtain h|h:=Ak.mp h;exact e h;exact c h),L9 a,C e]
def Vi:entryFor table "set.__xor__" = some Builtin.«frozenset.__xor__»:=
 QB (id':= "frozenset.__xor__") (by kernel_rfl) rfl (by decide +kernel) (by kernel_rfl)
theorem q1f{prog:Program}{w:World}{A:Around}{E:Î}{s:Shared}{a r:Addr}{v m:Ñ}{nm:String}{Q:Unit->Shared->Prop}(x:aD prog w s.heap a v)(Y:aD prog w s.heap r m)(M:a≠r)(hl:v.length+m.length<900)
  (k:∀h' d(ws:Ñ),ws.Perm v->Heap.SameBut r s.heap h'->aD prog w h' r (ws.foldl dC m)->Q () {s with heap:=h',drawn:=d}):ba prog w A (symmetricDifferenceUpdate nm r<|.ref a) Q E s:=by
 unfold symmetricDifferenceUpdate;have e1:(Value.ref a == Value.ref r)=false:=by
  refine Fo.mpr λh=>M ?_;have:=eq_of_beq h;exact Value.ref.inj this
 rw[e1];simp only[Bk,CW];refine BJ<|KH x.typeIs ?_;rw[show(Value.type "set" == Value.type "dict")=false by decide];simp only[Bk,CW];refine BJ<|FG x ?_;simp only[DQ];refine BJ<|BP ?_;unfold addrOf;refine BJ<|BP ?_;refine BJ<|U5 x λn hn=>?_;refine CK ?_;obtain⟨o,es,ep,t,ho,hx,hd,T⟩:=id x;refine BJ<|k7w ho hx hd T Y λws h1 j p sb S1=>?_;have N:(ws.toList.map f8).Perm v:=(p.map f8).trans T.keys;have el:∀e∈ws.toList,rT prog w e:=λe y=>T.elts e<|p.mem_iff.mp y;refine BJ<|QM _ (λc _ H=>∃h' l,H={s with heap:=h',drawn:=j}/\Heap.SameBut r s.heap h'/\aD prog w h' r l/\l.length+c.length<900/\(∀e∈c,rT prog w e) /\
   (c.map f8).foldl dC l=(ws.toList.map f8).foldl dC m) _ ?_ ?_ ws _ ⟨h1,m,rfl,sb,S1,?_,el,rfl⟩
 ·rintro e c b H ⟨h',l,rfl,u,B,rW,y,I⟩;obtain⟨z,tk,rfl⟩:=y _ Ac;have wD:∀e∈c,rT prog w e:=λe h=>y e<|Af _ h;rw[Au]at rW;have O:∀(f:Heap)(D:Nat->Shared->Prop),Heap.SameBut r s.heap f->D n {s with heap:=f,drawn:=j}->ba prog w A (setEpoch a) D E {s with heap:=f,drawn:=j}:=
   λf D i q=>hn _ (i.2 a M) D q
  have fin:∀f J,Heap.SameBut r s.heap f->aD prog w f r J->J=dC l z->∃h' L,({s with heap:=f,drawn:=j}:Shared)={s with heap:=h',drawn:=j}/\Heap.SameBut r s.heap h'/\aD prog w h' r L/\L.length+c.length<900/\(∀e∈c,rT prog w e) /\
    (c.map f8).foldl dC L=(ws.toList.map f8).foldl dC m:=by
   rintro f J i q rfl;refine⟨f,_,rfl,i,q,?_,wD,I⟩;have:=D1 l z;omega
  dsimp only
  refine BJ<|CK<|BJ<|k63 (s:={s with heap:=h',drawn:=j}) B (λG=>?_) λf G i q=>?_
  ·simp only[UW,DQ];refine BJ (L0 (s:={s with heap:=h',drawn:=j}) B (by omega) λb f i q=>BP ?_);unfold unchanged;refine BJ<|BJ<|O f _ (u.trans i) ?_;simp only[FW,Bk,CW];refine BP<|BP<|fin f _ (u.trans i) q ?_;unfold added dC;rw[C G,C G]
  ·simp only[Eu,Bk,CW];refine BP ?_;unfold unchanged;refine BJ<|BJ<|O f _ (u.trans i) ?_;simp only[FW,Bk,CW];refine BP<|BP<|fin f _ (u.trans i) q ?_;unfold dC;rw[BL G]
 ·rintro b H ⟨h',l,rfl,u,B,_,_,I⟩;have EX:l=(ws.toList.map f8).foldl dC m:=I;subst EX;exact BP<|k h' j _ N u B
 ·have:=N.length_eq;rw[Aa]at this;omega
theorem x2{prog:Program}{w:World}{A:Around}{E:Î}{s:Shared}{a:Addr}{i:Ñ}{b:Addr}{h:Ñ}{Q:Î}(f:aD prog w s.heap a i)(j:aD prog w s.heap b h)(D:i.length<64)(t:h.length<64)
  (k:∀h' d m,(∀c o,s.heap.get? c=some o->h'.get? c=some o)->aD prog w h' s.heap.objs.size m->(∀y,y∈m↔(if y∈i then y∉h else y∈h))->Q (.ref s.heap.objs.size) {s with heap:=h',drawn:=d}):
  ba prog w A (binaryOp .BitXor (.ref a)<|.ref b) Q E s:=by
 refine wpAny_binaryOp_same (op:= .BitXor) (T:= "set") f.typeIs j.typeIs F.fills_set_xor F.slot_set_xor<|DR F.slot_set_xor f.typeIs Vi ?_<|F.args_set_xor_2 _ _;show wpAny _ _ (slot1 "__xor__" ⟨[.ref a,.ref b],[]⟩ >>= _) _ _ _;unfold slot1 slotArgs;simp only[Gz,Eu,Bk,↓reduceIte,bind_assoc,Au,Fj,FW];refine BJ<|BP ?_
 dsimp only
 refine BJ<|BP ?_
 dsimp only
 refine BJ<|BJ<|FG f ?_;refine FG j ?_;simp only[Eu,Bk,CW];unfold addrOf;refine BJ<|BP ?_;refine BJ ?_;show wpAny _ _ (baseOf a >>= λc=>newFrom (toString "frozenset."++toString "__xor__") c (.ref b) >>= λres=>addrOf res >>= λq=>holding [res] (symmetricDifferenceUpdate (toString "frozenset."++toString "__xor__") q<|.ref a) >>= λ_=>pure res) _ _ _;refine BJ<|q8c f ?_;refine BJ<|q9i j t λn r u=>?_;unfold addrOf;refine BJ<|BP<|BJ<|CK ?_;have l:aD prog w n a i:=f.keep<|r a;refine q1f (s:={s with heap:=n}) l u (Bw f.lt) (by omega) λv d x p z B=>?_;refine BP<|BP ⟨_,rfl,by simp,k v d _ (λc o e=>?_) B λy=>?_⟩
 ·rw[z.2 c<|Bw<|Ax e];exact r c o e
 ·rw[U6 x h j.nodup (p.nodup_iff.mpr f.nodup) y];simp only[p.mem_iff]
def made(zs:Ñ):Ñ:=zs.foldl added []
def Md(zs:Ñ)(z y:Str):y∈added zs z↔y∈zs\/y=z:=by
 unfold added
 split
 ·rename_i h;exact⟨.inl,λq=>q.elim id λe=>e ▸ h⟩
 ·rw[Al,Ae]
def Su(zs:Ñ)(z:Str):(added zs z).length<=zs.length+1:=by
 unfold added
 split<;>simp
theorem U8:∀(ps zs:Ñ)(y:Str),y∈ps.foldl added zs↔y∈zs\/y∈ps
 |[],zs,y=>by simp
 |p :: r,zs,y=>by
  rw[Dq,U8 r,Md,Ak]
  constructor
  ·rintro ((h|h)|h)
   ·exact .inl h
   ·exact .inr<|.inl h
   ·exact .inr<|.inr h
  ·rintro (h|h|h)
   ·exact .inl<|.inl h
   ·exact .inl<|.inr h
   ·exact .inr h
theorem U9:∀(ps zs:Ñ),(ps.foldl added zs).length<=zs.length+ps.length
 |[],zs=>by simp
 |p :: r,zs=>by
  rw[Dq,Au];have a:=U9 r<|added zs p;have b:=Su zs p;omega
def mE(zs:Ñ)(y:Str):y∈made zs↔y∈zs:=by
 unfold made;rw[U8];simp
def Mf(zs:Ñ):(made zs).length<=zs.length:=by
 have:=U9 zs []
 simpa[made]using this
def jt(w:World):Obj:={cls:= .type "set",dict:=none,data:= .set #[] 0 (.fresh 0 0 (!c9 w))}
def Mg{prog:Program}{w:World}{h:Heap}{a:Addr}(e:h.get? a=some (jt w)):aD prog w h a []:=⟨_,_,_,_,e,⟨rfl,rfl,rfl⟩,rfl,gT.tab ⟨rfl,rfl,rfl,rfl⟩⟩
def k83{prog:Program}{w:World}{A:Around}{E:Î}{s:Shared}(v:Value){Q:Î}(k:Q (.ref s.heap.objs.size) {s with heap:=s.heap.push (jt w)}):
  codeAny (model prog w) A (.call (.builtin "set.__new__") ⟨[.type "set",v],[]⟩) (wants Q E) s:=by
 refine JX ?_;show wpAny _ A.in1 (checkBuiltinCall "set.__new__" ⟨[.type "set",v],[]⟩ >>= λ_=>again<|.builtin "set.__new__" ⟨[.type "set",v],[]⟩) _ _ s;refine BJ<|IK (F.newCall_set_1 v)<|BP ⟨IW F.plain_set_new _,FN F.entry_set_new ?_⟩;rw[FJ F.plain_set_new _];unfold Builtin.«set.__new__» newClass
 dsimp only
 refine BJ<|BJ<|IK (show isType (.type "set")=pure true from rfl)<|BP ?_;simp only[Eu,Bk,CW];unfold newSet;refine BJ<|BJ<|wp_text ?_
 dsimp only
 simp only[newObj];refine BJ<|QJ<|BP ?_;exact BP k
theorem WF{prog:Program}{w:World}{A:Around}{R:Result->Shared->Prop}{I:Addr}{fp d:List Addr}{G:Array GenState->Array GenState->Prop}{n:Nat}{P:Nat->Value->Prop}{St:Nat->Shared->Prop}(W:WalksS prog w A.in1 I fp d G n P St)(a:Addr)(l:a∉fp)(zs:Ñ)(hn:zs.length=n)(y:∀i v,P i v->∃z t,zs[i]?=some z/\v=Value.str z t)(p:n<900):
  ∀(k i:Nat)(s:Shared),n-i=k->i<=n->St i s->aD prog w s.heap a (made<|zs.take i)->(∀s',Moved (a :: d) G s s'->aD prog w s'.heap a (made zs)->R (.ok<|.ret .none) s') ->
   codeAny (model prog w) A (.builtin "set.update.loop" ⟨[.ref a,.ref I],[]⟩) R s:=by
 have q:a∉d:=λh=>l<|W.sub _ h;have r:∀b∈d,b∈a :: d:=λb p=>Af _ p;intro k
 induction k with
 |zero=>
  intro i s B D st S f;have e:i=n:=by omega
  subst e;refine FN KJ ?_;rw[FJ HW _];show wpAny _ A.in1 (pyNext (.ref I) >>= _) _ _ s;refine BJ<|W.done s _ _ st λs' m=>?_;show wpAny _ A.in1 (ret Value.none) _ _ s';rw[Dg<|by omega]at S;exact BP<|f s' (m.mono r)<|S.keep λo e=>m.heap a o q e
 |succ k E=>
  intro i s B D st S f;have u:i<n:=by omega
  refine FN KJ ?_;rw[FJ HW _];show wpAny _ A.in1 (pyNext (.ref I) >>= _) _ _ s;refine BJ<|W.item i s _ _ u st λv s' H J m=>?_;obtain⟨z,t,L,rfl⟩:=y i v H;have M:aD prog w s'.heap a (made<|zs.take i):=S.keep λo e=>m.heap a o q e;show wpAny _ A.in1 (holding [Value.str z t] (setAdd a<|.str z t) >>= _) _ _ s';refine BJ<|CK ?_;unfold setAdd;refine CK<|BJ<|(strKind prog w).pyHash (k:=z) (PJ _ _ _ _) ?_;have hl:(made<|zs.take i).length<=i:=Cd (Mf _) (by rw[Bm];omega);refine L0 (s:={s' with toks:=s'.toks+1}) M (by omega) λb N x S2=>?_;have O:aD prog w N a (made<|zs.take<|i+1):=by
   rw[Ck,L];unfold made;rwa[List.foldl_append]
  refine BP ⟨IW HW _,E (i+1) _ (by omega) u (W.frame _ s' _ _ J (Fm _) λc j o e=>?_) O λQ T Y=>?_⟩
  ·rwa[x.2 c λh=>l<|h ▸ j]
  ·refine f Q (Moved.trans W.gtrans ((m.mono r).then_heap (Fm _) λc o j e=>?_) T) Y;rwa[x.2 c λh=>j<|h ▸ Ac]
theorem k4{prog:Program}{w:World}{A:Around}{E:Î}{s:Shared}{Q:Î}{l:Addr}{items:Array Value}{zs:Ñ}(I:A.handled=none)(J:s.heap.IsList l items)(L:∀(i:Nat)v,items[i]?=some v->∃z t,zs[i]?=some z/\v=Value.str z t)(M:zs.length=items.size)(a:items.size<900)
  (k:∀ h' d,(∀ b o,s.heap.get? b=some o->h'.get? b=some o)->aD prog w h' s.heap.objs.size (made zs)->Q (.ref s.heap.objs.size) {s with heap:=h',toks:=d}):ba prog w A (call (.type "set") [.ref l]) Q E s:=by
 obtain⟨c,tl,Mh⟩:=F.called_set.mro;have yA:=F.called_set.made;have qz:=F.called_set.sub;refine wpAny_call<|JX ?_;show wpAny _ _ (callAny (.type "set") _) _ _ _;refine BP ⟨Code.quiet_builtin _ (by decide +kernel),FN F.entry_type_call ?_⟩;rw[Around.under_plain (weight_type_call_type "set" [.ref l] []) rfl];have h1:=F.called_set.notType;have h2:=F.called_set.canCreate;have h3:=F.typeCall_set_1<|.ref l
 repeat (any_goals (first|assumption|wp_step))
 refine JK (k83 (.ref l) (E:=E) (Q:=λv x=>v=.ref s.heap.objs.size/\x={s with heap:=s.heap.push (jt w)}) ⟨rfl,rfl⟩) λr x f=>?_;cases r with
 |error e=>exact f
 |ok N=>
  cases N with
  |ret v=>
   obtain⟨rfl,rfl⟩:=f;have j:(s.heap.push<|jt w).get? s.heap.objs.size=some (jt w):=Az _ rfl;have O:Shared.TypeIs {s with heap:=s.heap.push (jt w)} (.ref s.heap.objs.size) "set":=⟨_,j,rfl⟩;have wF:=F.called_set.init.lookup;have Mi:=F.called_set.init.bind<|.ref s.heap.objs.size
   repeat (any_goals (first|assumption|wp_step))
   refine JK (codeAny_call_builtin (R:=wants (λr T=>r=.none/\∃h' d,T={s with heap:=h',toks:=d}/\(∀b o,s.heap.get? b=some o->h'.get? b=some o)/\aD prog w h' s.heap.objs.size (made zs)) E) F.called_set.init.plain F.entry_set_init<|check_set_init_1 O ?_) λY s2 n=>?_
   ·obtain⟨ol,y,B,nl,D⟩:=J;obtain⟨Ö,yB,Va,uA⟩:=ol;simp only at B D;subst B D;have Mj:(s.heap.push<|jt w).get? l=some {cls:= .type "list",dict:=yB,data:= .seq items nl,slots:=uA}:=Am _ y;have n1:=F.sub_list_set;have n2:=F.sub_list_frozenset;have n3:(Value.type "list" == Value.type "dict")=false:=by decide
    have G:(s.heap.push<|jt w).IsList l items:=⟨_,Mj,rfl,nl,rfl⟩;have Mk:(s.heap.push<|jt w).get? s.heap.objs.size=some {cls:= .type "set",dict:=none,data:= .set #[] 0 (.fresh 0 0 (!c9 w))}:=j;unfold Builtin.«set.__init__» noKeywords updateFrom;generalize p:pyIter=PI
    wp_walk
    subst p;refine QX G ?_;refine BJ<|wpAny_runValue ?_;have H:l<s.heap.objs.size:=Ax y;have bp:l≠(s.heap.push<|jt w).objs.size:=by
     rw[Dr];exact Bw<|Bz H
    have q:s.heap.objs.size∉[(s.heap.push<|jt w).objs.size,l]:=by
     rw[Dr];intro h
     obtain h|h:=Ak.mp h
     ·exact absurd h<|Bw<|Gh _
     ·rw[Ae]at h;exact absurd h<|De H
    refine WF ((Walks.list (by simp[I]) _ l bp items).toS) s.heap.objs.size q zs M (λi v hv=>L i v hv) a (items.size-0) 0 _ (by omega) (By _)
     ⟨⟨_,Az _ rfl,rfl,rfl⟩,(G.push _)⟩ ?_ λs' m S'=>?_
    ·exact Mg<|Am _ j
    ·obtain⟨h',g',d',FI,cv⟩:=s';have eg:g'=s.gens:=m.gens;have ed:d'=s.drawn:=m.drawn;have eo:cv=s.os:=m.os;subst eg ed eo;refine BP ?_;refine BP ⟨rfl,h',FI,rfl,λb o e=>?_,S'⟩;have a:=Ax e;refine m.heap b o (λh=>?_)<|Am _<|Am _ e;rw[Dr]at h
     obtain h|h:=Ak.mp h
     ·exact absurd h<|Bw a
     ·rw[Ae]at h;exact absurd h<|Bw<|Bz a
   ·cases Y with
    |error e=>exact n
    |ok u=>
     cases u with
     |ret r=>
      obtain⟨rfl,h',d,rfl,q1,q2⟩:=n
      repeat (any_goals (first|assumption|wp_step))
      exact k _ _ q1 q2
     |_=>exact n.elim
  |_=>exact f.elim
def ge:Slot "set_iterator" "__next__" "set_iterator.__next__":=
 .of (owner:= "set_iterator") (n:= "__next__") (by rw[SX,MK];kernel_rfl) (by decide +kernel) (by decide +kernel) (by decide +kernel)
  (by first|exact .inl (by decide +kernel)|exact .inr<|by decide +kernel) (by rw[isSubtype_type];kernel_rfl)
def mT:entryFor table "set_iterator.__next__" = some Builtin.«set_iterator.__next__»:=entryFor_of_fast<|by kernel_rfl
def args_next(a:Value):argsOk "set_iterator.__next__" ⟨[a],[]⟩:=by unfold argsOk;kernel_rfl
def k62:entryFor table "set.__iter__" = some Builtin.«frozenset.__iter__»:=
 QB (id':= "frozenset.__iter__") (by kernel_rfl) rfl (by decide +kernel) (by kernel_rfl)
def pE(first:Value)(i:Nat)(a:Addr)(n b:Nat):Obj:={cls:= .type "set_iterator",data:= .fields #[first,.int i 0,.ref a,.int n 0,.int b 0]}
def iu(ys:List Nat):Obj:={cls:= .type "tuple",data:= .seq (ys.map λ(i:Nat)=>rawInt i).toArray}
inductive Way(w:World)(h:Heap)(a tp:Addr)(es:Array<|Int×Value)(ep:Nat)(t:SetTable)(ws:List<|Int×Value)(i:Nat):Value->Prop where
 |drawn (ys:List Nat) (ht:h.get? tp=some (iu ys)) (hl:ys.length=es.size) (hw:∀j:Nat,∀y,ys[j]?=some y->es[y]?=ws[j]?):Way w h a tp es ep t ws i<|.ref tp
 |text (c:Int) (hb:c9 w=true) (hw:ws=(pickOrder (w.params.setOrder a ep) es).toList):Way w h a tp es ep t ws i<|.int c 0
 |one (c:Nat) (hb:c9 w=false) (hs:es.size<=1) (hw:ws=es.toList) (hc:SetTable.below t.place c=i):Way w h a tp es ep t ws i<|.int c 0
section
def Vb(j c:Nat):SetTable.below #[j] c=if j<c then 1 else 0:=by
 unfold SetTable.below;unfold SetTable.below.go;simp;show(if(#[j]:Array Nat).getD 0 c<c then SetTable.below.go #[j] c 0 1 1 else SetTable.below.go #[j] c 0 0 0)=_;rw[show(#[j]:Array Nat).getD 0 c=j by rfl]
 split<;>rfl
theorem Way.keep(W:Way w h a d f j t ws i first)(k:∀o,h.get? d=some o->h'.get? d=some o):Way w h' a d f j t ws i first:=by
 cases W with
 |drawn l m n b=>exact .drawn l (k _ m) n b
 |text c e b=>exact .text c e b
 |one c e p b q=>exact .one c e p b q
def yC{h:Heap}(x:Value)(e:h.get? it=some (pE first i a n b)):(h.update it (Obj.mapFields (·.setIfInBounds 0 x))).get? it=some (pE x i a n b):=Du _ e rfl
def AR{h:Heap}(e:h.get? it=some (pE first i a n b)):(h.update it (Obj.mapFields (·.setIfInBounds 1 (rawInt<|(i:Int)+1)))).get? it=some (pE first (i+1) a n b):=Du _ e rfl
theorem Vc(h:p.size=1):∃j,p=#[j]:=by
 obtain⟨l⟩:=p
 match l,h with
 |[j],_=>exact⟨j,rfl⟩
def Vd(T:jp prog w a t zs):t.place.size=a.size:=by
 have:=T.fits;unfold SetTable.fits at this;rw[Bx,JQ]at this;exact this.1
theorem Mn{first:Value}(d:s.heap.get? it=some (pE first i a b.size m))(n:s.heap.get? a=some o)(hd:o.data=.set b m t)(T:jp prog w b t zs)(M:Way w s.heap a r b m t ws i first)
  (N:r≠it) (O:ws.Perm b.toList)  (B:ws[i]?=some e) (k:∀h' D,Heap.SameBut it s.heap h'->h'.get? it=some (pE D (i+1) a b.size m)->Way w h' a r b m t ws (i+1) D->Q (some e.2) {s with heap:=h'}):
  ba prog w A (pyNext<|.ref it) Q E s:=by
 have G:s.TypeIs (.ref it) "set_iterator":=⟨_,d,rfl⟩;unfold pyNext;refine BJ<|LR<|IV G ge<|DR ge G mT ?_<|args_next _;unfold Builtin.«set_iterator.__next__»;refine BJ<|BP<|BJ<|QC d rfl ?_
 dsimp only
 refine BJ<|JV n hd T.fits ?_;rw[C<|by simp];have H:∀x,Heap.SameBut it s.heap ((s.heap.update it (Obj.mapFields (·.setIfInBounds 0 x))).update it (Obj.mapFields (·.setIfInBounds 1 (rawInt<|(i:Int)+1)))):=λx=>(CV ..).trans<|CV ..;have nQ:i<b.size:=by
  have h1:ws.length=b.size:=by simpa using O.length_eq
  obtain h|h:=Dv i ws.length
  ·lia
  ·rw[Bh h]at B;cases B
 have I:Heap.SameBut it s.heap (s.heap.update it (Obj.mapFields (·.setIfInBounds 1 (rawInt<|(i:Int)+1)))):=CV ..;cases M with
 |drawn p Y hl f=>
  dsimp only
  have u:p[i]?=some (p[i]'(by lia)):=Ab _;generalize p[i]'(by lia)=y at u;refine BJ<|wpAny_seqItems Y rfl ?_
  dsimp only
  have q:(p.map λ(i:Nat)=>rawInt i).toArray[(i:Int).toNat]?=some (.int y 0):=by
   rw[Bt,VB,Aj,u];rfl
  rw[q]
  dsimp only
  unfold setNextDrawn;refine BJ<|BJ<|CQ n hd T.fits ?_
  dsimp only
  rw[C<|by simp];have v:b[(y:Int).toNat]?=some e:=by
   rwa[Bt,f i y u]
  rw[v]
  dsimp only
  refine BP (BJ<|DY d rfl (by simp) ?_);refine BP ⟨_,rfl,BP<|k _ _ I (AR d)<|.drawn p ?_ hl f⟩;rwa[I.2 r N]
 |text c l f=>
  dsimp only
  unfold setNext;refine BJ<|BJ<|CQ n hd T.fits ?_
  dsimp only
  refine BJ<|wp_text ?_;rw[l];simp only[DQ];rw[C<|by simp];unfold setWalk;refine BJ<|BJ<|CQ n hd T.fits ?_
  dsimp only
  refine BJ<|wp_text ?_;rw[l];simp only[DQ];refine BJ<|JN ?_;refine BP ?_;have q:(pickOrder ((model prog w).w.params.setOrder a m) b)[(i:Int).toNat]?=some e:=by
   rw[Bt,<-Cc];show(pickOrder (w.params.setOrder a m) b).toList[i]?=_;rwa[<-f]
  rw[q];refine BP ?_
  dsimp only[Option.map]
  refine BJ (DY d rfl (by simp) ?_);refine BJ (DY (yC _ d) rfl (by simp) ?_);exact BP ⟨_,rfl,BP<|k _ _ (H _) (AR<|yC _ d)<|.text _ l f⟩
 |one c l hs f hc=>
  have z:i=0:=by lia
  have J:b.size=1:=by lia
  subst z;obtain⟨j,L⟩:=Vc ((Vd T).trans J)
  dsimp only
  unfold setNext;refine BJ<|BJ<|CQ n hd T.fits ?_
  dsimp only
  refine BJ<|wp_text ?_;rw[l];simp only[Bk,CW];show wpAny _ _ (if(!t.plain && decide (b.size>1))=true then _ else _) _ _ _;rw[C<|by rw[J];simp];refine BJ ?_;show wpAny _ _ (if(!t.led && !b.isEmpty)=true then _ else _) _ _ _;rw[C<|by rw[T.led,l];simp];refine BP ?_;rw[Bt,hc];have q:b[0]?=some e:=by
   rwa[<-Cc,<-f]
  have v:t.place[0]?=some j:=by rw[L];rfl
  rw[q,v];refine BP ?_
  dsimp only
  refine BJ (DY d rfl (by simp) ?_);refine BJ (DY (yC _ d) rfl (by simp) ?_);refine BP ⟨_,rfl,BP<|k _ _ (H _) (AR<|yC _ d)<|.one (j+1) l hs f ?_⟩;rw[L,Vb,BL<|Gh _]
theorem ly{first:Value}(u:A.handled=none)(f:s.heap.get? it=some (pE first i a d.size j))(l:s.heap.get? a=some o)(hd:o.data=.set d j t)(T:jp prog w d t zs)(y:Way w s.heap a I d j t ws i first)
  (z:ws.Perm d.toList) (J:i=d.size) (k:∀h',Heap.ExtBut it s.heap h'->Q none {s with heap:=h'}):
  ba prog w A (pyNext<|.ref it) Q E s:=by
 have r:s.TypeIs (.ref it) "set_iterator":=⟨_,f,rfl⟩;have L:ws.length=d.size:=by simpa using z.length_eq
 unfold pyNext;refine BJ<|LR<|IV r ge<|DR ge r mT ?_<|args_next _;unfold Builtin.«set_iterator.__next__»;refine BJ<|BP<|BJ<|QC f rfl ?_
 dsimp only
 refine BJ<|JV l hd T.fits ?_;rw[C<|by simp];have fin:∀ m:Heap,Heap.SameBut it s.heap m->wpAny (model prog w) A.in1 (newExc (Value.type "StopIteration") [] >>= λx=>(raiseNew x:Sem Fin)) (λfin n=>∃v,fin=Fin.done (Flow.ret v)/\ba prog w A (pure<|some v) Q E n)
   (λe n=>ba prog w A (isInstance e (Value.type "StopIteration") >>= λb=>if b=true then pure none else throw e) Q E n) {s with heap:=m}:=by
  intro m B;apply BJ;simp only[newExc,newTuple];refine BJ (DN ?_<|by size_fits);refine BJ (IK (by first|rfl|(simp only[firstArgMember];rfl)) ?_);refine DN ?_ (by size_fits);simp only[raiseNew];refine BJ<|wpAny_handled ?_;rw[show A.in1.handled=none from u];refine BJ<|BP<|wpAny_throw ?_;refine BJ<|JR (b:=true) ⟨_,Az _ rfl,rfl⟩ isSubtype_stop ?_;exact BP<|k _<|(B.extBut.push _).push _
 cases y with
 |drawn D G M p=>
  dsimp only
  refine BJ<|wpAny_seqItems G rfl ?_
  dsimp only
  have q:(D.map λ(i:Nat)=>rawInt i).toArray[(i:Int).toNat]?=none:=by grind
  rw[q]
  dsimp only
  refine BJ (DY f rfl (by simp) ?_);refine BJ (DY (yC _ f) rfl (by simp) ?_);exact fin _<|(CV ..).trans<|CV ..
 |text c h p=>
  dsimp only
  unfold setNext;refine BJ<|BJ<|CQ l hd T.fits ?_
  dsimp only
  refine BJ<|wp_text ?_;rw[h];simp only[DQ];rw[C<|by simp];unfold setWalk;refine BJ<|BJ<|CQ l hd T.fits ?_
  dsimp only
  refine BJ<|wp_text ?_;rw[h];simp only[DQ];refine BJ<|JN ?_;refine BP ?_;have q:(pickOrder ((model prog w).w.params.setOrder a j) d)[(i:Int).toNat]?=none:=by
   rw[Bt,<-Cc];show(pickOrder (w.params.setOrder a j) d).toList[i]?=_;rw[<-p,Bh];lia
  rw[q];refine BP ?_
  dsimp only[Option.map]
  refine BJ (DY f rfl (by simp) ?_);exact fin _<|CV ..
 |one c h N p H=>
  dsimp only
  unfold setNext;refine BJ<|BJ<|CQ l hd T.fits ?_
  dsimp only
  refine BJ<|wp_text ?_;rw[h];simp only[Bk,CW];show wpAny _ _ (if(!t.plain && decide (d.size>1))=true then _ else _) _ _ _;rw[C<|by rw[BR<|by lia];simp];refine BJ ?_;show wpAny _ _ (if(!t.led && !d.isEmpty)=true then _ else _) _ _ _;rw[C<|by rw[T.led,h];simp];refine BP ?_;rw[Bt,H];rw[Fd (by omega)];refine BP ?_
  dsimp only
  refine BJ (DY f rfl (by simp) ?_);exact fin _<|CV ..
open PySem.Spec
def Vg:Slot "set_iterator" "__iter__" "set_iterator.__iter__":=
 .of (owner:= "set_iterator") (n:= "__iter__") (by rw[SX,MK];kernel_rfl) (by decide +kernel) (by decide +kernel) (by decide +kernel)
  (by first|exact .inl (by decide +kernel)|exact .inr<|by decide +kernel) (by rw[isSubtype_type];kernel_rfl)
def k38:entryFor table "set_iterator.__iter__" = some Builtin.«dict_keyiterator.__iter__»:=
 QB (id':= "dict_keyiterator.__iter__") (by kernel_rfl) rfl (by decide +kernel) (by kernel_rfl)
def k7c(a:Value):argsOk "set_iterator.__iter__" ⟨[a],[]⟩:=by unfold argsOk;kernel_rfl
def ZN(hh:A.handled=none)(h1:a≠it)(h2:tp≠it)(hd:o.data=.set es ep t)(T:jp prog w es t zs)(hp:ws.Perm es.toList):
  Walks prog w A it [it,a,tp] [it] es.size (λi v=>∃e,ws[i]?=some e/\v=e.2) (λi h=>∃first,h.get? it=some (pE first i a es.size ep)/\h.get? a=some o/\Way w h a tp es ep t ws i first) where
 sub:=λb hb=>by simp at hb;simp[hb]
 frame:=λi h h'⟨first,q1,q2,q3⟩k=>⟨first,k it (by simp) _ q1,k a (by simp) _ q2,q3.keep<|k tp<|by simp⟩
 item:=λi s Q E hi⟨first,q1,q2,q3⟩k=>by
  have wl:ws.length=es.size:=by simpa using hp.length_eq
  obtain⟨e,he⟩:∃e,ws[i]?=some e:=⟨ws[i]'(by lia),Ab _⟩;refine Mn q1 q2 hd T q3 h2 hp he λh' f' sb g1 g2=>?_;exact k _ h' s.toks ⟨e,he,rfl⟩ ⟨f',g1,by rwa[sb.2 a h1],g2⟩ λb o hb e=>by rwa[sb.2 b λh=>hb<|by simp[h]]
 done:=λs Q E⟨first,q1,q2,q3⟩k=>ly hh q1 q2 hd T q3 hp rfl λh' e=>k h' s.toks λb o hb e2=>e b o (λh=>hb<|by simp[h]) e2
 self:=λi s Q E⟨first,q1,q2,q3⟩k=>by
  have hT:s.TypeIs (.ref it) "set_iterator":=⟨_,q1,rfl⟩;refine KR hT Vg<|DR Vg hT k38 ?_<|k7c _;exact BP ⟨_,rfl,"set_iterator",_,hT,ge.lookup,k⟩
def Vf(a:Array<|Int×Value):(range a.size).map (λy=>(a[y]?).getD (0,Value.none))=a.toList:=by
 refine Fu (by simp) λj c b=>?_;rw[Cp,Ee];have:j<a.size:=by simpa using b
 rw[Dx this];simp
theorem q6w(l:s.heap.get? a=some o)(G:o.ExactSet)(hd:o.data=.set f n t)(T:jp prog w f t zs)
  (k:∀h' d it m ws first,(∀b u,s.heap.get? b=some u->h'.get? b=some u)->s.heap.objs.size<=it->it<h'.objs.size->m<h'.objs.size->(m=a\/s.heap.objs.size<=m)->m≠it->h'.get? it=some (pE first 0 a f.size n)->Way w h' a m f n t ws 0 first->ws.Perm f.toList->Q (.ref it) {s with heap:=h',drawn:=d}):
  ba prog w A (pyIter<|.ref a) Q E s:=by
 have v:s.TypeIs (.ref a) "set":=⟨o,l,G.1⟩;have x:=Ax l;refine KR v F.slot_set_iter<|DR F.slot_set_iter v k62 ?_<|F.args_set_iter_1 _;unfold Builtin.«frozenset.__iter__» slot0 slotArgs;simp only[Gz,Eu,Bk,↓reduceIte,bind_assoc,Fj,FW];unfold addrOf Builtin.Frozenset.sizeOf;refine BJ<|BP<|BJ<|BP ?_;refine BJ<|BJ<|JV l hd T.fits<|BP ?_;unfold setDrawn;refine BJ<|BJ<|CQ l hd T.fits ?_
 dsimp only
 refine BJ<|wp_text<|BP ?_
 by_cases c:(!c9 w && (!t.plain && decide (f.size>1)))=true
 ·show wpAny _ _ (if(!c9 w && (!t.plain && decide (f.size>1)))=true then _ else _) _ _ _;rw[BL c];refine BJ (L3 _ _ _ _ (by simp) λi d p=>?_);have z:i.length=f.size:=by simpa using p.length_eq
  refine BJ (QD ?_<|by rw[Aa,z];exact nN<|Bz T.iq);refine BJ<|KQ (Am _ l) hd T.fits ?_;refine BJ<|DN<|BP ⟨_,rfl,"set_iterator",_,⟨_,Az _ rfl,rfl⟩,ge.lookup,?_⟩;have H:(s.heap.push<|iu i).objs.size=s.heap.objs.size+1:=Dr ..;refine k _ d _ s.heap.objs.size (i.map λy=>(f[y]?).getD (0,Value.none)) (.ref s.heap.objs.size) (λb u e=>Am _<|Am _ e) (by show s.heap.objs.size<=(s.heap.push<|iu i).objs.size;omega) ?_ ?_ (.inr<|Aq _) ?_ (Az _ rfl) ?_ ?_
  ·show(s.heap.push<|iu i).objs.size<((s.heap.push<|iu i).push _).objs.size;simp only[Dr];omega
  ·show s.heap.objs.size<((s.heap.push<|iu i).push _).objs.size;rw[Dr,H];lia
  ·show s.heap.objs.size≠(s.heap.push<|iu i).objs.size;lia
  ·refine .drawn i (Am _<|Az _ rfl) z λj y B=>?_;have I:y<f.size:=by
    have:=p.mem_iff.mp<|An B
    simpa using this
   rw[Aj,B];show _=some ((f[y]?).getD (0,Value.none));rw[Dx I];rfl
  ·have:=p.map λy=>(f[y]?).getD (0,Value.none);rwa[Vf]at this
 ·show wpAny _ _ (if(!c9 w && (!t.plain && decide (f.size>1)))=true then _ else _) _ _ _;rw[C c];refine BJ<|BP ?_;refine BJ<|KQ l hd T.fits ?_;refine BJ<|DN<|BP ⟨_,rfl,"set_iterator",_,⟨_,Az _ rfl,rfl⟩,ge.lookup,?_⟩;have D:=λws J L=>k (s.heap.push<|pE (.int 0 0) 0 a f.size n) s.drawn s.heap.objs.size a ws (.int 0 0) (λb u e=>Am _ e) (Aq _) (by rw[Dr];exact Gh _) (by rw[Dr];exact Bz x) (.inl rfl) (Bw x) (Az _ rfl) J L;cases r:c9 w with
  |true=>exact D _ (.text 0 r rfl)<|U4 _ _
  |false=>
   have M:f.size<=1:=by
    obtain q|q:=T.plain
    ·rw[q];simp
    ·rw[r,q]at c;simp at c;exact c
   refine D f.toList (.one 0 r M rfl ?_)<|List.Perm.refl _;have O:=Vd T
   obtain h|h:=Dv f.size 1
   ·have:t.place=#[]:=Array.eq_empty_of_size_eq_zero (by omega);rw[this];rfl
   ·obtain⟨j,N⟩:=Vc (p:=t.place) (by omega);rw[N,Vb,C<|Ep _]
def Tw:typeLookup (.type "set") "__len__" = pure (some<|.builtin "set.__len__"):=F.slot_set_len.lookup
def q8l(b:s.TypeIs (.ref a) "set")(k:Q false s):ba prog w A (Builtin.List.listLengthHint<|.ref a) Q E s:=by
 unfold Builtin.List.listLengthHint;refine BJ<|SQ b Tw ?_
 dsimp only
 have c:splitId "set.__len__" = some ("set","__len__"):=by kernel_rfl
 rw[c]
 dsimp only
 refine BJ<|JR b sub_set_self ?_;simp;rw[BL]
 ·exact BJ<|KH b<|BP k
 ·decide +kernel
def DJ(hh:A.handled=none)(I:s.heap.get? a=some o)(y:o.ExactSet)(hd:o.data=.set l ep t)(T:jp prog w l t zs)
  (k:∀s'(acc:List<|Int×Value),(∀b u,s.heap.get? b=some u->s'.heap.get? b=some u)->s'.gens=s.gens->s'.os=s.os->s.heap.objs.size<s'.heap.objs.size->acc.Perm l.toList->Q (acc.map (·.2)) s'):ba prog w A (collect<|.ref a) Q E s:=by
 have J:=Ax I;unfold collect;refine BJ<|wpAny_runValue<|FN F.entry_proto_collect ?_;rw[FJ F.plain_proto_collect _];refine BJ<|JT<|BP ⟨IW F.plain_list_iadd _,FN F.entry_list_iadd ?_⟩;rw[FJ F.plain_list_iadd _];generalize f:s.heap.objs.size=L;have z:(s.heap.push {cls:= .type "list",data:= .seq ([]:Ó).toArray}).get? a=some o:=Am _ I;have B:(s.heap.push {cls:= .type "list",data:= .seq ([]:Ó).toArray}).get? L=some {cls:= .type "list",data:= .seq ([]:Ó).toArray}:=f▸(Az _ rfl)
 have hT:Shared.TypeIs {s with heap:=s.heap.push {cls:= .type "list",data:= .seq ([]:Ó).toArray}} (.ref a) "set":=⟨o,z,y.1⟩;show wpAny _ A.in1 (Builtin.List.listExtendWith (.ref L) (.ref a)<|.ref L) _ _ _;unfold Builtin.List.listExtendWith;refine BJ<|KH hT ?_;have n1:Builtin.List.listSameRef (.ref L) (.ref a)=false:=by
  have:L≠a:=f▸(De J)
  simp[Builtin.List.listSameRef,this]
 have n2:(Value.type "set" == Value.type "list")=false:=by decide
 have n3:(Value.type "set" == Value.type "tuple")=false:=by decide
 simp only[n1,n2,n3,Bool.or_false,Bk,CW];refine BJ<|q6w z y hd T λn d it D r first G Ml Ö fq rX bp gi W p=>?_;have M:=G a o z;have N:=G L _ B;have qB:(s.heap.push {cls:= .type "list",data:= .seq ([]:Ó).toArray}).objs.size=L+1:=by rw[Dr,f]
 refine BJ<|CK<|q8l ⟨o,M,y.1⟩ ?_;show wpAny _ A.in1 (rule "list.extend.makes-room" >>= λ_=>Builtin.List.listTouch (.ref L) >>= λ_=>again<|.builtin "list.extend.loop" ⟨[.ref L,.ref it,.ref L],[]⟩) _ _ _;refine BJ<|HS<|BJ ?_;show wpAny _ A.in1 (updateSeq L (·.push .none) >>= λ_=>updateSeq L (·.pop)) _ _ _;refine BJ<|wpAny_updateSeq N rfl ?_;have O:=Du (Obj.mapSeq (·.push Value.none)) N rfl;refine wpAny_updateSeq O rfl ?_;have x:∀b u,b≠L->n.get? b=some u->((n.update L (Obj.mapSeq (·.push Value.none))).update L (Obj.mapSeq (·.pop))).get? b=some u:=
  λb u i e=>(Cr _ _<|CG i).trans<|(Cr _ _<|CG i).trans e
 have yF:it≠L:=by grind
 have Vj:a≠L:=by rw[<-f];exact Bw J
 have H:a≠it:=by grind
 have Vk:D≠L:=by grind
 have rR:L∉[it,a,D]:=by grind
 refine BP ⟨IW F.plain_extend_loop _,codeAny_extend_loopS ((ZN (by simp[hh]) H bp hd T p).toS) (nN<|Bz T.iq) L rR (.ref L) l.size 0 _ _ _ rfl (By _) ⟨first,x it _ yF gi,x a _ Vj M,W.keep λu e=>x D u Vk e⟩ (Du (Obj.mapSeq (·.pop)) O rfl) (ItemsOf.nil _) λs' acc c m Y hI=>?_⟩;show wpAny _ A (load L >>= _) _ _ s';refine BJ<|wpAny_load Y ?_;have wl:r.length=l.size:=by simpa using p.length_eq
 have el:acc.toList=r.map (·.2):=by
  refine Dz λj=>?_;rw[Cc,Aj];cases hj:acc[j]? with
  |none=>
   have:r[j]?=none:=by
    rw[Bh];rw[wl,<-hI.1];exact Array.getElem?_eq_none_iff.mp hj
   rw[this];rfl
  |some v=>
   obtain⟨e,h1,n⟩:=hI.2 j v hj;rw[h1,n];rfl
 refine BP ?_;rw[el];refine k s' r (λb u e=>?_) m.gens m.os (f▸(Ax Y)) p;have i:=Ax e;have Vm:b≠L:=f▸(Bw i)
 have Mi:b≠it:=by
  intro q;have j7:L+1<=it:=by rwa[<-qB]
  rw[<-f,<-q]at j7;exact absurd j7<|Nat.not_le.mpr<|Bz i
 refine m.heap b u (λh=>?_)<|x b u Vm<|G b u<|Am _ e
 obtain h|h:=Ak.mp h
 ·exact Vm h
 ·exact Mi<|Ae.mp h
end
end bG
namespace bG
open PySem PySem.Spec PyProof.Rows
def Wl(a b:List Nat):ltCps a b=decide (a<b):=ltCps_eq a b
theorem fY:∀l p,risingS p l=true->∀x∈l,p.cps.toList<=x.cps.toList
 |[],_,_,x,a=>by cases a
 |y :: r,p,h,x,a=>by
  unfold risingS at h;rw[Bx,KY,Wl,HJ]at h;have b:=h.1
  obtain rfl|a:=Ak.mp a
  ·exact b
  ·exact List.le_trans b<|fY r y h.2 x a
theorem gU:∀{l},risingS p l=true->sortedS l=true
 |[],_=>rfl
 |y :: r,h=>by
  unfold risingS at h;rw[Bx]at h;exact h.2
def iw{a b:Str}(h:a.cps.toList=b.cps.toList):a=b:=by
 cases a;cases b;simp only at h;have:=Array.toList_inj.mp h;rw[this]
theorem Vn:∀(l:List<|Int×Value),(∀e∈l,rT prog w e)->StrsAre (l.map (·.2)) (l.map f8)
 |[],_=> .nil
 |e :: r,h=>by
  obtain⟨z,t,rfl⟩:=h e Ac;exact .cons z t<|Vn r λx a=>h x<|Af _ a
theorem k7k(x:A.handled=none)(S:aD prog w s.heap a zs)(O:zs.length<64)
  (k:∀s' l f e ss,(∀ b u,s.heap.get? b=some u->s'.heap.get? b=some u)->s'.gens=s.gens->s'.os=s.os->s.heap.objs.size<=l->s'.heap.get? l=some (seqObj "list" f e)->StrsAre f.toList ss->ss.Perm zs->sortedS ss=true->Q (.ref l) s'):
  ba prog w A (call (.builtin "sorted") [.ref a]) Q E s:=by
 obtain⟨o,Y,ep,t,y,z,hd,T⟩:=S;apply Calls.call_function_entry kind_sorted plain_sorted entry_sorted (args_sorted1 _);unfold Builtin.«sorted»;refine BJ<|BP ?_;refine BJ (DJ (by simp[x]) y z hd T λh c B g1 D G p=>?_);have m:=Vn c λe i=>T.elts e<|p.mem_iff.mp i;have d:(c.map (·.2)).length=zs.length:=by
  rw[Aa,p.length_eq,Cb,T.size]
 refine BJ (JT ?_<|d▸(nN<|by omega));have j:(h.heap.push (seqObj "list" (c.map (·.2)).toArray 0)).get? h.heap.objs.size=some (seqObj "list" (c.map (·.2)).toArray 0):=Az _ rfl;refine BJ (CK<|DR slot_list_sort ⟨_,j,rfl⟩ entry_list_sort (list_sort_treeK strKind_oneLt j m.keysOf (λn Í q e=>keyKind_strs<|by rwa[<-e]) (by rwa[d]) λfh H I=>⟨_,rfl,?_⟩)<|args_list_sort _);obtain⟨ss,J,L,M⟩:=sorted_out_str m H I;obtain⟨e,i⟩:=sortedHeap_at j;refine BP ⟨_,rfl,k _ _ _ e ss (λb u N=>?_) g1 D (Cv G) i J (L.trans<|(p.map f8).trans T.keys) M⟩;have r:=B b u N;have v:=Ax r;show(sortedHeap (h.heap.push _) h.heap.objs.size _ _).get? b=some u;rw[sortedHeap_old (Bw v)<|by rw[size_push'];exact Bz v];exact Am _ r
end bG
namespace L2
open PySem PySem.Spec PyProof.Rows bG
def bu(prog:Program)(w:World)(a:Addr)(zs:Ñ):HO:= .ext λh=>aD prog w h a zs
def be.like(I:be X a c H s)(e1:s'.heap=s.heap)(e2:s'.gens=s.gens)(b:s'.os=s.os):be X a c H s':=by
 obtain⟨h,g,d,t,o⟩:=s;obtain⟨e,f,i,j,k⟩:=s';simp only at e1 e2 b;subst e1 e2 b;exact⟨I.ok,I.os,I.bare,I.base,I.loc,I.cell,I.free,I.cH,I.pin,I.aP,I.len⟩
def be.g7(I:be X c d H s)(k:∀b u,s.heap.get? b=some u->s'.heap.get? b=some u)(e2:s'.gens=s.gens)(e:s'.os=s.os)(f:s.heap.objs.size<=a)(new:aI X.prog X.w (upd H a o) s'.heap a o):be X c d (upd H a o) s':=
 (I.laid (t':=s.toks) k f new).like rfl e2 e
def wH{X:Cx}(S:aD X.prog X.w h a zs):aI X.prog X.w H h a (bu X.prog X.w a zs):=by
 refine⟨S,?_,λc d q k=>q.keep k⟩;obtain⟨o,_,_,_,b,_⟩:=S;exact⟨o,b⟩
def be.set(I:be X b c H s)(h:H a=some (bu X.prog X.w a zs)):aD X.prog X.w s.heap a zs:=(I.aP a _ h).1
theorem Vo:∀{zs:Ñ}{us:Ó},aC (zs.map V.str) us->∀(i:Nat)v,us[i]?=some v->∃z t,zs[i]?=some z/\v=Value.str z t
 |[],_,.nil,i,v,h=>by simp at h
 |z :: r,_,.cons q a,0,v,h=>by
  obtain⟨t,e⟩:=q;simp at h;exact⟨z,t,rfl,h ▸ e⟩
 |z :: r,_,.cons q a,i+1,v,h=>by
  simp only[Eh]at h ⊢;exact Vo a i v h
theorem Mm:∀{zs}{us},aC (zs.map V.str) us->StrsAre us zs
 |[],_,.nil=> .nil
 |z :: r,_,.cons q a=>by
  obtain⟨t,rfl⟩:=q;exact .cons z t<|Mm a
theorem Mp:∀{us}{zs},StrsAre us zs->aC (zs.map V.str) us
 |_,_,.nil=> .nil
 |_,_,.cons z t q=> .cons ⟨t,rfl⟩<|Mp q
inductive eY(X:Cx)(xs:List V)(H:Hp)(Q:VK):Prop
 |mk (p zs:_)(_:xs=[.ref p])(_:av X.K H p<|zs.map V.str)(_:zs.length<900)(_:∀a,H a=none->Q (.ref a) (upd H a<|bu X.prog X.w a<|made zs))
def Vp{X:Cx}(c:X.calm=true):i7 X (.type "set") (eY X):=by
 intro a s o H xs us Q I r h;obtain⟨p,zs,rfl,d,t,q⟩:=h;obtain⟨u,rfl,e⟩:=io r;cases (show u=Value.ref p from e);obtain⟨f,rv,j,w⟩:=I.list d;have b:=rv.length;rw[Aa]at b;refine k4 (I.ok.hd c) j.isList (λi v k=>Vo rv i v<|by simpa using k) (by simpa using b) (by simp;lia) λl m n S=>?_;exact⟨.ref _,_,I.g7 (s':={s with heap:=l,toks:=m}) n rfl rfl (Aq _) (wH S),rfl,q _<|I.aP.fresh<|Aq _⟩
inductive ix(X:Cx)(x y:V)(H:Hp)(Q:VK):Prop
 |mk (a b za zb:_)(_:x=.ref a)(_:y=.ref b)(_:H a=some (bu X.prog X.w a za))(_:H b=some (bu X.prog X.w b zb))(_:za.length<64)(_:zb.length<64)(_:∀c zc,H c=none->zc.Nodup->(∀y,y∈zc↔(if y∈za then y∉zb else y∈zb))->Q (.ref c) (upd H c<|bu X.prog X.w c zc))
def xV:dN X (binaryOp .BitXor) (ix X):=by
 intro c s p H x y v u Q I e f h;obtain⟨a,b,r,t,rfl,rfl,i,j,k,l,q⟩:=h;cases e;cases f;refine x2 (I.set i) (I.set j) k l λw d n o S m=>?_;exact⟨.ref _,_,I.g7 o rfl rfl (Aq _) (wH S),rfl,q _ n (I.aP.fresh<|Aq _) S.nodup m⟩
inductive dw(X:Cx)(xs:List V)(H:Hp)(Q:VK):Prop
 |mk (p zs:_)(_:xs=[.ref p])(_:H p=some (bu X.prog X.w p zs))(_:zs.length<64)(_:∀l ss,H l=none->ss.Perm zs->sortedS ss=true->Q (.ref l) (upd H l<|.lst<|ss.map V.str))
theorem Vq(i:X.calm=true):i7 X (.builtin "sorted") (dw X):=by
 intro b s z H xs us Q I r h;obtain⟨p,zs,rfl,j,k,q⟩:=h;obtain⟨u,rfl,m⟩:=io r;cases (show u=Value.ref p from m);refine k7k (I.ok.hd i) (I.set j) k λn l a e ss o t v c w x d y=>?_;have f:ss.length<=sizeLine:=d.length_eq▸(nN<|by omega)
 refine⟨.ref _,_,I.g7 o t v c (show aI X.prog X.w _ n.heap l (.lst<|ss.map V.str) from⟨by rwa[Aa],a.toList,e,Mp x,w⟩),rfl,q _ ss (I.aP.fresh c) d y⟩
inductive db(X:Cx)(xs:List V)(H:Hp)(Q:VK):Prop
 |mk (p zs:_)(_:xs=[.ref p])(_:av X.K H p<|zs.map V.str)(_:zs.length<64)(_:∀l ss,H l=none->ss.Perm zs->sortedS ss=true->Q (.ref l) (upd H l<|.lst<|ss.map V.str))
theorem Mq:i7 X (.builtin "sorted") (db X):=by
 intro d s w H xs us Q I r h;obtain⟨p,zs,rfl,j,x,q⟩:=h;obtain⟨u,rfl,k⟩:=io r;cases (show u=Value.ref p from k);obtain⟨c,rv,l,y⟩:=I.list j;have m:=rv.length;rw[Aa]at m;refine PyProof.Rows.sorted_strs l.isList (Mm rv) (by lia) λa ss n f o=>?_;obtain⟨e,t⟩:=sortedAll_at s.heap c a;have i:ss.length<=sizeLine:=f.length_eq▸(nN<|by omega)
 refine⟨.ref _,_,I.g7 (λb u v=>sortedAll_old v) rfl rfl (Fm _) (show aI X.prog X.w _ _ _ (.lst<|ss.map V.str) from⟨by rwa[Aa],a.toList,e,Mp n,t⟩),rfl,q _ ss (I.aP.fresh<|Fm _) f o⟩
end L2
namespace L2
open PySem PySem.Spec PyProof.Rows
def mH(h:Ev X o f H λx c=>∃l,x=.ref l/\(∃xs,c l=some (.lst xs))/\Ev X e f c λy d=>∃xs,d l=some (.lst xs)/\xs.length<sizeLine/\Q .non (upd d l<|.lst<|xs++[y]))
  (i:attributeBase o "append" X.env (eval o X.env)=eval o X.env:=by rfl)
  (j:((backTo b<|starEach [e] X.env).all (λx=>!x.1) && (backToKw b<|keywordEach [] X.env).all (λx=>x.1.isSome) && decide ([e].length+([]:List Keyword).length+(if([]:List Keyword).isEmpty then 0 else 1)<30))=true:=by rfl)
  (a:(ap.endLine == b.line)=true:=by rfl) (k:starEach [e] X.env=(false,eval e X.env):: starEach [] X.env:=by rfl) (m:(backTo b<|starEach [] X.env).any (·.1)=false:=by rfl) (n:ff e=false:=by rfl):
  Ev X (.Call (.Attribute o "append" ap) [e] [] b) f H Q:=by
 refine fj (KO DG PySem.F.slot_list_append PySem.F.type_list_append Ub bB (lP) i j a k m)<|h.mono λx c⟨l,p,⟨xs,r⟩,s⟩=>?_;subst p;refine⟨.inl ⟨rfl,xs,av.of r⟩,?_⟩;exact ai (s.mono λy d⟨t,u,v,q⟩=>aA ⟨l,t,y,rfl,rfl,u,v,q⟩) n
def fg.nx{D:wp}(h:fg X l {D with nx:=M} c H)(f:∀a H',M a H'->d a H'):fg X l {D with nx:=d} c H:=
 ⟨λb s I => aO (h.run b s I) λe j q => by
  cases e with
  |next=>
   obtain⟨a,H',i,m⟩:=q;exact⟨a,H',i,f a H' m⟩
  |_=>exact q⟩
def Vr(d ψ:Prop)(M:St->Hp->Prop)(h:∀T:Bool->Hp->Prop,(∀k:Bool,(k=true->d)->(k=false->ψ)->T k H)->Et X c e H T)(i:d->fg X body {D with nx:=M} e H)(j:ψ->fg X l {D with nx:=M} e H)
  (f:∀a H',M a H'->fg X b D a H'):fg X (.If c body l pos :: b) D e H:=
 UD d ψ h (λp=>(i p).nx f) (λp=>(j p).nx f)
def uB(X:Cx)(H:Hp)(k:Nat)(x y:V)(b:Bool):Prop:=∀a c s A u v,be X a c H s->A.units+k<cLine->br x u->br y v->SeqAt.EqAt A s u v b
def yH(X:Cx)(H:Hp)(k:Nat)(x y:V)(b:Bool):Prop:=∀a c s A u v,be X a c H s->A.units+k<cLine->br x u->br y v->SeqAt.RcAt A s u v b
def wI(X:Cx)(H:Hp)(k:Nat)(x y:V)(b:Bool):Prop:=∀a c s A u v,be X a c H s->A.units+k<cLine->br x u->br y v->SeqAt.RcNeAt A s u v (!b)
def FL(a:m9 x=true)(b:m9 y=true):uB X H k x y (dv x y):=λ_ _ _ _ _ _ _ _ c d=>T4 c d a b
def rZ(r:aC xs us)(h:j<us.length):∃x,xs[j]?=some x/\br x us[j]:=by
 have b:=r.length;have a:j<xs.length:=by lia
 obtain⟨u,e,q⟩:=r.get<|Ab a;rw[Ab h]at e;cases e;exact⟨_,Ab a,q⟩
theorem x3s(e:Nat->Bool)(h:av X.K H a xs)(i:av X.K H b ys)(J:xs.length=ys.length)(l:∀j x y,xs[j]?=some x->ys[j]?=some y->uB X H k x y (e j)):yH X H (k+1) (.ref a) (.ref b) ((range xs.length).all e):=λc m s A u v I L n o=>by
 cases n;cases o;obtain⟨M,d,p,_⟩:=I.list h;obtain⟨N,f,r,_⟩:=I.list i;have t:=d.length;have O:=f.length;have q:=SeqAt.RcAt.lists (A:=A) p.isList r.isList (by simp;omega) (by omega) λj w z=>by
  obtain⟨x,B,D⟩:=rZ d (by simpa using w);obtain⟨y,E,G⟩:=rZ f (by simpa using z);exact l j x y B E c m s A.in1 _ _ I (by show A.units+1+k<cLine;omega) (by simpa using D)<|by simpa using G
 rwa[Bc,<-t]at q
theorem Mr(e:Nat->Bool)(h:av X.K H a xs)(i:av X.K H b ys)(J:xs.length=ys.length)(l:∀j x y,xs[j]?=some x->ys[j]?=some y->uB X H k x y (e j)):wI X H (k+1) (.ref a) (.ref b) ((range xs.length).all e):=λc m s A u v I L n o=>by
 cases n;cases o;obtain⟨M,d,p,_⟩:=I.list h;obtain⟨N,f,r,_⟩:=I.list i;have t:=d.length;have O:=f.length;have q:=SeqAt.RcNeAt.lists (A:=A) p.isList r.isList (by simp;omega) (by omega) λj w z=>by
  obtain⟨x,B,D⟩:=rZ d (by simpa using w);obtain⟨y,E,G⟩:=rZ f (by simpa using z);exact l j x y B E c m s A.in1 _ _ I (by show A.units+1+k<cLine;omega) (by simpa using D)<|by simpa using G
 rwa[Bc,<-t]at q
def x3t(d:av X.K H a xs)(e:av X.K H b ys)(n:xs.length≠ys.length):yH X H k (.ref a) (.ref b) false:=λc o s A u v I p f h=>by
 cases f;cases h;obtain⟨q,i,j,_⟩:=I.list d;obtain⟨r,l,m,_⟩:=I.list e;have t:=i.length;have w:=l.length;exact SeqAt.RcAt.lists_lengths j.isList m.isList (by simp;lia)<|by lia
def Mt(d:av X.K H a xs)(e:av X.K H b ys)(n:xs.length≠ys.length):wI X H k (.ref a) (.ref b) false:=λc o s A u v I p f h=>by
 cases f;cases h;obtain⟨q,i,j,_⟩:=I.list d;obtain⟨r,l,m,_⟩:=I.list e;have t:=i.length;have w:=l.length;exact SeqAt.RcNeAt.lists_lengths j.isList m.isList (by simp;lia)<|by lia
theorem oq(e:Nat->Bool)(i:aU X.K H a xs)(l:aU X.K H b ys)(d:xs.length=ys.length)(m:∀j x y,xs[j]?=some x->ys[j]?=some y->uB X H k x y (e j)):yH X H (k+1) (.ref a) (.ref b) ((range xs.length).all e):=λc n s A u v I L o p=>by
 cases o;cases p;obtain⟨M,f,r,_⟩:=I.tuple i;obtain⟨N,h,t,_⟩:=I.tuple l;have w:=h.length;have q:=SeqAt.RcAt.tuples (A:=A) r t (by omega) λj z B=>by
  obtain⟨x,D,E⟩:=rZ f (by simpa using z);obtain⟨y,G,J⟩:=rZ h (by simpa using B);exact m j x y D G c n s A.in1 _ _ I (by show A.units+1+k<cLine;omega) (by simpa using E)<|by simpa using J
 rw[Bc,Bc,<-f.length,<-w,d,Nat.min_self,<-d]at q
 simpa using q
inductive nR(X:Cx)(x y:V)(H:Hp)(Q:VK):Prop
 |mk (k c:_)(_:k<=100)(_:yH X H k x y c)(_:Q (.bl c) H)
def Mc(i:X.A.units+100<cLine):dN X (compareOp .Eq) (nR X):=by
 intro a s b H x y v u Q I d e h;obtain⟨k,c,j,f,q⟩:=h;exact f a b s X.A v u I (by lia) d e X.prog X.w X.xe _ ⟨.bl c,H,I,rfl,q⟩
inductive nS(X:Cx)(x y:V)(H:Hp)(Q:VK):Prop
 |mk (k c:_)(_:k<=100)(_:wI X H k x y c)(_:Q (.bl (!c)) H)
def yI(i:X.A.units+100<cLine):dN X (compareOp .NotEq) (nS X):=by
 intro a s b H x y v u Q I d e h;obtain⟨k,c,j,f,q⟩:=h;exact f a b s X.A v u I (by lia) d e X.prog X.w X.xe _ ⟨.bl (!c),H,I,rfl,q⟩
theorem Vs(e:Nat->Bool)(i:aU X.K H a xs)(l:aU X.K H b ys)(d:xs.length=ys.length)(m:∀j x y,xs[j]?=some x->ys[j]?=some y->uB X H k x y (e j)):wI X H (k+1) (.ref a) (.ref b) ((range xs.length).all e):=λc n s A u v I L o p=>by
 cases o;cases p;obtain⟨M,f,r,_⟩:=I.tuple i;obtain⟨N,h,t,_⟩:=I.tuple l;have w:=h.length;have q:=SeqAt.RcNeAt.tuples (A:=A) r t (by omega) λj z B=>by
  obtain⟨x,D,E⟩:=rZ f (by simpa using z);obtain⟨y,G,J⟩:=rZ h (by simpa using B);exact m j x y D G c n s A.in1 _ _ I (by show A.units+1+k<cLine;omega) (by simpa using E)<|by simpa using J
 rw[Bc,Bc,<-f.length,<-w,d,Nat.min_self,<-d]at q
 simpa using q
def Vt{Ty id:String}(c:PlainAttrs Ty)(slot:Slot Ty name id)(d:typeOf (.builtin id)=pure (.type "method_descriptor"))(e:yh X id r)
  (h:Ev X o f H λx b=>qg X.K Ty x b/\r x [] b Q) (i:attributeBase o name X.env (eval o X.env)=eval o X.env:=by rfl) (a:(ap.endLine == j.line)=true:=by rfl):Ev X (.Call (.Attribute o name ap) [] [] j) f H Q:=
 fj (Tk c slot d e bB i a) h
def yJ{Ty id:String}(i:PlainAttrs Ty)(slot:Slot Ty name id)(j:typeOf (.builtin id)=pure (.type "method_descriptor"))(k:yh X id r)
  (h:Ev X o d H λx c=>qg X.K Ty x c/\Ev X e d c λy f=>r x [y] f Q) (l:attributeBase o name X.env (eval o X.env)=eval o X.env:=by rfl)
  (m:((backTo b<|starEach [e] X.env).all (λx=>!x.1) && (backToKw b<|keywordEach [] X.env).all (λx=>x.1.isSome) && decide ([e].length+([]:List Keyword).length+(if([]:List Keyword).isEmpty then 0 else 1)<30))=true:=by rfl)
  (a:(ap.endLine == b.line)=true:=by rfl) (n:starEach [e] X.env=(false,eval e X.env):: starEach [] X.env:=by rfl) (p:(backTo b<|starEach [] X.env).any (·.1)=false:=by rfl) (s:ff e=false:=by rfl):Ev X (.Call (.Attribute o name ap) [e] [] b) d H Q:=
 fj (KO i slot j k bB (lP) l m a n p) (h.mono λx c⟨t,u⟩=>⟨t,ai (u.mono λy f q=>aA q) s⟩)
def FO{Ty id:String}(l:PlainAttrs Ty)(slot:Slot Ty name id)(m:typeOf (.builtin id)=pure (.type "method_descriptor"))(n:yh X id r)
  (h:Ev X o c H λx d=>qg X.K Ty x d/\Ev X e c d λy j=>Ev X f c j λz k=>r x [y,z] k Q) (p:attributeBase o name X.env (eval o X.env)=eval o X.env:=by rfl)
  (s:((backTo b<|starEach [e,f] X.env).all (λx=>!x.1) && (backToKw b<|keywordEach [] X.env).all (λx=>x.1.isSome) && decide ([e,f].length+([]:List Keyword).length+(if([]:List Keyword).isEmpty then 0 else 1)<30))=true:=by rfl)
  (a:(ap.endLine == b.line)=true:=by rfl) (u:starEach [e,f] X.env=(false,eval e X.env):: starEach [f] X.env:=by rfl) (v:(backTo b<|starEach [f] X.env).any (·.1)=false:=by rfl) (w:ff e=false:=by rfl) (i:ff f=false:=by rfl):Ev X (.Call (.Attribute o name ap) [e,f] [] b) c H Q:=
 fj (KO l slot m n bB (lP) p s a u v) (h.mono λx d⟨t,A⟩=>⟨t,ai (A.mono λy j B=>ai (B.mono λz k q=>aA q) i) w⟩)
def insertAt(xs:List V)(i:Nat)(y:V):List V:=xs.take i++y :: xs.drop i
inductive qC(x:V)(vs:List V)(H:Hp)(Q:VK):Prop
 |mk (l xs i y:_)(_:x=.ref l)(_:vs=[.int i,y])(_:H l=some (.lst xs))(_:0<=i)(_:i.toNat<=xs.length)(_:xs.length<sizeLine)(_:Q .non<|upd H l<|.lst<|insertAt xs i.toNat y)
def q7k(a:0<=i)(h:i<=16777216):¬(!Builtin.List.listFitsIndex i)=true:=by
 have e:Builtin.List.listFitsIndex i=true:=by
  rw[Builtin.List.listFitsIndex,Bx,CP,CP];lia
 rw[e];exact Av
theorem Vu:rL X "list.insert" qC:=by
 intro c s E H x G v us Q I f rv h;obtain⟨l,xs,i,y,rfl,rfl,d,j,J,L,q⟩:=h;cases f;obtain⟨u,b,rfl,m,o⟩:=rv.two;obtain⟨p,rfl⟩:=m;obtain⟨z,a,n,r,t,e⟩:=I.je d;have M:sizeLine=16777216:=DW;have w:a.toArray.size<=sizeLine:=by rwa[Bc,<-t]
 refine KN F.slot_list_insert ⟨_,e,rfl⟩ F.entry_list_insert (F.args_list_insert_3 _ _ _) (AutoSeq1.list_insert_list_int_val_1 l a.toArray n i p b (q7k j<|by omega) w) ⟨e,?_⟩;have A:(λxs:Array Value=>have k:=if i<0 then(i+(xs.size:Int)).toNat else min i.toNat xs.size;(xs.extract 0 k).push b++xs.extract k) a.toArray=(a.take i.toNat++b :: a.drop i.toNat).toArray:=by
  have B:¬ i<0:=by omega
  have D:min i.toNat a.length=i.toNat:=by omega
  simp only[B,CW,Bc,D];apply Array.ext';simp;exact Dg<|by simp
 refine⟨.non,_,I.ng d e A ((r.take i.toNat).append<|.cons o<|r.drop i.toNat) ?_,rfl,q⟩;rw[Ah,Au,Bm,Cy];lia
inductive qD(x:V)(vs:List V)(H:Hp)(Q:VK):Prop
 |mk (a kvs k y:_)(_:x=.ref a)(_:vs=[kV k,y])(_:H a=some (.dK kvs))(_:kvs.length<sizeLine)(_:((∃v,az kvs k=some v/\Q v H)\/(az kvs k=none/\Q y (upd H a<|.dK<|putK kvs k y))))
theorem Vv:rL X "dict.setdefault" qD:=by
 intro d s G H x J v us Q I m rv h;obtain⟨a,kvs,k,y,rfl,rfl,e,L,q⟩:=h;cases m;obtain⟨u,n,rfl,o,f⟩:=rv.two;obtain⟨z,hd,p,rel,i⟩:=K3 I.aP e;have M:=rel.length;refine call_meetsIn F.slot_dict_setdefault i.typeIs F.entry_dict_setdefault (F.args_dict_setdefault_3 _ _ _) (kt_meets_setdefault (eV X.prog X.w) a (rM o) hd n) ⟨p,i,by lia,λv r=>?_,λt w j A=>?_⟩
 ·have b:=rel.val k;rw[r]at b
  obtain⟨l,c,q⟩|⟨c,_⟩:=q
  ·rw[c]at b;exact⟨l,H,I.tok _,b,q⟩
  ·rw[c]at b;exact b.elim
 ·have b:=rel.val k;rw[t]at b
  obtain⟨l,c,_⟩|⟨c,q⟩:=q
  ·rw[c]at b;exact b.elim
  ·have B:∃q,w.get? a=some q:=let ⟨q,_,_,D,_⟩:=j;⟨q,D⟩
   have E:(putK kvs k y).length<=sizeLine:=by have:=jm kvs k y;omega
   exact⟨y,_,rN I (by rw[e];exact True.intro) A B<|K5 E hd (rel.put k f) j,f,q⟩
inductive ju(xs:List V)(H:Hp)(Q:VK):Prop
 |mk (b:Bool)(_:xs=[.bl b])(_:Q (.int (if b then 1 else 0)) H)
def Vw:i7 X (.type "int") ju:=by
 intro a s d H xs us Q I r h;obtain⟨b,rfl,q⟩:=h;obtain⟨u,rfl,c⟩:=io r;cases (show u=Value.bool b from c);exact call_int_bool ⟨.int (if b then 1 else 0),H,I.tok _,⟨_,rfl⟩,q⟩
def Vx(e:Bool->Hp->Prop)(M:St->Hp->Prop)(i:Et X c f H e)(j:∀a,e true a->fg X body {D with nx:=M} f a)(l:∀a,e false a->fg X m {D with nx:=M} f a)
  (h:∀b H',M b H'->fg X d D b H'):fg X (.If c body m pos :: d) D f H:=
 fk (i.mono λk a p=>by
  cases k with
  |true=>rw[BL rfl];exact(j a p).nx h
  |false=>rw[C Av];exact(l a p).nx h)
theorem uC(W:Nat->St->Hp->Prop)(k:W m0 f H)
  (turn:∀m f H,W m f H->Et X c f H λb i=>if b=true then fg X body {D with nx:=λa H'=>∃d,d<m/\W d a H',ct:=λa H'=>∃d,d<m/\W d a H',bk:=λa H'=>fg X e D a H'} f i else fg X e D f i)
  (l:PassesOwn (model X.prog X.w) X.A X.env X.xe:=by exact JW):fg X (.While c body [] pos :: e) D f H:=by
 refine nw (ML l qo ug) ⟨W,⟨m0,k⟩,λm j i n=>(turn m j i n).mono λb o q=>?_⟩;cases b with
 |true=>
  rw[BL rfl]at q;exact⟨λa H'=>∃d,d<m/\W d a H',λ_ _ h=>h,q⟩
 |false=>
  rwa[C Av]at q
def yK(h:∀p,H p=none->Q (.ref p) (upd H p<|.dK [])):Ev X (.Dict [] [] pos) a H Q:=fj q5b h
def Vy(h:∀p,H p=none->Q (.ref p) (upd H p<|.dT [])):Ev X (.Dict [] [] pos) a H Q:=fj DT h
def i0(d:X.A.units+1<cLine)(h:Ev X o b H λx f=>Ev X e b f λy c=>∃a v,x=.ref a/\bf c a y (some v)/\Q v c)(i:uc e:=by intro _ _;rfl):Ev X (.Subscript o e pos) b H Q:=fj (jA d bB bB i) h
def Vz(f:X.A.units+1<cLine)(h:Ev X e c H λy d=>Ev X o c d λx b=>∃a r,x=.ref a/\bf b a y r/\T r.isSome b)(i:behindInMarks .In o=false:=by with_unfolding_all rfl):Et X (.Compare e [.In] [o] pos) c H T:=
 wx (S9 (Zd f bB bB) i) (h.mono λy d j=>j.mono λx b⟨a,r,k,l,m⟩=>⟨a,r,k,l,_,rfl,m⟩)
def wJ(f:X.A.units+1<cLine)(h:Ev X e c H λy d=>Ev X o c d λx b=>∃a r,x=.ref a/\bf b a y r/\T (!r.isSome) b)(i:behindInMarks .NotIn o=false:=by with_unfolding_all rfl):Et X (.Compare e [.NotIn] [o] pos) c H T:=
 wx (S9 (Mw f bB bB) i) (h.mono λy d j=>j.mono λx b⟨a,r,k,l,m⟩=>⟨a,r,k,l,_,rfl,m⟩)
def qF(i:X.A.units+1<cLine)(h:Ev X f c H λv j=>Ev X o c j λx k=>Ev X e c k λy l=>∃a d,x=.ref a/\bO l a y v d/\fg X b D c d)(m:swapsWith f (some<|.Subscript o e n) pos.line X.env=pure false:=by rfl):
  fg X (.Assign [.Subscript o e n] f pos :: b) D c H:=nw (v7 i bB bB bB m) h
end L2
namespace bv
open PySem PySem.Spec PyProof.Rows
def lexLt(a b:Int×Int):Bool:=if a.1=b.1 then decide (a.2<b.2)else decide (a.1<b.1)
def k25(b:Bool)(x y:Value):keyLt' (tuples' b) x y=(do
  let xs <-Builtin.List.listItems x
  let ys <-Builtin.List.listItems y
  for ((p,q),i) in (xs.toList.zip ys.toList).zipIdx do
   if !(<-eqBool p q)then return <-oneLt' (b && i == 0) p q
  return xs.size<ys.size):=rfl
def Pr(h:Heap)(a:Addr)(p:Int×Int):Prop:=∃o n t u,h.get? a=some o/\o.cls=.type "tuple"/\o.data=.seq #[.int p.1 t,.int p.2 u] n
def VA(h:Q (decide (a=b)) s):ba prog w A (eqBool (.int a t)<|.int b u) Q E s:=by
 refine SeqAt.EqAt.int_int a t b u prog w E Q ?_;have e:(a == b)=decide (a=b):=rfl;rwa[e]
def x1w(h:Q (decide (a<b)) s):ba prog w A (oneLt' false (.int a t)<|.int b u) Q E s:=by
 rw[oneLt'_eq];simp only[Bk,CW];refine BJ ?_;show wpAny _ _ (compareOp .Lt (.int a t)<|.int b u) _ _ _;exact lt_int<|FT h
def q3n(d:Pr s.heap x p)(f:Pr s.heap y q)(h:Q (lexLt p q) s):ba prog w A (keyLt' (tuples' true) (.ref x)<|.ref y) Q E s:=by
 obtain⟨o,nx,i,j,k,r,l⟩:=d;obtain⟨t,u,ty,m,a,v,n⟩:=f;rw[k25];refine BJ<|PK k l<|BJ<|PK a n ?_;show wpAny _ _ (forIn [((Value.int p.1 i,Value.int q.1 ty),0),((Value.int p.2 j,Value.int q.2 m),1)] _ _ >>= _) _ _ _;rw[Fk];refine BJ<|BJ ?_
 dsimp only
 refine BJ<|VA ?_
 by_cases c:p.1=q.1
 ·rw[BW c];simp only[Eu,Bk,CW];refine BP ?_
  dsimp only
  rw[Fk];refine BJ ?_
  dsimp only
  refine BJ<|VA ?_
  by_cases b:p.2=q.2
  ·rw[BW b];simp only[Eu,Bk,CW];refine BP ?_
   dsimp only
   rw[List.forIn_nil];refine BP<|BP ?_;have e:lexLt p q=false:=by unfold lexLt;rw[BL c,b];simp
   rw[e]at h
   simpa using h
  ·rw[BR b];simp only[UW,DQ];refine BJ<|x1w<|BP ?_
   dsimp only
   refine BP<|BP ?_;have e:lexLt p q=decide (p.2<q.2):=by unfold lexLt;rw[BL c]
   rwa[e]at h
 ·rw[BR c];simp only[UW,DQ];refine BJ<|oneLt_int<|BP ?_
  dsimp only
  refine BP<|BP ?_;have e:lexLt p q=decide (p.1<q.1):=by unfold lexLt;rw[C c]
  rwa[e]at h
def xC:(#[x,y]:Array Value).size<=sizeLine+1:=by
 rw[DW];show 2<=_;decide
def q3m(v:Value):firstOfTuple' v=(do
  if(<-typeOf v) != .type "tuple" then return none
  return (<-Builtin.List.listItems v)[0]?):=rfl
def VC(b:Pr s.heap x p)(h:∀t,Q (some<|.int p.1 t) s):ba prog w A (firstOfTuple'<|.ref x) Q E s:=by
 obtain⟨c,nx,d,i,a,e,f⟩:=b;rw[q3m];refine BJ<|KH ⟨c,a,e⟩ ?_;rw[show(Value.type "tuple" != Value.type "tuple")=false by decide];simp only[Bk,CW];exact BJ<|PK a f<|BP<|h d
def q65(a:Pr s.heap x p)(b:Pr s.heap y q)(h:Q (tuples' true) s):ba prog w A (keyKind' #[.ref x,.ref y]) Q E s:=by
 rw[keyKind'_eq,show(#[.ref x,.ref y]:Array Value)=[.ref x,.ref y].toArray from rfl,List.mapM_toArray];refine BJ<|wpAny_map ?_;rw[List.mapM_cons];refine BJ<|VC a λt=>?_;rw[List.mapM_cons];refine BJ<|BJ<|VC b λu=>?_;rw[List.mapM_nil];refine BJ<|BP<|BP<|BP ?_;rw[BL<|by simp];refine BJ<|HS ?_;rw[oneTypeOnly'_eq];show wpAny _ _ ((Array.mapM typeOf [Value.int p.1 t,Value.int q.1 u].toArray >>= _) >>= _) _ _ _;rw[List.mapM_toArray];have c:[Value.int p.1 t,Value.int q.1 u].mapM typeOf=(pure [Value.type "int",Value.type "int"]:Sem _):=rfl;rw[c];refine BP ?_;have d:(if((#[Value.type "int",Value.type "int"]:Array Value).all λx=>x == (#[Value.type "int",Value.type "int"]:Array Value)[0])=true then some (#[Value.type "int",Value.type "int"]:Array Value)[0]else none)=some (Value.type "int"):=by
  rw[BL]
  ·rfl
  ·simp
 show Q (tuples'<|Option.any (λx=>x != Value.type "tuple") _) s;rwa[d]
def wp_at{st:SortSt}(c:kindOf st=tuples' true)(d:(arrOf st)[i]?=some (.ref x,.ref x))(e:(arrOf st)[j]?=some (.ref y,.ref y))(f:Pr s.heap x p)(k:Pr s.heap y q)(h:Q (some<|lexLt p q) st):
  wpS (model prog w) A E s (ltAt' i j) Q st:=by
 rw[ltAt'_eq];refine FQ<|wpS_get ?_;show wpS _ _ _ _ (elem' (arrOf st) i >>= λa=>elem' (arrOf st) j >>= λb=>lt' a b) Q st;rw[elem'_eq,elem'_eq,d,e];refine FQ<|JG<|FQ<|JG ?_;rw[lt'_eq];refine FQ<|wpS_get ?_;rw[c];refine FQ<|wpS_lift<|LR<|q3n f k ⟨rfl,?_⟩;exact JG h
def pG(x y:Addr)(p q:Int×Int):Array Keyed:=if lexLt q p then #[(.ref y,.ref y),(.ref x,.ref x)]else #[(.ref x,.ref x),(.ref y,.ref y)]
def jx(f:Pr s.heap x p)(j:Pr s.heap y q)
  (h:Q (some 2)<|SortSt.mk' (tuples' true) (pG x y p q) #[] 7 none):wpS (model prog w) A E s (countRun' 0 2) Q (SortSt.mk' (tuples' true) #[(.ref x,.ref x),(.ref y,.ref y)] #[] 7 none):=by
 rw[countRun0_eq];refine FQ ?_;unfold ascLoop;refine wpS_mono (PL (I:=λi c st=>st=SortSt.mk' (tuples' true) #[(.ref x,.ref x),(.ref y,.ref y)] #[] 7 none/\c=(none,i)/\(i=2->lexLt q p=false))
  (Q:=λc st=>st=SortSt.mk' (tuples' true) #[(.ref x,.ref x),(.ref y,.ref y)] #[] 7 none/\((c=(none,1)/\lexLt q p=true)\/(c=(none,2)/\lexLt q p=false))) ?_ ?_ ⟨rfl,rfl,λh=>by cases h⟩) ?_
 ·rintro i c st b d ⟨rfl,rfl,k⟩;have e:i=1:=by lia
  subst e;refine FQ<|wp_at rfl rfl rfl j f ?_
  dsimp only
  cases a:lexLt q p with
  |true=>
   rw[BL rfl];exact JG ⟨rfl,.inl ⟨rfl,rfl⟩⟩
  |false=>
   rw[C Av];exact JG ⟨rfl,rfl,λ_=>rfl⟩
 ·grind
 ·rintro c st ⟨rfl,⟨rfl,a⟩|⟨rfl,a⟩⟩
  ·dsimp only
   rw[C (by decide),C<|by decide];unfold descPart;refine FQ<|wpS_lift<|HS ⟨rfl,?_⟩;unfold descLoop;refine FQ (wpS_mono (PL (I:=λi c st=>c=(none,2,0)/\st=SortSt.mk' (tuples' true) #[(.ref x,.ref x),(.ref y,.ref y)] #[] 7 none) (λi c st b d _=>by lia) (λc st h=>h) ⟨rfl,rfl⟩) ?_);rintro c st ⟨rfl,rfl⟩
   dsimp only
   rw[C<|by decide];unfold tail3;refine FQ<|wpS_reverse ?_;unfold ascLoop;refine FQ (wpS_mono (PL (I:=λi c st=>c=(none,2)/\st=SortSt.mk' (tuples' true) #[(.ref y,.ref y),(.ref x,.ref x)] #[] 7 none) (λi c st b d _=>by lia) (λc st h=>h) ⟨rfl,rfl⟩) ?_);rintro c st ⟨rfl,rfl⟩
   dsimp only
   refine JG ?_;unfold pG at h;rwa[BL a]at h
  ·dsimp only
   rw[BL<|by decide];refine JG ?_;unfold pG at h;rwa[C<|by rw[a];exact Av]at h
def ql(a:Pr s.heap x p)(b:Pr s.heap y q)(h:∀st,arrOf st=pG x y p q->failedOf st=none->Q () st):
  wpS (model prog w) A E s sortRuns' Q (SortSt.mk' (tuples' true) #[(.ref x,.ref x),(.ref y,.ref y)] #[] 7 none):=by
 rw[sortRuns'_eq];refine FQ<|wpS_get ?_
 dsimp only
 have d:minRun' 2 2 0=2:=by rw[minRun'_succ,BL<|by decide]
 show wpS _ _ _ _ ((forIn [0:2] _ _) >>= _) _ _;refine FQ<|wpS_mono (PL (I:=λi c st=>(i=0/\c=(none,0)/\st=SortSt.mk' (tuples' true) #[(.ref x,.ref x),(.ref y,.ref y)] #[] 7 none)\/(1<=i/\c=(none,2)/\st=SortSt.mk' (tuples' true) (pG x y p q) #[(0,2,0)] 7 none))
  (Q:=λc st=>c=(none,2)/\st=SortSt.mk' (tuples' true) (pG x y p q) #[(0,2,0)] 7 none) ?_ ?_ (.inl ⟨rfl,rfl,rfl⟩)) ?_
 ·rintro i c st f j (⟨rfl,rfl,rfl⟩|⟨k,rfl,rfl⟩)
  ·dsimp only
   rw[C<|by show ¬(0>=2);decide];refine FQ ?_;show wpS _ _ _ _ (countRun' 0 2) _ _;refine jx a b ?_
   dsimp only
   rw[C<|by show ¬(2<minRun' 2 2 0);rw[d];decide];refine FQ<|wpS_get ?_;show wpS _ _ _ _ (modify _ >>= _) _ _;exact FQ<|wpS_modify<|JG<|.inr ⟨Aq _,rfl,rfl⟩
  ·dsimp only
   rw[BL<|by show 2>=2;decide];exact JG ⟨rfl,rfl⟩
 ·grind
 ·rintro c st ⟨rfl,rfl⟩
  dsimp only
  refine FQ<|wpS_mono (PL (I:=λ_ c st=>st=SortSt.mk' (tuples' true) (pG x y p q) #[(0,2,0)] 7 none/\c=(none,())) ?_ (λ_ _ e=>e) ⟨rfl,rfl⟩) ?_
  ·rintro i c st _ _ ⟨rfl,rfl⟩;refine FQ<|wpS_get ?_;rw[BL<|by show 1<=1;decide];exact JG ⟨rfl,rfl⟩
  ·rintro c st ⟨rfl,rfl⟩;exact JG<|h _ rfl rfl
def Ir(c:s.heap.get? a=some (seqObj "list" #[.ref x,.ref y] n))(d:a≠x)(f:a≠y)(B:Pr s.heap x p)(D:Pr s.heap y q)
  (h:P (.done<|.ret .none) {s with heap:=sortedHeap s.heap a [.ref x,.ref y] (if lexLt p q then #[.ref y,.ref x]else #[.ref x,.ref y])}):
  ba prog w A (Builtin.«list.sort» ⟨[.ref a],[(Str.ofString "reverse",.bool true)]⟩) P E s:=by
 rw[list_sort_rev];refine BJ<|PK c rfl<|BJ<|MF c rfl ?_;obtain⟨i,j⟩:∃ i,(s.heap.update a<|Obj.mapSeq λ_=>#[]).get? a=some (seqObj "list" #[] i):=⟨_,get?_update_seq c λ_=>#[]⟩;refine BJ<|QK j rfl<|BJ<|QD ?_;refine BJ<|JT<|CK ?_;have k:(((s.heap.update a<|Obj.mapSeq λ_=>#[]).push<|seqObj "tuple" [Value.ref x,Value.ref y].toArray 0).push<|seqObj "list" #[] 0).get? a=some (seqObj "list" #[] i):=
  Am _ (Am _ j)
 show ba prog w A _ P E {s with heap:=((s.heap.update a<|Obj.mapSeq λ_=>#[]).push<|seqObj "tuple" [Value.ref x,Value.ref y].toArray 0).push (seqObj "list" #[] 0)};have keep:∀ z r,a≠z->Pr s.heap z r->Pr (((s.heap.update a<|Obj.mapSeq λ_=>#[]).push<|seqObj "tuple" [Value.ref x,Value.ref y].toArray 0).push<|seqObj "list" #[] 0) z r:=by
  rintro z r G ⟨o,m,t,u,H,I⟩;exact⟨o,m,t,u,Am _<|Am _<|(Cr _ _ G).trans H,I⟩
 have l:=keep x p d B;have v:=keep y q f D
 dsimp only
 rw[BL rfl];refine BJ<|HS ?_;rw[C<|by show ¬(2<2);decide];refine BJ<|q65 l v ?_;rw[C<|by show ¬(2<2);decide];have J:(if true=true then((#[Value.ref x,Value.ref y]:Array Value).zip #[Value.ref x,Value.ref y]).reverse else(#[Value.ref x,Value.ref y]:Array Value).zip #[Value.ref x,Value.ref y])=#[(Value.ref y,Value.ref y),(Value.ref x,Value.ref x)]:=by
  rw[BL rfl];simp
 rw[J];refine BJ<|CZ (ql (Q:=λ_ st=>arrOf st=pG y x q p/\failedOf st=none) v l λst L M=>⟨L,M⟩) ?_ λ_ _ e=>e;rintro ⟨⟨⟩,b⟩ s' ⟨rfl,N,O⟩
 dsimp only
 have T:(if true=true then((arrOf b).map (·.2)).reverse else(arrOf b).map (·.2))=(if lexLt p q then #[.ref y,.ref x]else #[.ref x,.ref y]):=by
  rw[BL rfl,N];unfold pG
  split<;>simp
 refine BJ<|QK k rfl<|BJ (MF k rfl ?_ (hsz2:=by rw[T];split<;>exact xC));rw[O];simp only[FW,Bk,CW];refine BP ?_;have Y:(λ_:Array Value=>if True then((arrOf b).map (·.2)).reverse else(arrOf b).map (·.2))=λ_=>(if lexLt p q then #[.ref y,.ref x]else #[.ref x,.ref y]):=by grind
 rwa[Y]
def U7(j:s.heap.IsList l #[.ref x,.ref y])(c:Pr s.heap x p)(d:Pr s.heap y q)
  (h:∀h' e,(∀ b u,s.heap.get? b=some u->h'.get? b=some u)->h'.get? (s.heap.objs.size+1)=some (seqObj "list" (if lexLt p q then #[.ref y,.ref x]else #[.ref x,.ref y]) e)->Q (.ref<|s.heap.objs.size+1) {s with heap:=h'}):
  ba prog w A (call (.builtin "sorted") [.ref l] [(Str.ofString "reverse",.bool true)]) Q E s:=by
 refine call_function_entry_kw kind_sorted plain_sorted entry_sorted (args_sorted_rev _ _) ?_;unfold Builtin.«sorted»;refine BJ<|BP ?_;refine BJ<|collect_list j ?_;refine BJ<|JT ?_;have a:((s.heap.push<|seqObj "list" #[] 0).update s.heap.objs.size (Obj.mapSeq (·++[Value.ref x,Value.ref y].toArray))).objs.size=s.heap.objs.size+1:=by
  rw[Heap.size_update,size_push']
 have f:(((s.heap.push<|seqObj "list" #[] 0).update s.heap.objs.size (Obj.mapSeq (·++[Value.ref x,Value.ref y].toArray))).push<|seqObj "list" [Value.ref x,Value.ref y].toArray 0).get? (s.heap.objs.size+1)=some (seqObj "list" [Value.ref x,Value.ref y].toArray 0):=by
  rw[<-a];exact Az _ rfl
 have k:=let ⟨_,_,_,_,e,_⟩:=c;Ax e
 have n:=let ⟨_,_,_,_,e,_⟩:=d;Ax e
 have keep:∀ z r,Pr s.heap z r->Pr (((s.heap.push<|seqObj "list" #[] 0).update s.heap.objs.size (Obj.mapSeq (·++[Value.ref x,Value.ref y].toArray))).push<|seqObj "list" [Value.ref x,Value.ref y].toArray 0) z r:=by
  rintro z r ⟨o,m,t,u,i,v⟩;exact⟨o,m,t,u,Am _<|(Cr _ _<|De (Ax i)).trans<|Am _ i,v⟩
 show wpAny _ _ _ _ _ {s with heap:=((s.heap.push<|seqObj "list" #[] 0).update s.heap.objs.size (Obj.mapSeq (·++[Value.ref x,Value.ref y].toArray))).push (seqObj "list" [Value.ref x,Value.ref y].toArray 0)};rw[a];refine BJ<|CK<|wpAny_call_entry_kw slot_list_sort ⟨_,f,rfl⟩ entry_list_sort (Ir f (De<|Bz k) (De<|Bz n) (keep x p c) (keep y q d) ⟨_,rfl,?_⟩)<|args_list_sort_rev _ _;obtain⟨e,B⟩:=sortedAll_at s.heap [Value.ref x,Value.ref y] (if lexLt p q then #[.ref y,.ref x]else #[.ref x,.ref y]);exact BP ⟨_,rfl,h _ e (λb u D=>sortedAll_old D) B⟩
end bv
namespace L2
open PySem PySem.Spec PyProof.Rows bv
def VE(I:be X b l H s)(h:H a=some (.tup [.int i,.int j])):Pr s.heap a (i,j):=by
 obtain⟨c,r,d,_⟩:=I.tuple<|aU.of h;obtain⟨u,v,rfl,⟨t,rfl⟩,⟨e,rfl⟩⟩:=wS r;obtain⟨o,f,k,n,hd⟩:=d;exact⟨o,n,t,e,f,k,hd⟩
def k7d(B:X.mg "sorted" = none) (h:Ev X e w H λv f=>∃l x y a b c d,v=.ref l/\f l=some (.lst [.ref x,.ref y])/\f x=some (.tup [.int a,.int b])/\f y=some (.tup [.int c,.int d]) /\
   ∀r,f r=none->Q (.ref r) (upd f r<|.lst (if lexLt (a,b) (c,d)then [.ref y,.ref x]else [.ref x,.ref y]))) (D:Gl X "sorted":=by rfl)
  (i:backTo pos (starEach [e] X.env)=(false,eval e X.env):: backTo pos (starEach [] X.env):=by rfl) (E:(backTo pos<|starEach [e] X.env).any (·.1)=false:=by rfl) (G:ff e=false:=by rfl):
  Ev X (.Call (.Name "sorted" p) [e] [⟨some "reverse",.Constant (.bool true) j cp,z⟩] pos) w H Q:=by
 refine⟨λk s I=>?_⟩;refine KC<|wa I D B EY ?_;have J:Ea X [e] w H λA f=>∃l x y a b c d,A=[.ref l]/\f l=some (.lst [.ref x,.ref y])/\f x=some (.tup [.int a,.int b])/\f y=some (.tup [.int c,.int d]) /\
   ∀r,f r=none->Q (.ref r) (upd f r<|.lst (if lexLt (a,b) (c,d)then [.ref y,.ref x]else [.ref x,.ref y])):=
  ai (h.mono λv f⟨l,x,y,a,b,c,d,L,n⟩=>aA ⟨l,x,y,a,b,c,d,by rw[L],n⟩) G
 refine callWith_kw (aO (J.run pos k s I) λus s1⟨A,f,m,n,l,x,y,a,b,c,d,M,N,O,T,q⟩=>?_) i E;subst M;obtain⟨u,rfl,o⟩:=io n;cases (show u=Value.ref l from o);refine kws_cons<|BP<|kws_nil ?_;obtain⟨Y,r2,pl,_⟩:=m.list<|av.of N;obtain⟨u,v,rfl,o,rv⟩:=wS r2;cases (show u=Value.ref x from o);cases (show v=Value.ref y from rv);refine U7 pl.isList (VE m O) (VE m T) λh' e z i=>?_;refine⟨.ref _,_,m.g7 z rfl rfl (Fm _) (show aI X.prog X.w _ h' _ (.lst (if lexLt (a,b) (c,d)then [.ref y,.ref x]else [.ref x,.ref y]))from ?_),rfl,q _<|m.aP.fresh<|Fm _⟩
 split at i
 ·rename_i t;rw[BL t];exact⟨by show 2<=sizeLine;rw[DW];decide,[.ref y,.ref x],e,.cons rfl (.cons rfl .nil),i⟩
 ·rename_i t;rw[C t];exact⟨by show 2<=sizeLine;rw[DW];decide,[.ref x,.ref y],e,.cons rfl (.cons rfl .nil),i⟩
end L2
namespace Nt
open PySem
abbrev bc:=List<|Str×List Str
abbrev bi:=Nat×Nat
noncomputable def row(n:bc)(r:Nat):Ñ:=((n[r]?).map (·.2)).getD []
def aH(n:bc)(e:bi):Option Str:=(row n e.1)[e.2]?
def bh(r:Nat)(ts:Ñ)(p:Nat):List (Str×bi):=(ts.zipIdx p).map λx=>(x.1,(r,x.2))
noncomputable def eR(r:Nat):bc->List (Str×bi)
 |[]=>[]
 |a :: n=>bh r a.2 0++eR (r+1) n
def bg(n:bc):List (Str×bi):=eR 0 n
def ends(n:bc):List bi:=(bg n).map (·.2)
def ag(n:bc):Ñ:=n.flatMap (·.2)
def pos(n:bc)(z:Str):List bi:=((bg n).filter λx=>decide (x.1=z)).map (·.2)
def bV:(z,e)∈bh r ts p↔e.1=r/\p<=e.2/\ts[e.2-p]?=some z:=by
 rw[bh,Ag]
 constructor
 ·grind
 ·rintro ⟨a,b,c⟩;refine⟨(z,e.2),Gd.mpr ⟨b,c⟩,?_⟩;rw[<-a]
theorem ci:∀{n}{k}{z}{e},(z,e)∈eR k n↔k<=e.1/\(row n<|e.1-k)[e.2]?=some z
 |[],k,z,e=>by
  constructor
  ·intro h;cases h
  ·rintro ⟨_,h⟩;simp[row]at h
 |a :: n,k,z,e=>by
  rw[eR,Al,bV,ci]
  constructor
  ·rintro (⟨c,_,d⟩|⟨c,b⟩)
   ·refine⟨by lia,?_⟩;rw[show e.1-k=0 by lia]
    simpa[row]using d
   ·refine⟨by lia,?_⟩;rw[show e.1-k=(e.1-(k+1))+1 by lia]
    simpa[row]using b
  ·rintro ⟨c,b⟩
   obtain h|h:=Dv k e.1
   ·refine .inr ⟨h,?_⟩;rw[show e.1-k=(e.1-(k+1))+1 by lia]at b
    simpa[row]using b
   ·refine .inl ⟨by lia,By _,?_⟩;rw[show e.1-k=0 by lia]at b
    simpa[row]using b
def aY:(z,e)∈bg n↔aH n e=some z:=by
 unfold bg aH;rw[ci];simp
def af:e∈ends n↔∃z,aH n e=some z:=by
 rw[ends,Ag]
 constructor
 ·rintro ⟨⟨z,a⟩,h,rfl⟩;exact⟨z,aY.mp h⟩
 ·rintro ⟨z,h⟩;exact⟨(z,e),aY.mpr h,rfl⟩
def aJ:e∈pos n z↔aH n e=some z:=by
 rw[pos,Ag]
 constructor
 ·rintro ⟨⟨y,c⟩,h,rfl⟩;rw[Ao,CP]at h;obtain⟨a,b⟩:=h;subst b;exact aY.mp a
 ·intro h;exact⟨(z,e),Ao.mpr ⟨aY.mpr h,by simp⟩,rfl⟩
def eH(r:Nat):∀ts p,(bh r ts p).map (·.1)=ts:=by
 intro ts p;rw[bh,Bi];have:((λx:Str×bi=>x.1) ∘ λx:Str×Nat=>(x.1,(r,x.2)))=Prod.fst:=rfl;rw[this,List.zipIdx_map_fst]
theorem nU:∀n k,(eR k n).map (·.1)=ag n
 |[],_=>rfl
 |a :: n,k=>by
  unfold eR ag;rw[Ai,eH,nU n<|k+1,Cm];rfl
def j8v(r:Nat)(ts:Ñ)(p:Nat):((bh r ts p).map (·.2)).Nodup:=by
 rw[bh,Bi];have e:((λx:Str×bi=>x.2) ∘ λx:Str×Nat=>(x.1,(r,x.2)))=(λk:Nat=>(r,k)) ∘ Prod.snd:=rfl;rw[e,<-Bi,List.zipIdx_map_snd];refine GX _ ?_ List.nodup_range';intro a b h c;exact h (Prod.mk.inj c).2
theorem VI:∀n k,((eR k n).map (·.2)).Nodup
 |[],_=>Co
 |a :: n,k=>by
  rw[eR,Ai,Bj];refine⟨j8v _ _ _,VI n<|k+1,?_⟩;intro x c y d e;subst e;obtain⟨⟨z,i⟩,f,rfl⟩:=Ag.mp c;obtain⟨⟨j,l⟩,h,b⟩:=Ag.mp d;simp only at b;subst b;have m:=(bV.mp f).1;have o:=(ci.mp h).1;lia
def nV(n:bc):(ends n).Nodup:=VI n 0
def VM(n:bc)(z:Str):(pos n z).Nodup:=by
 unfold pos;exact(nV n).sublist<|List.Sublist.map _<|Hj
def qG(n:bc)(z:Str):(pos n z).length=(ag n).count z:=by
 rw[pos,Aa,<-nU n 0,<-List.countP_eq_length_filter,List.count,List.countP_map];rfl
def ao(n:bc):Prop:=∀z∈ag n,(ag n).count z=2
def dP(h:aH n e=some z):z∈ag n:=by
 have:=aY.mpr h;rw[<-nU n 0];exact Ag.mpr ⟨_,this,rfl⟩
def other(n:bc)(e:bi):bi:=match aH n e with
 | some z=>(match pos n z with
  |[a,b]=>if a=e then b else a
  |_=>e)
 |none=>e
theorem sf(T:ao n)(h:aH n e=some z):∃a b,pos n z=[a,b]/\a≠b/\(e=a\/e=b):=by
 have c:=qG n z;rw[T z<|dP h]at c;have f:=VM n z;have d:=aJ.mpr h
 match i:pos n z,c with
 |[a,b],_=>
  rw[i]at f d;refine⟨a,b,rfl,?_,?_⟩
  ·grind
  ·simpa using d
def cS(T:ao n)(h:aH n e=some z):aH n (other n e)=some z/\other n (other n e)=e/\other n e≠e:=by
 obtain⟨a,b,c,d,l⟩:=sf T h;have j:aH n a=some z:=aJ.mp (by rw[c];simp);have k:aH n b=some z:=aJ.mp<|by rw[c];simp
 obtain rfl|rfl:=l
 ·have f:other n e=b:=by unfold other;simp only[h,c];simp
  have i:other n b=e:=by unfold other;simp only[k,c];simp[d]
  rw[f];exact⟨k,i,d.symm⟩
 ·have f:other n e=a:=by unfold other;simp only[h,c];simp[d]
  have i:other n a=e:=by unfold other;simp only[j,c];simp
  rw[f];exact⟨j,i,d⟩
def left(n:bc)(e:bi):bi:=(e.1,(e.2+1)%(row n e.1).length)
def step(n:bc)(e:bi):bi:=left n (other n e)
def iy(h:aH n e=some z):e.2<(row n e.1).length:=(Ad.mp h).1
def dB(h:aH n e=some z):e.1<n.length:=by
 obtain c|c:=Dv e.1 n.length
 ·exact c
 ·have:=iy h;unfold row at this;rw[Bh c]at this;simp at this
def FU(h:e.2<(row n e.1).length):∃z,aH n e=some z:=⟨_,Ab h⟩
def Mv(h:e∈ends n):left n e∈ends n:=by
 obtain⟨z,h⟩:=af.mp h;have:=iy h;exact af.mpr<|FU (show(e.2+1)%(row n e.1).length<(row n e.1).length from Hm _<|by lia)
def cE(T:ao n)(h:e∈ends n):other n e∈ends n:=by
 obtain⟨z,h⟩:=af.mp h;exact af.mpr ⟨z,(cS T h).1⟩
def uE(T:ao n)(h:e∈ends n):step n e∈ends n:=Mv<|cE T h
def Of(i:a∈ends n)(j:b∈ends n)(h:left n a=left n b):a=b:=by
 obtain⟨z,i⟩:=af.mp i;obtain⟨y,j⟩:=af.mp j;have l:=iy i;have m:=iy j;unfold left at h;obtain⟨k,f⟩:=Prod.mk.inj h;rw[k]at l f;have:a.2=b.2:=by
  obtain c|c:=Dv (a.2+1) (row n b.1).length<;>obtain d|d:=Dv (b.2+1) (row n b.1).length
  ·rw[Ca c,Ca d]at f;lia
  ·have e:b.2+1=(row n b.1).length:=by lia
   rw[Ca c,e,Ec]at f;lia
  ·have e:a.2+1=(row n b.1).length:=by lia
   rw[Ca d,e,Ec]at f;lia
  ·lia
 exact FZ k this
def VO(T:ao n)(c:a∈ends n)(d:b∈ends n)(h:other n a=other n b):a=b:=by
 obtain⟨z,c⟩:=af.mp c;obtain⟨y,d⟩:=af.mp d;rw[<-(cS T c).2.1,h,(cS T d).2.1]
def VQ(T:ao n)(c:a∈ends n)(d:b∈ends n)(h:step n a=step n b):a=b:=
 VO T c d (Of (cE T c) (cE T d) h)
theorem aK[DecidableEq α]:∀{a b:List α},a.Nodup->(∀z∈a,z∈b)->a.length<=b.length
 |[],b,_,_=>By _
 |x :: r,b,c,d=>by
  rw[Bb]at c;have f:=d x Ac;have:=aK c.2 λz h=>by
   have i:z≠x:=λe=>c.1<|e ▸ h;exact(Fp i).mpr<|d z<|Af _ h
  rw[Ex f]at this;have j:0<b.length:=Fe f;rw[Au];lia
def it(f:α->α):Nat->α->α
 |0,a=>a
 |k+1,a=>f<|it f k a
theorem lR{S:List α}(b:∀a∈S,f a∈S)(h:a∈S):∀k,it f k a∈S
 |0=>h
 |k+1=>b _<|lR b h k
def yL{α:Type}[DecidableEq α]{f:α->α}{S:List α}(c:∀a∈S,f a∈S)(inj:∀a∈S,∀b∈S,f a=f b->a=b){a:α}(h:a∈S):∃k,0<k/\k<=S.length/\it f k a=a:=by
 have cancel:∀i j,it f i a=it f (i+j) a->it f j a=a:=by
  intro i
  induction i with
  |zero=>intro j e;rw[Es]at e;exact e.symm
  |succ i l=>
   intro j e;apply l j;rw[show i+1+j=(i+j)+1 by lia]at e;exact inj _ (lR c h i) _ (lR c h<|i+j) e
 refine CJ λm=>?_;have nd:((range<|S.length+1).map λi=>it f i a).Nodup:=by
  refine GX _ (R:=λi j=>i<j/\j<S.length+1) ?_ ?_
  ·rintro i j ⟨p,q⟩ e;refine m ⟨j-i,by lia,by lia,cancel i (j-i) ?_⟩;rwa[show i+(j-i)=j by lia]
  ·rw[Bs];intro i j r d n;simp;simp at d;exact⟨n,d⟩
 have:=aK nd λz o=>by
  obtain⟨i,_,rfl⟩:=Ag.mp o;exact lR c h i
 simp at this;lia
theorem lS:∀n r,(row n r).length<=(ag n).length
 |[],r=>by simp[row,ag]
 |a :: n,0=>by simp[row,ag]
 |a :: n,r+1=>by
  have:=lS n r;simp[row,ag]at this ⊢;lia
theorem VS:∀n r,(ag<|n.take r).length<=(ag n).length
 |[],r=>by simp[ag]
 |a :: n,0=>by simp[ag]
 |a :: n,r+1=>by
  have:=VS n r;simp[ag]at this ⊢;lia
structure iz(n:bc)(e:Nt.bi)(fs:List bi):Prop where
 pos:0<fs.length
 len:fs.length<=(ends n).length
 at':∀i,i<fs.length->fs[i]?=some (it (step n) i e)
 back:it (step n) fs.length e=e
 first:∀i,0<i->i<fs.length->it (step n) i e≠e
open L2
abbrev Ls(zs:Ñ):HO:= .lst<|zs.map V.str
abbrev Tp(e:bi):HO:= .tup [.int e.1,.int e.2]
structure aq(H:Hp)(R:Addr)(as:Ï)(n:bc):Prop where
 len:as.length=n.length
 lst:H R=some (.lst<|as.map λa=> .ref a.1)
 tup:∀(i:Nat)a r,as[i]?=some a->n[i]?=some r->H a.1=some (.tup [.str r.1,.ref a.2])/\H a.2=some (Ls r.2)
 inj:(as.map (·.2)).Nodup
def aq.same(h:aq H R as n)(s:aj H H'):aq H' R as n:=
 ⟨h.len,s _ _ h.lst,λi a r b c=>⟨s _ _ (h.tup i a r b c).1,s _ _ (h.tup i a r b c).2⟩,h.inj⟩
def aq.at(h:aq H R as n)(b:i<n.length):
  ∃a,as[i]?=some a/\gS (as.map λa=>V.ref a.1) (i:Int)=some (.ref a.1)/\H a.1=some (.tup [.str n[i].1,.ref a.2])/\H a.2=some (Ls<|row n i)/\row n i=n[i].2:=by
 have d:=h.len;have e:as[i]?=some as[i]:=Ab (by lia);have c:row n i=n[i].2:=by rw[row,Ab b];rfl
 have q:=h.tup i as[i] n[i] e<|Ab b;refine⟨as[i],e,wm (by rw[Aj,e];rfl),q.1,?_,c⟩;rw[c];exact q.2
def yM{zs:Ñ}{j:Nat}(h:zs[j]?=some z):gS (zs.map V.str) (j:Int)=some (.str z):=wm<|by rw[Aj,h];rfl
inductive Pd(H:Hp):List Addr->List bi->Prop where
 |nil:Pd H [] []
 |cons {t:Addr} {e:bi} {ts:List Addr} {es:List bi}:H t=some (Tp e)->Pd H ts es->Pd H (t :: ts) (e :: es)
theorem Pd.append(h:Pd H ts a)(g:Pd H us b):Pd H (ts++us) (a++b):=by
 induction h with
 |nil=>exact g
 |cons c _ d=>exact .cons c d
theorem Pd.keep(h:Pd H ts a)(k:∀t e,H t=some (Tp e)->H' t=some (Tp e)):Pd H' ts a:=by
 induction h with
 |nil=>exact .nil
 |cons b _ c=>exact .cons (k _ _ b) c
theorem Pd.length(h:Pd H ts a):ts.length=a.length:=by
 induction h with
 |nil=>rfl
 |cons _ _ b=>rw[Au,Au,b]
theorem Pd.at(h:Pd H ts a):∀{i:Nat}{e:bi},a[i]?=some e->∃t,ts[i]?=some t/\H t=some (Tp e):=by
 induction h with
 |nil=>intro i e h;simp at h
 |cons b _ c=>
  intro i e h;cases i with
  |zero=>simp at h;subst h;exact⟨_,rfl,b⟩
  |succ i=>simp only[Eh]at h ⊢;exact c h
def bq(done:List<|Str×bi)(z:Str):List bi:=(done.filter λx=>decide (x.1=z)).map (·.2)
def dQ(done:List<|Str×bi)(y z:Str)(e:bi):bq (done++[(y,e)]) z=bq done z++(if y=z then [e]else []):=by
 rw[bq,Cf,Ai]
 congr 1
 by_cases h:y=z
 ·rw[BL h];simp[h]
 ·rw[C h];simp[h]
structure bo(H0 H:Hp)(d:Addr)(done:List<|Str×bi)(kvs:List<|Key×V)(ks:Ñ)(A:Str->Option (Addr×List Addr)):Prop where
 same:aj H0 H
 free:H0 d=none
 dict:H d=some (.dK kvs)
 keys:kvs.map (·.1)=ks.map Sum.inr
 nodup:ks.Nodup
 mem:∀z,z∈ks↔(A z).isSome=true
 val:∀z,az kvs (Sum.inr z)=(A z).map λa=> .ref a.1
 at':∀z a ts,A z=some (a,ts)->H0 a=none/\a≠d/\H a=some (.lst<|ts.map V.ref)/\Pd H ts (bq done z)
 inj:∀z y a ts us,A z=some (a,ts)->A y=some (a,us)->z=y
 jv:∀z,A z=none->bq done z=[]
 some':∀z a ts,A z=some (a,ts)->bq done z≠[]
def bo.start(h:H d=none):bo H (upd H d<|.dK []) d [] [] [] (λ_=>none) where
 same:=λb u q=>by rwa[ax<|bz q h]
 free:=h
 dict:=ay
 keys:=rfl
 nodup:=Co
 mem:=λz=>by simp
 val:=λz=>rfl
 at':=λz a ts h=>by cases h
 inj:=λz y a ts us h=>by cases h
 jv:=λz _=>rfl
 some':=λz a ts h=>by cases h
def yN{H:Hp}(h:H t=some (Tp e))(g:H a=some (.lst xs)):t≠a:=cm h g λz=>nomatch z
def bo.old(S:bo B H d done kvs ks A)
  (l:A z=some (a,ts)) (D:H m=none) (p:(upd H m<|.lst []) t=none):
  bo B (upd (upd (upd H m<|.lst []) t<|Tp e) a<|.lst<|ts.map V.ref++[.ref t]) d (done++[(z,e)]) kvs ks (λy=>if y=z then some (a,ts++[t])else A y):=by
 obtain⟨r,s,v,E⟩:=S.at' z a ts l;have w:H t=none:=by
  by_cases c:t=m
  ·rw[c,ay]at p;cases p
  ·rwa[ax c]at p
 have keep:∀b u,b≠a->H b=some u->(upd (upd (upd H m<|.lst []) t<|Tp e) a<|.lst<|ts.map V.ref++[.ref t]) b=some u:=λb u j i=>by
  rwa[ax j,ax<|bz i w,ax<|bz i D]
 have x:∀b f,H b=some (Tp f)->(upd (upd (upd H m<|.lst []) t<|Tp e) a<|.lst<|ts.map V.ref++[.ref t]) b=some (Tp f):=λb f h=>keep b _ (yN h v) h;have G:(upd (upd (upd H m<|.lst []) t<|Tp e) a<|.lst<|ts.map V.ref++[.ref t]) t=some (Tp e):=by rw[ax ((bz v w).symm),ay]
 refine⟨λb u h=>?_,S.free,keep d _ (CG s) S.dict,S.keys,S.nodup,λy=>?_,λy=>?_,λy n k h=>?_,λy q n k us j i=>?_,λy h=>?_,λy n k h=>?_⟩
 ·exact keep b u (bz h r)<|S.same _ _ h
 ·rw[S.mem y]
  by_cases c:y=z
  ·rw[BL c,c,l];simp
  ·rw[C c]
 ·rw[S.val y]
  by_cases c:y=z
  ·rw[BL c,c,l];rfl
  ·rw[C c]
 ·by_cases c:y=z
  ·rw[BL c]at h;cases h;refine⟨r,s,by rw[ay,Ai];rfl,?_⟩;rw[dQ,c,BL rfl];exact(E.keep x).append<|.cons G .nil
  ·rw[C c]at h;obtain⟨I,J,L,M⟩:=S.at' y n k h;refine⟨I,J,keep _ _ (λN=>c<|S.inj y z a k ts (N ▸ h) l) L,?_⟩;rw[dQ,C λh=>c h.symm,Bd];exact M.keep x
 ·by_cases c:y=z<;>by_cases o:q=z
  ·rw[c,o]
  ·rw[BL c]at j;rw[C o]at i;cases j;cases o (S.inj q z a us ts i l)
  ·rw[C c]at j;rw[BL o]at i;cases i;cases c (S.inj y z a k ts j l)
  ·rw[C c]at j;rw[C o]at i;exact S.inj y q n k us j i
 ·by_cases c:y=z
  ·rw[BL c]at h;cases h
  ·rw[C c]at h;rw[dQ,C λh=>c h.symm,Bd];exact S.jv y h
 ·by_cases c:y=z
  ·rw[dQ,BL c.symm];simp
  ·rw[C c]at h;rw[dQ,C λh=>c h.symm,Bd];exact S.some' y n k h
def bo.new(S:bo E H d done kvs ks A)
  (p:A z=none) (k:H a=none) (m:(upd (upd H a<|.lst []) d<|.dK<|putK kvs (Sum.inr z)<|.ref a) t=none):
  bo E (upd (upd (upd (upd H a<|.lst []) d<|.dK<|putK kvs (Sum.inr z)<|.ref a) t<|Tp e) a<|.lst [.ref t]) d (done++[(z,e)]) (putK kvs (Sum.inr z)<|.ref a) (ks++[z]) (λy=>if y=z then some (a,[t])else A y):=by
 have v:=bz S.dict k;have q:t≠d:=λc=>by rw[c,ay]at m;cases m
 have w:t≠a:=λc=>by rw[ax q,c,ay]at m;cases m
 have G:H t=none:=by rwa[ax q,ax w]at m
 have I:az kvs (Sum.inr z)=none:=by rw[S.val z,p];rfl
 have keep:∀b u,b≠d->H b=some u->(upd (upd (upd (upd H a<|.lst []) d<|.dK<|putK kvs (Sum.inr z)<|.ref a) t<|Tp e) a<|.lst [.ref t]) b=some u:=λb u j i=>by
  rwa[ax<|bz i k,ax<|bz i G,ax j,ax<|bz i k]
 have r:=S.same.free k;have J:z∉ks:=λh=>by
  have:=(S.mem z).mp h;rw[p]at this;cases this
 refine⟨λb u h=>?_,S.free,?_,?_,?_,λy=>?_,λy=>?_,λy n l h=>?_,λy s n l us j i=>?_,λy h=>?_,λy n l h=>?_⟩
 ·exact keep b u (bz h S.free)<|S.same _ _ h
 ·rw[ax v,ax q.symm,ay]
 ·rw[Uj _ I,Ai,S.keys,Ai];rfl
 ·rw[Bj];exact⟨S.nodup,by simp,λx L y B e=>by rw[Ae]at B;subst B e;exact J L⟩
 ·rw[Al,Ae,S.mem y]
  by_cases c:y=z
  ·rw[BL c];simp[c]
  ·rw[C c];simp[c]
 ·rw[cR]
  by_cases c:y=z
  ·rw[BL (by rw[c]),BL c];rfl
  ·rw[C λh=>c<|Sum.inr.inj h,C c,S.val y]
 ·by_cases c:y=z
  ·rw[BL c]at h;cases h;refine⟨r,v.symm,by rw[ay];rfl,?_⟩;rw[dQ,c,BL rfl,S.jv z p];exact .cons (by rw[ax w,ay]) .nil
  ·rw[C c]at h;obtain⟨M,D,N,O⟩:=S.at' y n l h;refine⟨M,D,keep _ _ D N,?_⟩;rw[dQ,C λh=>c h.symm,Bd];exact O.keep (λb f h=>keep b _ (cm h S.dict λz=>nomatch z) h)
 ·by_cases c:y=z<;>by_cases o:s=z
  ·rw[c,o]
  ·rw[BL c]at j;rw[C o]at i;cases j;exact absurd k<|by rw[(S.at' s a us i).2.2.1];exact λh=>nomatch h
  ·rw[C c]at j;rw[BL o]at i;cases i;exact absurd k<|by rw[(S.at' y a l j).2.2.1];exact λh=>nomatch h
  ·rw[C c]at j;rw[C o]at i;exact S.inj y s n l us j i
 ·by_cases c:y=z
  ·rw[BL c]at h;cases h
  ·rw[C c]at h;rw[dQ,C λh=>c h.symm,Bd];exact S.jv y h
 ·by_cases c:y=z
  ·rw[dQ,BL c.symm];simp
  ·rw[C c]at h;rw[dQ,C λh=>c h.symm,Bd];exact S.some' y n l h
theorem Mx:∀n m k,eR k (n++m)=eR k n++eR (k+n.length) m
 |[],m,k=>rfl
 |a :: n,m,k=>by
  show bh k a.2 0++eR (k+1) (n++m)=(bh k a.2 0++eR (k+1) n)++eR (k+(n.length+1)) m;rw[Mx n m<|k+1,Ap,show k+1+n.length=k+(n.length+1) by lia]
def sg(h:r<n.length):bg (n.take<|r+1)=bg (n.take r)++bh r (row n r) 0:=by
 unfold bg;rw[Ck,Ab h,Mx];have e:(n.take r).length=r:=by rw[Bm];lia
 rw[e,Es];have a:row n r=n[r].2:=by rw[row,Ab h];rfl
 rw[a];show _++(bh r n[r].2 0++[])=_;rw[Bd]
def qH{ts:Ñ}(h:ts[p]?=some z):bh r (ts.take<|p+1) 0=bh r (ts.take p) 0++[(z,(r,p))]:=by
 unfold bh;have a:=(Ad.mp h).1;rw[Ck,h,List.zipIdx_append,Ai];have e:(ts.take p).length=p:=by rw[Bm];lia
 rw[e,Es];rfl
structure ce(H:Hp)(d:Addr)(n:bc)(ks:Ñ):Prop where
 dict:∃kvs,H d=some (.dK kvs)/\kvs.map (·.1)=ks.map Sum.inr/\∀z∈ag n,∃a ts,az kvs (Sum.inr z)=some (.ref a)/\H a=some (.lst<|ts.map V.ref)/\Pd H ts (pos n z)
 nodup:ks.Nodup
 mem:∀z,z∈ks↔z∈ag n
def ce.same(S:ce H d n ks)(s:aj H H'):ce H' d n ks:=by
 obtain⟨kvs,b,c,f⟩:=S.dict;refine⟨⟨kvs,s _ _ b,c,λz i=>?_⟩,S.nodup,S.mem⟩;obtain⟨a,ts,j,k,l⟩:=f z i;exact⟨a,ts,j,s _ _ k,l.keep λt e h=>s _ _ h⟩
def dD:z∈ag n↔pos n z≠[]:=by
 rw[<-Bo,<-qG,Ds]
theorem bo.whole(S:bo i H d (bg n) kvs ks A):ce H d n ks:=by
 have b:∀z,z∈ks↔z∈ag n:=λz=>by
  rw[S.mem z,dD];cases h:A z with
  |none=>simp;exact S.jv z h
  |some p=>
   obtain⟨a,ts⟩:=p;simp;exact S.some' z a ts h
 refine⟨⟨kvs,S.dict,S.keys,λz c=>?_⟩,S.nodup,b⟩;have:=(S.mem z).mp<|(b z).mpr c;cases h:A z with
 |none=>rw[h]at this;cases this
 |some p=>
  obtain⟨a,ts⟩:=p;obtain⟨j,k,e,f⟩:=S.at' z a ts h;exact⟨a,ts,by rw[S.val z,h];rfl,e,f⟩
def zd(e:Nat->Bool):(range 2).all e=(e 0 && e 1):=by grind
def VU(x y:bi):(dv (.int x.1) (.int y.1) && dv (.int x.2) (.int y.2))=decide (x=y):=by
 obtain⟨a,b⟩:=x;obtain⟨c,d⟩:=y
 by_cases h:a=c<;>by_cases f:b=d
 ·subst h f;simp[dv]
 ·have:¬(b:Int)=(d:Int):=λe=>f (by lia);simp[dv,f,this]
 ·have:¬(a:Int)=(c:Int):=λe=>h (by lia);simp[dv,h,this]
 ·have:¬(a:Int)=(c:Int):=λe=>h (by lia);simp[dv,h,this]
theorem VV{x y:bi}:∀j u v,[V.int x.1,.int x.2][j]?=some u->[V.int y.1,.int y.2][j]?=some v->uB X H 0 u v (if j=0 then dv (.int x.1) (.int y.1)else dv (.int x.2) (.int y.2))
 |0,u,v,a,b=>by
  cases a;cases b;exact FL rfl rfl
 |1,u,v,a,b=>by
  cases a;cases b;exact FL rfl rfl
 |j+2,u,v,a,b=>by simp at a
def ov(a:H s=some (Tp x))(b:H t=some (Tp y)):yH X H 1 (.ref s) (.ref t) (decide (x=y)):=by
 have:=oq (X:=X) (λj=>if j=0 then dv (.int x.1) (.int y.1)else dv (.int x.2) (.int y.2)) (aU.of a) (aU.of b) rfl VV;rw[show([V.int (x.1:Int),.int x.2].length)=2 from rfl,zd]at this;simp only[DQ]at this;rwa[C (by decide),VU x y]at this
def oG(a:H s=some (Tp x))(b:H t=some (Tp y)):wI X H 1 (.ref s) (.ref t) (decide (x=y)):=by
 have:=Vs (X:=X) (λj=>if j=0 then dv (.int x.1) (.int y.1)else dv (.int x.2) (.int y.2)) (aU.of a) (aU.of b) rfl VV;rw[show([V.int (x.1:Int),.int x.2].length)=2 from rfl,zd]at this;simp only[DQ]at this;rwa[C (by decide),VU x y]at this
abbrev ir:Str:= "abcdefghijklmnopqrstuvwxyz0123456789"
def VW:ir.cps.toList.length=36:=by decide +kernel
def pp:ir.cps.toList.Nodup:=by decide +kernel
def sgn(i:Int):Nat:=(gS ir.cps.toList<|i%36).getD 0
def My(i:Int):gS ir.cps.toList (i%36)=some (sgn i):=by
 have a:(i%36).toNat<ir.cps.toList.length:=by rw[VW];lia
 have q:=wm (xs:=ir.cps.toList) (j:=(i%36).toNat) (v:=ir.cps.toList[(i%36).toNat]) (by simp[a]);rw[show(((i%36).toNat:Nat):Int)=i%36 by lia]at q;rw[sgn,q];rfl
def VX(h:sgn i=sgn j):i%36=j%36:=by
 have key:∀k:Int,ir.cps.toList[(k%36).toNat]?=some (sgn k):=λk=>by
  have a:(k%36).toNat<ir.cps.toList.length:=by rw[VW];lia
  have q:=wm (xs:=ir.cps.toList) (j:=(k%36).toNat) (v:=ir.cps.toList[(k%36).toNat]) (by simp[a]);rw[show(((k%36).toNat:Nat):Int)=k%36 by lia,My]at q;rw[Ab a,Option.some.inj q]
 have b:=key i;rw[h]at b;obtain⟨f,c⟩:=Ad.mp b;obtain⟨d,e⟩:=Ad.mp (key j);have:=(Fg (h₁:=d) pp).mp<|c.trans e.symm;have l:0<=i%36:=Ce _ (by decide);have m:0<=j%36:=Ce _ (by decide);lia
def turn(b:Int)(sp:Int)(v k:Nat):Int:=b/64+(k:Int)*(b/7%5)+(if(k:Int)=sp then(v:Int)else 0)
def nm(b sp:Int)(v:Nat):Nat->Str
 |0=>⟨#[]⟩
 |k+1=>nm b sp v k++⟨#[sgn<|turn b sp v k]⟩
def wP(x y:Str):(x++y).cps.toList=x.cps.toList++y.cps.toList:=by
 show(x.cps++y.cps).toList=_;simp
theorem FY(b sp:Int)(v:Nat):∀k,(nm b sp v k).cps.toList=(range k).map λj=>sgn<|turn b sp v j
 |0=>rfl
 |k+1=>by
  show(nm b sp v k++⟨#[sgn<|turn b sp v k]⟩).cps.toList=_;rw[wP,FY b sp v k,Cu,Ai];rfl
def x3r{u v k:Nat}(d:u<36)(f:v<36)(i:0<=sp)(l:sp<(k:Int))(h:nm b sp u k=nm b sp v k):u=v:=by
 have e:(nm b sp u k).cps.toList=(nm b sp v k).cps.toList:=by rw[h]
 rw[FY,FY]at e;have c:sp.toNat<k:=by lia
 have q:((range k).map λj=>sgn<|turn b sp u j)[sp.toNat]?=((range k).map λj=>sgn<|turn b sp v j)[sp.toNat]?:=by rw[e]
 rw[Aj,Aj,Dc c]at q;have a:=VX (Option.some.inj q);unfold turn at a;rw[show((sp.toNat:Nat):Int)=sp by lia,BL rfl,BL rfl]at a;lia
theorem rf(c:Nat):∀k acc,((replicate k (#[c]:Array Nat)).foldl (·++·) acc).toList=acc.toList++replicate k c
 |0,acc=>by simp
 |k+1,acc=>by
  rw[List.replicate_succ,Dq,rf c k,List.replicate_succ];simp
def mul_list(c:Nat)(h:1<=i):(Txt.mul ⟨#[c]⟩ i).cps.toList=replicate i.toNat c:=by
 rw[Txt.mul,C<|by lia]
 by_cases e:i=1
 ·subst e;rfl
 ·have a:(i == 1 || (⟨#[c]⟩:Str).length == 0)=false:=by
   have:(i == 1)=false:=by simpa using e
   rw[this];rfl
  rw[a];simp;have:=rf c i.toNat #[]
  simpa using this
def a7(b:Int)(v:Nat):Str:=if b%3=2 then Txt.mul ⟨#[sgn<|b/64+(v:Int)/8]⟩ (1+(v:Int)%8)else nm b (b/8%(1+b%8)) v (1+b%8).toNat
def k65(a:u<36)(d:v<36)(h:a7 b u=a7 b v):u=v:=by
 unfold a7 at h
 by_cases c:b%3=2
 ·rw[BL c,BL c]at h;have f:0<=(u:Int)%8:=Ce _ (by decide);have e:(Txt.mul ⟨#[sgn<|b/64+(u:Int)/8]⟩<|1+(u:Int)%8).cps.toList=(Txt.mul ⟨#[sgn<|b/64+(v:Int)/8]⟩<|1+(v:Int)%8).cps.toList:=by rw[h]
  rw[mul_list _ (by lia),mul_list _<|by lia]at e;have l:=BX List.length e;rw[Gc,Gc]at l;have hd:(replicate (1+(u:Int)%8).toNat<|sgn<|b/64+(u:Int)/8)[0]?=(replicate (1+(v:Int)%8).toNat<|sgn<|b/64+(v:Int)/8)[0]?:=by rw[e]
  rw[Ft,Ft,BL (by lia),BL<|by lia]at hd;have q:=VX<|Option.some.inj hd;lia
 ·rw[C c,C c]at h;refine x3r a d (Ce _<|by lia) ?_ h;have:=Cj (b/8) (show 0<1+b%8 by lia);lia
def namesOf(b:Int)(m:Nat):Ñ:=(range m).map<|a7 b
def F0(h:m<=36):(namesOf b m).Nodup:=by
 unfold namesOf;refine GX _ (R:=λi j=>i<j/\j<m) ?_ ?_
 ·rintro i j ⟨d,f⟩ e;have:=k65 (by lia) (by lia) e;lia
 ·rw[Bs];intro i j k a c;simp;simp at a;exact⟨c,a⟩
def F1(b:Int)(m:Nat):namesOf b (m+1)=namesOf b m++[a7 b m]:=by
 rw[namesOf,Cu,Ai];rfl
def Mz(b:Int)(m:Nat):(namesOf b m).length=m:=by unfold namesOf;simp
def k7n(h:i<m):(namesOf b m)[i]?=some (a7 b i):=by
 rw[namesOf,Aj,Dc h];rfl
def gh(n:bc):Prop:=(∃nm,n=[(nm,[])])\/(n≠[]/\∀i,i<n.length->row n i≠[])
def gX(n:bc)(c:bi):Prop:=c.1<n.length/\c.2<max 1 (row n c.1).length
def ins(n:bc)(c:bi)(z:Str):bc:=n.modify c.1 λr=>(r.1,r.2.take c.2++z :: r.2.drop c.2)
def jN(n:bc)(c:bi)(z:Str):(ins n c z).length=n.length:=by rw[ins,List.length_modify]
theorem MA(n:bc)(c:bi)(z:Str):(ins n c z).map (·.1)=n.map (·.1):=by
 unfold ins;refine Dz λi=>?_;rw[Aj,Aj,Ge];cases n[i]? with
 |none=>rfl
 |some r=>by_cases h:c.1=i<;>simp[h]
def wK(n:bc)(c:bi)(z:Str)(i:Nat)(a:c.1<n.length):row (ins n c z) i=if c.1=i then(row n i).take c.2++z :: (row n i).drop c.2 else row n i:=by
 unfold row ins;rw[Ge]
 by_cases h:c.1=i
 ·subst h;rw[Ab a];simp
 ·grind
theorem pH:∀n c z,c.1<n.length->(ag<|ins n c z).Perm (z :: ag n)
 |[],c,z,h=>by simp at h
 |a :: n,(0,p),z,h=>by
  unfold ins ag;simp only[List.modify_zero_cons,Cm];have:(a.2.take p++z :: a.2.drop p).Perm (z :: a.2):=by
   apply Gi.trans;rw[Da]
  exact this.append_right _
 |a :: n,(i+1,p),z,h=>by
  have b:=pH n (i,p) z (by simpa using h);unfold ins ag at b ⊢;simp;refine(b.append_left a.2).trans ?_;exact Gi
def MB(F:gh n)(a:c.1<n.length):n.length=1\/(∀i,i<n.length->row n i≠[])->(∀i,i<(ins n c z).length->row (ins n c z) i≠[])/\ins n c z≠[]:=by
 intro h;have b:=jN n c z;refine⟨λi d=>?_,λe=>?_⟩
 ·rw[wK n c z i a]
  by_cases q:c.1=i
  ·rw[BL q];simp
  ·rw[C q]
   obtain h|h:=h
   ·rw[b]at d;lia
   ·exact h i<|by lia
 ·grind
def gh.some(F:gh n):n≠[]:=by
 obtain⟨nm,rfl⟩|h:=F
 ·simp
 ·exact h.1
def gh.either(F:gh n):n.length=1\/(∀i,i<n.length->row n i≠[]):=by
 obtain⟨nm,rfl⟩|h:=F
 ·exact .inl rfl
 ·exact .inr h.2
def gh.df(F:gh n)(b:row n 0≠[])(a:gX n c):c∈ends n:=by
 obtain⟨nm,rfl⟩|h:=F
 ·cases b rfl
 ·have:=h.2 c.1 a.1;have e:0<(row n c.1).length:=Ds.mpr this;have d:c.2<(row n c.1).length:=by
   have:=a.2;lia
  exact af.mpr<|FU d
def k9m(h:e∈ends n):gX n e:=by
 obtain⟨z,h⟩:=af.mp h;have:=iy h;exact⟨dB h,by lia⟩
def uH(H H':Hp)(bad:List Addr):Prop:=∀b o,H b=some o->b∉bad->H' b=some o
def VY(zs:Ñ)(i:Nat)(z:Str):insertAt (zs.map V.str) i (.str z)=(zs.take i++z :: zs.drop i).map V.str:=by
 rw[insertAt,Ai,Be,List.map_take,List.map_drop]
theorem aq.ins(h:aq H R as n)(o:as[c.1]?=some a)(f:c.1<n.length):
  aq (upd H a.2<|Ls<|(row n c.1).take c.2++z :: (row n c.1).drop c.2) R as (Nt.ins n c z):=by
 have s:=h.tup c.1 a n[c.1] o<|Ab f;have p:R≠a.2:=by
  intro e;have t:=h.lst;rw[e,s.2]at t;have j:=HO.lst.inj<|Option.some.inj t;cases u:n[c.1].2 with
  |nil=>
   rw[u]at j;have:as.map (λa=>V.ref a.1)=[]:=j.symm;have v:=BX List.length this;rw[Aa,h.len]at v;rw[v]at f;cases (Ep _) f
  |cons y r=>
   rw[u]at j;cases as with
   |nil=>simp at j
   |cons b J=>
    simp at j
 have x:row n c.1=n[c.1].2:=by rw[row,Ab f];rfl
 refine⟨by rw[jN];exact h.len,by rw[ax p];exact h.lst,λi b r l d=>?_,h.inj⟩;unfold Nt.ins at d;rw[Ge]at d;cases k:n[i]? with
 |none=>rw[k]at d;by_cases q:c.1=i<;>simp[q]at d
 |some A=>
  rw[k]at d;have m:=h.tup i b A l k;have w:=cm m.1 s.2 λe=>nomatch e
  by_cases q:c.1=i
  ·subst q;rw[Ab f]at k;cases k;rw[o]at l;cases l;simp at d;subst d;refine⟨by rw[ax w];exact m.1,?_⟩;rw[ay,x]
  ·simp[q]at d;subst d;have B:b.2≠a.2:=λe=>by
    have D:(as.map (·.2))[i]?=some b.2:=by rw[Aj,l];rfl
    have E:(as.map (·.2))[c.1]?=some a.2:=by rw[Aj,o];rfl
    obtain⟨L,G⟩:=Ad.mp D;obtain⟨M,I⟩:=Ad.mp E;exact q<|(Fg h.inj).mp<|I.trans<|e.symm.trans G.symm
   exact⟨by rw[ax w];exact m.1,by rw[ax B];exact m.2⟩
def aq.more(h:aq H R as n)(s:H t=some (.tup [.str pt,.ref l]))(B:H l=some (Ls zs))(u:l∉as.map (·.2))(v:l≠R):
  aq (upd H R<|.lst<|as.map (λa=>V.ref a.1)++[.ref t]) R (as++[(t,l)]) (n++[(pt,zs)]):=by
 have k:=h.len;refine⟨by rw[Ah,Ah,k];rfl,by rw[ay,Ai];rfl,λi b r d f=>?_,?_⟩
 ·obtain c|c:=Dv i as.length
  ·rw[Aw c]at d;rw[Aw<|by lia]at f;have q:=h.tup i b r d f;have w:=cm q.1 h.lst λe=>nomatch e;have z:b.2≠R:=by
    intro e;have m:=h.lst;rw[<-e,q.2]at m;have j:=HO.lst.inj<|Option.some.inj m;cases as with
    |nil=>simp at c
    |cons D E=>
     cases o:r.2 with
     |nil=>rw[o]at j;simp at j
     |cons y r=>rw[o]at j;simp at j
   exact⟨by rw[ax w];exact q.1,by rw[ax z];exact q.2⟩
  ·have e:i=as.length:=by
    have:=(Ad.mp d).1;rw[Ah]at this;simp at this;lia
   subst e;rw[Ay<|Aq _]at d;rw[k,Ay<|Aq _]at f;simp at d f;subst d f;exact⟨by rwa[ax (cm s h.lst λe=>nomatch e)],by rwa[ax v]⟩
 ·rw[Ai,Bj];exact⟨h.inj,by simp,λx A y p e=>by simp at p;subst p e;exact u A⟩
def aq.lists(h:aq H R as n)(a:x∈as):∃zs,H x.2=some (Ls zs):=by
 obtain⟨i,b,e⟩:=Bv.mp a;have c:=h.len;exact⟨_,(h.tup i x (n[i]'(by lia)) (e▸(Ab b))<|Ab<|by lia).2⟩
def aq.fresh(h:aq H R as n)(a:H l=none)(b:x∈as):l≠x.2:=by
 obtain⟨zs,e⟩:=h.lists b;exact(bz e a).symm
def kQ(n:bc):(ends n).length=(ag n).length:=by
 unfold ends bg;rw[Aa,<-nU n 0,Aa]
def iz.ends(T:ao n)(h:iz n e d)(f:e∈ends n):∀c∈d,c∈Nt.ends n:=by
 intro c j;obtain⟨i,b,k⟩:=Bv.mp j;have:=h.at' i b;rw[Ab b,k]at this;rw[Option.some.inj this];exact lR (λa l=>uE T l) f i
def F3(a:gX n c)(b:k.1<n.length):gX (ins n k z) c:=by
 refine⟨by rw[jN];exact a.1,?_⟩;rw[wK n k z c.1 b];have:=a.2
 split
 ·rw[Ah,Au,Bm,Cy];lia
 ·exact this
def dbl(zs:Ñ):Ñ:=zs.flatMap λz=>[z,z]
theorem MC(y:Str):∀zs:Ñ,(dbl zs).count y=2*zs.count y
 |[]=>rfl
 |z :: r=>by
  rw[dbl,Cm];have a:=MC y r;unfold dbl at a;rw[Dw,a,Dj,Dj,Dj,List.count_nil];lia
def kR:y∈dbl zs↔y∈zs:=by
 rw[<-Bo,MC,<-Bo];lia
theorem MD:∀zs:Ñ,(dbl zs).length=2*zs.length
 |[]=>rfl
 |z :: r=>by
  rw[dbl,Cm,Ah];have a:=MD r;unfold dbl at a;rw[a,Au];simp;lia
def iH(zs:Ñ)(z:Str):dbl (zs++[z])=dbl zs++[z,z]:=by
 rw[dbl,Di];rfl
def VZ(a:zs.Nodup)(p:(ag n).Perm<|dbl zs):ao n:=λz b=>by
 rw[p.count_eq,MC];rw[a.count,BL (kR.mp<|p.mem_iff.mp b)]
def NE(n:bc):Prop:=∀r∈n,r.2≠[]
def pI(h:i<n.length):row n i=n[i].2:=by rw[row,Ab h];rfl
def q7i(h:NE n)(b:n≠[]):gh n:= .inr ⟨b,λi a=>by rw[pI a];exact h _<|Bq a⟩
def gh.ne(h:gh n):(∃nm,n=[(nm,[])])\/NE n:=by
 obtain h|⟨_,h⟩:=h
 ·exact .inl h
 ·refine .inr λr b=>?_;obtain⟨i,a,rfl⟩:=Bv.mp b;have:=h i a;rwa[pI a]at this
theorem V0:∀n k h,(ag n).Perm<|n[k].2++ag (n.eraseIdx k)
 |[],k,h=>by simp at h
 |a :: n,0,h=>by unfold ag;simp
 |a :: n,k+1,h=>by
  have b:=V0 n k (by simpa using h);unfold ag at b ⊢;simp;refine(b.append_left a.2).trans ?_;rw[<-Ap,<-Ap];exact List.perm_append_comm.append_right _
def gz(n:bc)(k:Nat)(h:k<n.length):(n.map (·.1)).Perm (n[k].1 :: (n.eraseIdx k).map (·.1)):=by
 have:=(bG.bZ n k h).map (·.1);exact this.symm
def ME(zs:Ñ)(i:Nat):(zs.drop i++zs.take i).Perm zs:=by
 apply Cq.trans;rw[Da]
def aq.upd(h:aq H R as n)(c:H x=some (.lst xs))(d:R≠x)(f:∀a∈as,a.2≠x):aq (upd H x o) R as n:=by
 refine⟨h.len,by rw[ax d];exact h.lst,λi a r b j=>?_,h.inj⟩;have q:=h.tup i a r b j;exact⟨by rw[ax<|cm q.1 c λe=>nomatch e];exact q.1,by rw[ax<|f a<|An b];exact q.2⟩
def MG(l:List α)(k i:Nat):(l.eraseIdx k)[i]?=if i<k then l[i]? else l[i+1]?:=by
 rw[Fy]
def aq.erase(h:aq H R as n)(p:k<n.length):
  aq (L2.upd H R<|.lst<|(as.map λa=>V.ref a.1).eraseIdx k) R (as.eraseIdx k) (n.eraseIdx k):=by
 have l:=h.len;refine⟨by rw[Dm,Dm,l],?_,λi a r d f=>?_,?_⟩
 ·rw[ay]
  congr 2
  refine Dz λi=>?_;rw[MG,Aj,Aj,Aj,MG]
  split<;>rfl
 ·rw[MG]at d f;have q:H a.1=some (.tup [.str r.1,.ref a.2])/\H a.2=some (Ls r.2):=by
   by_cases c:i<k
   ·rw[BL c]at d f;exact h.tup i a r d f
   ·rw[C c]at d f;exact h.tup (i+1) a r d f
  have s:a.2≠R:=by
   intro e;have m:=h.lst;rw[<-e,q.2]at m;have j:=HO.lst.inj<|Option.some.inj m;cases as with
   |nil=>simp at l;simp[<-l]at p
   |cons b t=>
    cases o:r.2 with
    |nil=>rw[o]at j;simp at j
    |cons y r=>rw[o]at j;simp at j
  exact⟨by rw[ax<|cm q.1 h.lst λe=>nomatch e];exact q.1,by rw[ax s];exact q.2⟩
 ·have:((as.eraseIdx k).map (·.2)).Sublist (as.map (·.2)):=(List.eraseIdx_sublist as k).map _;exact h.inj.sublist this
def V1(zs:Ñ)(i:Nat):jd (zs.map V.str) (some (i:Int)) none=(zs.drop i).map V.str:=by
 rw[jd,HT.kH,HT.jc,Aa];rw[Dg (by rw[Cy,Aa];lia),List.map_drop]
 obtain h|h:=Nat.le_total i zs.length
 ·rw[TF h]
 ·rw[RM h,TX (by simp),TX<|by simpa using h]
def V2(zs:Ñ)(i:Nat):jd (zs.map V.str) none (some (i:Int))=(zs.take i).map V.str:=by
 rw[jd,HT.kH,HT.jc,Aa,List.drop_zero,WD,List.map_take]
 obtain h|h:=Nat.le_total i zs.length
 ·rw[TF h]
 ·rw[RM h,Dg (by simp),Dg<|by simpa using h]
end Nt
namespace L2
open PySem PySem.Spec PyProof.Rows
def vR(h:(eV P w).is k u=true):br (kV k) u:=by
 obtain⟨i,t,rfl,rfl⟩|⟨x,t,rfl,rfl⟩:=po h<;>exact⟨t,rfl⟩
theorem ae:∀{vs},vs.length=xs.length->(∀(j:Nat)u,vs[j]?=some u->∃x,xs[j]?=some x/\br x u)->aC xs vs:=by
 induction xs with
 |nil=>
  intro vs h _;cases vs with
  |nil=>exact .nil
  |cons a b=>simp at h
 |cons x r c=>
  intro vs h g;cases vs with
  |nil=>simp at h
  |cons u q=>
   obtain⟨i,e,d⟩:=g 0 u rfl;simp only[RT,Option.some.injEq]at e;subst e;exact .cons d<|c (by simpa using h) λj u f=>by simpa using g (j+1) u (by simpa using f)
inductive d6(xs:List V)(H:Hp)(Q:VK):Prop
 |mk (a kvs:_)(_:xs=[.ref a])(_:Rd H a<|.dK kvs)(_:∀l,H l=none->Q (.ref l) (upd H l<|.lst<|kvs.map λp=>kV p.1))
def hY{X:Cx}(i:X.calm=true):i7 X (.type "list") d6:=by
 intro c s B H xs us Q I r h;obtain⟨a,kvs,rfl,l,q⟩:=h;obtain⟨u,rfl,m⟩:=io r;cases (show u=Value.ref a from m);obtain⟨z,hd,D,rel,n⟩:=ub I.aP l;obtain⟨E,o⟩:=n.dictAt;have G:=rel.length;refine PySem.W.kdl_call (PySem.W.kdl_dict hd) (I.ok.hd i) o (by lia) λt J b v w L d=>?_;have rv:aC (kvs.map λp=>kV p.1) b.toList:=by
  refine ae (by rw[Cb,d.1,Aa];lia) λj u M=>?_;obtain⟨k,x,e,g⟩:=d.2 j u (by rwa[<-Cc]);refine⟨kV k,?_,vR g⟩;have f:(kvs.map (·.1))[j]?=some k:=by rw[rel.keys,Aj,e];rfl
  rw[Aj,Ba]at f;obtain⟨p,y,A⟩:=f;rw[Aj,y,<-A];rfl
 exact⟨.ref s.heap.objs.size,_,I.laid w (Aq _) (show aI X.prog X.w _ t _ (.lst<|kvs.map λp=>kV p.1) from⟨by rwa[Aa],b.toList,v,rv,by rwa[Array.toArray_toList]⟩),rfl,q _<|I.aP.fresh<|Aq _⟩
def mI(Pv:Nat->St->Hp->Prop)(n:Pv 0 o H)(r:∀i c H',i<=xs.length->Pv i c H'->av X.K H' a xs)
  (s : ∀ i x c H', xs[i]? = some x → Pv i c H' → Ln X N' scope t x c H' λd u => Lp X N' scope f d u λb j =>
   if b=true then Lj X N' scope h d j λv k=>∃ys,k A=some (.lst ys)/\ys.length<sizeLine/\Pv (i+1) d (upd k A<|.lst<|ys++[v])else Pv (i+1) d j)
  (hd:∀c H',Pv xs.length c H'->after H'):rO X N' scope t f h (tT X.K a) A after o H:=by
 refine⟨λi m c H'=>m=xs.length-i/\i<=xs.length/\Pv i c H',⟨_,rfl,By _,n⟩,?_⟩;rintro i m c H' ⟨rfl,w,p⟩;have q:=r i c H' w p
 by_cases l:i<xs.length
 ·refine .inr ⟨⟨xs,xs[i],q,by simp[l]⟩,Pv<|i+1,λc H' z=>⟨xs.length-(i+1),by lia,rfl,l,z⟩,λx B y=>?_⟩;obtain⟨e,y⟩:=y;subst e;exact s i x c _ (y xs q) p
 ·have e:i=xs.length:=by lia
  subst e;exact .inl ⟨⟨xs,q,Aq _⟩,hd c H' p⟩
def yP{zs:Ñ}(f:Str->Bool)(B:zs.length<sizeLine)(r:H a=some (.lst<|zs.map V.str))(s:H A=none)
  (t:∀c b s₀ H₀ ex v v0 H' R,R (j++[some v]) H'->Eg (iX X N' scope c b s₀ H₀ ex) u v (j++[v0]) H' R)
  (w:∀c b s₀ H₀ ex z ys T,T (f z) (upd H A<|.lst ys)->Ei (iX X N' scope c b s₀ H₀ ex) l (j++[some<|.str z]) (upd H A<|.lst ys) T)
  (y:∀c b s₀ H₀ ex z H' R,R (V.str z) H'->Ev (iX X N' scope c b s₀ H₀ ex) m (j++[some<|.str z]) H' R) (q:after<|upd H A<|.lst<|(zs.filter f).map V.str):
  rO X N' scope u l m (tT X.K a) A after (j++replicate 1 none) (upd H A<|.lst []):=by
 refine mI (xs:=zs.map V.str) (λk d H'=>(∃v,d=j++[v])/\H'=upd H A (.lst<|((zs.take k).filter f).map V.str)) ⟨⟨none,rfl⟩,by simp⟩ ?_ ?_ ?_
 ·rintro i d H' _ ⟨_,rfl⟩;exact av.of<|by rwa[ax (bz r s)]
 ·rintro i x d H' o ⟨⟨v,rfl⟩,rfl⟩;rw[Aj,Ba]at o;obtain⟨z,n,rfl⟩:=o;intro c b s₀ H₀ ex;apply t c b s₀ H₀ ex _ _ _ _;intro c b s₀ H₀ ex;apply w c b s₀ H₀ ex z _ _;have e:(zs.take<|i+1).filter f=(zs.take i).filter f++(if f z=true then [z]else []):=by
   rw[Ck,n,Cf]
   congr 1
   cases h:f z<;>simp[h]
  have p:((zs.take i).filter f).length<=zs.length:=Cd (Db _ _)<|by rw[Bm];lia
  by_cases h:f z=true
  ·rw[BL h];intro c b s₀ H₀ ex;refine y c b s₀ H₀ ex z _ _ ⟨_,ay,by rw[Aa];lia,⟨_,rfl⟩,?_⟩;rw[pY,e,BL h,Ai];rfl
  ·rw[C h];refine⟨⟨_,rfl⟩,?_⟩;rw[e,C h,Bd]
 ·grind
theorem si(z:Str)(zs:Ñ):t7 (.str z) (zs.map V.str)=zs.contains z:=by
 unfold t7
 induction zs with
 |nil=>rfl
 |cons y r a=>
  rw[Be,Gk,a,List.contains_cons]
  congr 1
  by_cases h:y=z
  ·subst h;simp[dv]
  ·show(y == z)=(z == y);rw[beq_eq_false_iff_ne.mpr h,beq_eq_false_iff_ne.mpr (λq=>h q.symm)]
def qI(zs:Ñ):(zs.map V.str).all m9=true:=by
 rw[Fh];intro x a;obtain⟨z,_,rfl⟩:=Ag.mp a;rfl
def iA(c:X.calm=true)(d:aU X.K H t [x,y])(h:Eg X e1 x e H λa b=>Eg X e2 y a b R)
  (f:(assignEach [e1,e2] X.env).length=2:=by rfl) (i:(assignEach [e1,e2] X.env).findIdx? (·.1)=none:=by rfl)
  (j:(assignEach [e1,e2] X.env).map (·.2)=assign e1 X.env :: (assignEach [e2] X.env).map (·.2):=by rfl) (l:(assignEach [e2] X.env).map (·.2)=assign e2 X.env :: (assignEach [] X.env).map (·.2):=by rfl):
  Eg X (.Tuple [e1,e2] k pos) (.ref t) e H R:=
 Lf (Td c (xY uf (xY uf Tc l) j) f i) ⟨t,_,rfl,d,rfl,_,_,rfl,h.mono λa b m=>⟨_,_,rfl,m.mono λn o q=>⟨rfl,q⟩⟩⟩
end L2
namespace PySem
def lm
  (f:s.heap.get? a=some o) (i:o.cls = .type "list") (j:o.data = .seq xs k) (hd:o.dict=none) (q:typeLookup (.type "list") name=pure none) (r:(["__module__","__name__","__qualname__","__doc__","__annotations__"]:Ñ).contains name=false) (t:A.handled=none)
  (h:∀ h' l e,Heap.NewExcOf s.heap h' e "AttributeError"->Q none {s with heap:=h',toks:=l}) (b:name.length+100<=sizeLine:=by size_fits):
  ba prog w A (getAttr? (.ref a) name) Q E s:=by
 obtain⟨c,u,v,x⟩:=o;simp only at i j hd;subst i j hd;obtain⟨y,g,d,l,os⟩:=s;have m:∀n,(⟨y,g,d,n,os⟩:Shared).TypeIs (.ref a) "list":=λ_=>⟨_,f,rfl⟩;have f1:=sub_AttributeError;have z:=F.slot_list_getattribute.lookup;have B:=F.slot_list_getattribute.bind<|.ref a;have D:=am_list_getattr_none;unfold getAttr? getAttrBy? getAttrBy
 repeat (any_goals (first | assumption | exact m _ | ((with_reducible show wpAny _ _ (call (Value.builtin "list.__getattribute__") _ _) _ _ _);refine KN F.slot_list_getattribute (m _) am_entry_list_getattribute (F.args_list_getattribute_2 _ _) (meets_getattribute_miss_list a xs k x name _ q r b) ⟨f,t,λh' n e p=>?_⟩)|wp_step))
 obtain⟨G,H,I⟩:=p.there;unfold getattributeRaised
 repeat (any_goals (first|assumption|wp_step))
 exact h _ _ _ p.of
namespace F
def bE:entryFor table "dict.update.loop" = some Builtin.«dict.update.loop»:=entryFor_of_tree<|by kernel_rfl
def aS:plainId "dict.update.loop" = true:=by decide +kernel
def iB:typeLookup (.type "list") "keys" = pure none:=by rw[SX,MK];kernel_rfl
end F
def MH[DecidableEq K](knd:KeyKind prog w K)(h:Heap)(items:Ó)(jw:List<|K×Value):Prop:=
 items.length=jw.length/\∀(j:Nat) it,items[j]?=some it->∃T key k v o n,it=.ref T/\jw[j]?=some (k,v)/\knd.is k key=true/\h.get? T=some o/\o.cls=.type "tuple"/\o.data=.seq #[key,v] n
def j9z[DecidableEq K](kvs:List<|K×Value)(k:K)(v:Value):(stored kvs k v).length<=kvs.length+1:=by
 unfold stored
 split
 ·rw[Aa];lia
 ·rw[Ah];simp
theorem Pw[DecidableEq K]{knd:KeyKind prog w K}(hd:hB.objs.size<=d)(hI:hB.objs.size<=I)(j:d≠I)(H:hB.IsList l items.toArray)(J:MH knd hB items jw)(hn:items.length<sizeLine)(hh:A.handled=none):
  ∀k i s acc,items.length-i=k->i<=items.length->(∀b o,hB.get? b=some o->s.heap.get? b=some o)->s.heap.IsListIter I l i->s.heap.DictOf knd d acc->acc.length<=i ->
   (∀h' m,(∀b o,b≠I->b≠d->s.heap.get? b=some o->h'.get? b=some o)->h'.DictOf knd d ((jw.drop i).foldl (λa p=>stored a p.1 p.2) acc)->R (.ok<|.ret .none) {s with heap:=h',toks:=m}) ->
   codeAny (model prog w) A (.builtin "dict.update.loop" ⟨[.ref d,.ref I,rawInt i,.none],[]⟩) R s:=by
 have q:∀b o,hB.get? b=some o->b≠I/\b≠d:=λb o e=>⟨Bw<|Br (Ax e) hI,Bw<|Br (Ax e) hd⟩;intro k
 induction k with
 |zero=>
  intro i s acc hk hi c t u bI y;have nH:i=items.length:=by lia
  apply FN F.bE;rw[FJ F.aS _];have z:s.heap.IsList l items.toArray:=let ⟨o,B,r⟩:=H;⟨o,c _ _ B,r⟩
  refine BJ (wpAny_pyNext_list_end hh t z (by simp;lia) λh' L=>?_);refine BJ<|BP<|BP ?_;refine y h' s.toks (λb o hb _ e=>L b o hb e) ?_;rw[List.drop_eq_nil_of_le<|by have:=J.1;lia];exact u.extBut L j
 |succ k ih=>
  intro i s acc hk hi c t u bI y;have M:i<items.length:=by lia
  have D:items[i]?=some items[i]:=Ab M;obtain⟨T,key,f,v,o,n,e1,e2,e3,N,e5,e6⟩:=J.2 i _ D;rw[e1]at D;apply FN F.bE;rw[FJ F.aS _];show wpAny _ A.in1 (pyNext (.ref I) >>= _) _ _ s;have z:s.heap.IsList l items.toArray:=let ⟨o,B,r⟩:=H;⟨o,c _ _ B,r⟩
  refine BJ (wpAny_pyNext_list_item t z (x:= .ref T) (by simpa using D) λh' fh E=>?_);have O:h'.get? T=some o:=(E.2 T (q T o N).1).trans<|c _ _ N;refine BJ<|CK<|BJ<|wpAny_tryCatch ?_;unfold Builtin.Dict.pairItems;refine BJ<|KH (T:= "tuple") ⟨o,O,e5⟩ ?_;rw[BL<|by decide];refine BJ<|wpAny_seqItems (s:={s with heap:=h'}) O e6<|BP ?_;show wpAny _ _ (holding [key,v]<|dictSet d key v) _ _ _;refine CK (wpAny_dictSet_pairs (knd:=knd) (s:={s with heap:=h'}) (k:=f) e3 (u.extBut E.extBut j) (λQ D2 Y=>?_)<|by lia);refine BP ⟨IW F.aS _,?_⟩;have V4:∀b o,b≠I->b≠d->s.heap.get? b=some o->Q.get? b=some o:=λb o h G e=>(Y.2 b G).trans<|(E.2 b h).trans e;refine ih (i+1) {s with heap:=Q,toks:=s.toks+1} (stored acc f v) (by lia) M (λb o e=>V4 b o (q b o e).1 (q b o e).2<|c _ _ e) (fh.extBut Y.extBut<|CG j) D2 (by have:=j9z acc f v;lia) λG m k3 D3=>?_;refine y G m (λb o h uk e=>k3 b o h uk<|V4 b o h uk e) ?_;have e7:jw.drop i=(f,v):: jw.drop (i+1):=by
   obtain⟨hj,e8⟩:=Ad.mp e2;rw[Gj hj,e8]
  rwa[e7]
def li[DecidableEq K]{knd:KeyKind prog w K}(c:s.heap.get? l=some ol)(f:ol.cls = .type "list")(B:ol.dict=none)(j:ol.data=.seq items.toArray nl)(D:MH knd s.heap items jw)(G:items.length<sizeLine)(n:A.handled=none)
  (h:∀h' q,(∀b o,s.heap.get? b=some o->h'.get? b=some o)->h'.DictOf knd s.heap.objs.size (jw.foldl (λa p=>stored a p.1 p.2) [])->Q (.ref s.heap.objs.size) {s with heap:=h',toks:=q}):
  ba prog w A (call (.type "dict") [.ref l]) Q E s:=by
 refine callType_codes (Q₁:=λobj t=>obj = .ref s.heap.objs.size/\t={s with heap:=s.heap.push {cls:= .type "dict",data:= .dict #[]}}) F.kt_called_dict (F.kt_typeCall_dict_1 _) F.entry_dict_init (kt_code_dict_new _ ⟨rfl,rfl⟩) ?_;rintro obj t ⟨rfl,rfl⟩;have k:(s.heap.push {cls:= .type "dict",data:= .dict #[]}).DictOf knd s.heap.objs.size []:=Heap.DictOf.new s.heap;have u:(s.heap.push {cls:= .type "dict",data:= .dict #[]}).get? l=some ol:=Am _ c;refine⟨k.typeIs,F.args_dict_init_2 _ _,?_⟩;unfold Builtin.«dict.__init__»;apply BJ;unfold Builtin.Dict.selfAndRest;refine BJ<|wpAny_notOrdered_dict k.typeIs ?_;apply BP;show wpAny _ _ (Builtin.Dict.updateFrom "dict.__init__" s.heap.objs.size (.ref l) [] .none) _ _ _;unfold Builtin.Dict.updateFrom;refine BJ<|KH (T:= "list") ⟨ol,u,f⟩ ?_;rw[BL<|by decide];refine BJ (lm u f j B F.iB (by decide) (by exact n) λh' q e ne=>?_);rw[BL (show(none:Option Value).isNone=true from rfl)];have i:∀b o,s.heap.get? b=some o->h'.get? b=some o:=λb o e=>ne.keeps b o<|Am _ e;refine BJ<|HS ?_;refine BJ<|QX ⟨ol,i _ _ c,f,nl,j⟩ ?_;refine BP ⟨IW F.aS _,?_⟩;have v:h'.DictOf knd s.heap.objs.size []:=let ⟨o,x,y,c,r⟩:=k;⟨o,x,y,ne.keeps _ _ c,r⟩
 have z:s.heap.objs.size<h'.objs.size:=let ⟨o,x,y,c,r⟩:=v;Ax c
 refine Pw (hB:=s.heap) (d:=s.heap.objs.size) (I:=h'.objs.size) (l:=l) (Aq _) (Cv z) (Bw z) ⟨ol,c,f,nl,j⟩ D G (by exact n) _ 0 _ [] rfl (By _) (λb o e=>Am _<|i b o e) ⟨_,Az _ rfl,rfl,rfl⟩ (v.push _) (By _) λH m J L=>?_;refine⟨rfl,h H m (λb o e=>J b o (Bw<|Ax<|i b o e) (Bw<|Ax e)<|Am _<|i b o e) L⟩
end PySem
namespace L2
open PySem PySem.Spec PyProof.Rows
theorem TM:∀{ps:List (Key×V)}{acc:List (Key×Value)}{b:List (Key×Value)},KV ps acc->KV kvs b->KV (kvs.foldl (λa p=>putK a p.1 p.2) ps) (b.foldl (λa p=>stored a p.1 p.2) acc):=by
 induction kvs with
 |nil=>intro ps acc b h g;cases g;exact h
 |cons p r c=>
  intro ps acc b h g;cases g with
  | @cons _ q _ j d e=>
   obtain⟨f,i⟩:=d;rw[Dq,Dq];refine c ?_ e;rw[<-f];exact h.put p.1 i
theorem V6{h:Heap}:∀{kvs:List (Key×V)} {ts:List Addr},ts.length=kvs.length->(∀(j:Nat) t a,ts[j]?=some t->kvs[j]?=some a->∃ key v o m,(eV P w).is a.1 key=true/\br a.2 v/\h.get? t=some o/\o.cls = .type "tuple"/\o.data=.seq #[key,v] m) ->
  ∃c:List<|Key×Value,KV kvs c/\∀(j:Nat) t,ts[j]?=some t->∃key k v o m,c[j]?=some (k,v)/\(eV P w).is k key=true/\h.get? t=some o/\o.cls=.type "tuple"/\o.data=.seq #[key,v] m
 |[],ts,b,_=>by
  have:ts=[]:=Ci.mp b;subst this;exact⟨[],.nil,λj t h=>by simp at h⟩
 |a :: r,[],b,_=>by simp at b
 |a :: r,t :: ts,b,d=>by
  obtain⟨key,v,o,m,i,l,n,p,q⟩:=d 0 t a rfl rfl;obtain⟨c,s,u⟩:=V6 (by simpa using b) λj t a x y=>d (j+1) t a (by simpa using x) (by simpa using y);refine⟨(a.1,v):: c,.cons ⟨rfl,l⟩ s,λj A f=>?_⟩;cases j with
  |zero=>
   cases f;exact⟨key,a.1,v,o,m,rfl,i,n,p,q⟩
  |succ j=>
   obtain⟨key,k,v,o,m,e,z⟩:=u j A (by simpa using f);exact⟨key,k,v,o,m,by simpa using e,z⟩
inductive d7(xs:List V)(H:Hp)(Q:VK):Prop
 |mk (a:Addr)(ts:List Addr)(kvs:List<|Key×V)(_:xs=[.ref a])(_:H a=some (.lst<|ts.map V.ref))(_:ts.length=kvs.length)(_:ts.length<sizeLine)(_:(∀(j:Nat) t kv,ts[j]?=some t->kvs[j]?=some kv->H t=some (.tup [kV kv.1,kv.2])))(_:∀d,H d=none->Q (.ref d) (upd H d<|.dK<|kvs.foldl (λa p=>putK a p.1 p.2) []))
theorem V7{X:Cx}(L:X.calm=true):i7 X (.type "dict") d7:=by
 intro w s σ H xs us Q I r h;obtain⟨a,ts,kvs,rfl,M,N,hz,O,q⟩:=h;obtain⟨u,rfl,f⟩:=io r;cases (show u=Value.ref a from f);obtain⟨z,c,n,rv,e⟩:=(show aI X.prog X.w H s.heap a (.lst<|ts.map V.ref)from I.aP a _ M);have T:=rv.length;rw[Aa]at T;have Y:∀(j:Nat)t,ts[j]?=some t->c[j]?=some (.ref t):=λj t d=>by
  obtain⟨u,hu,f⟩:=rv.get (i:=j) (x:= .ref t) (by rw[Aj,d];rfl);cases (show u=Value.ref t from f);exact hu
 have pair:∀(j:Nat) t b,ts[j]?=some t->kvs[j]?=some b->∃key v o m,(eV X.prog X.w).is b.1 key=true/\br b.2 v/\s.heap.get? t=some o/\o.cls=.type "tuple"/\o.data=.seq #[key,v] m:=λj t b y A=>by
  obtain⟨z2,fX,jM,o,eo,co,m,dm⟩:=(show aI X.prog X.w H s.heap t (.tup [kV b.1,b.2])from I.aP t _<|O j t b y A);obtain⟨key,v,e3,r1,r2⟩:=jM.two;refine⟨key,v,o,m,rM r1,r2,eo,co,?_⟩;rw[dm,e3]
 obtain⟨rs,B,hr⟩:=V6 N pair;have qJ:=B.length;have hP:MH (eV X.prog X.w) s.heap c rs:=by
  refine⟨by lia,λj it d=>?_⟩;have qK:j<ts.length:=by have:=(Ad.mp d).1;omega
  have E:=Ab qK;have G:=Y j _ E;rw[d]at G;obtain⟨key,k,v,o,m,q1,q2,q3,q4,q5⟩:=hr j _ E;exact⟨ts[j],key,k,v,o,m,Option.some.inj G,q1,q2,q3,q4,q5⟩
 refine li (knd:=eV X.prog X.w) e rfl rfl rfl hP (by lia) (I.ok.hd L) λh' tk kp D=>?_;have J:∀(l:List<|Key×V)(a:List<|Key×V),(l.foldl (λa p=>putK a p.1 p.2) a).length<=a.length+l.length:=by
  intro l
  induction l with
  |nil=>intro a;exact Aq _
  |cons p r ih=>
   intro a;rw[Dq,Au];have y:=ih<|putK a p.1 p.2;have A:=jm a p.1 p.2;lia
 refine⟨.ref s.heap.objs.size,_,I.laid (t':=tk) kp (Aq _) (show aI X.prog X.w _ h' _ (.dK<|kvs.foldl (λa p=>putK a p.1 p.2) []) from⟨?_,?_,_,TM (kvs:=kvs) (ps:=[]) (acc:=[]) .nil B,D⟩),rfl,q _<|I.aP.fresh<|Aq _⟩
 ·grind
 ·exact beq_eq_false_iff_ne.mpr<|De I.big
def be.cT{ch:List Addr}(I:be X a i H s)(f:∀b∈ch,cJ X a H b)(k:∀b o,b∉ch->s.heap.get? b=some o->h'.get? b=some o):be X a i H {s with heap:=h',toks:=t'}:=by
 have h:∀b u,H b=some u->b∉ch:=λb u e z=>by rw[(f b z).1]at e;cases e
 refine I.step (λb j=>?_) (λb o _ _ d e _=>k b o d e) (λb o _ _ d e _=>⟨o.slots,k b o d e⟩) (λ_ _ _ _ n=>n)
  (λb o d e=>⟨o,k b o d e⟩) (λ_ _ e=>e) (λ_ _ _ e=>e) (λb ps e=>⟨#[],by rw[e];simp⟩) (λm l=>?_) (λb u e=>?_) I.bare
 ·obtain⟨B,f1,f2,p,t,w⟩:=f b j;exact⟨p,f1,t,w⟩
 ·obtain⟨o,x,y,A,r⟩:=l;exact⟨o,x,y,k _ o (λz=>(f _ z).2.1 rfl) A,r⟩
 ·refine(I.aP b u e).jX (λc v d q=>k c v ?_ q) (λ_ q=>q) λ_ _ q=>q
  obtain z|z:=d
  ·rw[z];exact h b u e
  ·exact h c _ z
def F4(K:aa)(a b:Addr):It:=
  ⟨λi H => ∃xs c x y, av K H a xs ∧ av K H b c ∧ xs[i]?=some x ∧ c[i]?=some y,
   λi H v d=>∃T x y,H T=none/\v=.ref T/\d=upd H T (.tup [x,y])/\(∀xs,av K H a xs->xs[i]?=some x)/\∀c,av K H b c->c[i]?=some y,
   λi H=>∃xs c,av K H a xs/\av K H b c/\(xs.length<=i\/c.length<=i)⟩
def V9(m a b:Addr)(i:Nat)(h:Heap):Prop:=
 IsZip h (m+4) (m+2) (m+3) .none/\IsPair h (m+2) (.ref m) (.ref<|m+1)/\(∃x y,IsPair h (m+3) x y)/\h.IsListIter m a i/\h.IsListIter (m+1) b i
def V'(z:V9 m a b i h)(d:h.IsList a xs)(f:h.IsList b ys):ZipApart (m+4) (m+2) (m+3) m (m+1) a b:=by
  obtain⟨j,B,⟨x,y,k⟩,⟨D,n,p,_⟩,⟨E,q,r,_⟩⟩:=z;have cls:∀{l:Addr} {t:Array Value} {c:Addr} {o:Obj},h.IsList l t->h.get? c=some o->o.cls ≠ .type "list"->l≠c:=λu v w e=>by
    obtain⟨ol,s,A,_⟩:=u;rw[e,v]at s;cases s;exact w A
  exact { TIz := by simp, TOz := by simp, i1z := by simp, i2z := by simp, TITO := by simp, TIi1 := by simp, TIi2 := by simp, TOi1 := by simp, TOi2 := by simp, i12 := by simp
          l1z:=cls d j (by show Value.type "zip"≠Value.type "list";decide),l1TO:=cls d k (by show Value.type "tuple"≠Value.type "list";decide),l1i1:=cls d n (by rw[p];decide),l1i2:=cls d q<|by rw[r];decide
          l2z:=cls f j (by show Value.type "zip"≠Value.type "list";decide),l2TO:=cls f k (by show Value.type "tuple"≠Value.type "list";decide),l2i1:=cls f n (by rw[p];decide),l2i2:=cls f q (by rw[r];decide)}
def p0{w:World}{K:aa}(m a b:Addr):pi P w K (.Tuple elts k tp) (F4 K a b) [m,m+1,m+2,m+3,m+4] (m+4) (V9 m a b) where
 mem:=by simp
 obj:=λi h st c hc=>by
  obtain⟨z1,z2,⟨x,y,z3⟩,⟨o4,e4,c4,d4⟩,⟨o5,e5,c5,d5⟩⟩:=st;simp only[Ak,Cs,HN]at hc
  obtain rfl|rfl|rfl|rfl|rfl:=hc
  ·grind
  ·grind
  ·grind
  ·grind
  ·grind
 keep:=λi h h' st kp=>by
  obtain⟨z1,z2,⟨x,y,z3⟩,⟨o4,e4,r4⟩,⟨o5,e5,r5⟩⟩:=st;exact⟨kp _ (by simp) _ z1,kp _ (by simp) _ z2,⟨x,y,kp _ (by simp) _ z3⟩,⟨o4,kp _ (by simp) _ e4,r4⟩,⟨o5,kp _ (by simp) _ e5,r5⟩⟩
 item:=by
  intro X hP hw hK hc i pins s σ H E I hf st hg;subst hP hw hK;obtain⟨xs,ys,x,y,jO,nW,hx,hy⟩:=hg;obtain⟨yS,F5,p1,F6⟩:=I.list jO;obtain⟨fX,jM,p2,F7⟩:=I.list nW;obtain⟨u1,fv,ru1⟩:=F5.get hx;obtain⟨u2,MM,ru2⟩:=jM.get hy;have D:=V' st p1.isList p2.isList;obtain⟨z1,z2,⟨x0,y0,z3⟩,z4,z5⟩:=id st;refine wpAny_pyNext_zip_item D z1 z2 z3 z4 z5 p1.isList p2.isList (by simpa using fv) (by simpa using MM) λh' a1 a2 a3 a4 a5 a6 kp=>?_;have nT:∀c∈[m,m+1,m+2,m+3,m+4],c≠s.heap.objs.size:=λc b9=>by
   have:∃o,s.heap.get? c=some o:=by
    obtain⟨o4,e4,_⟩:=z4;obtain⟨o5,e5,_⟩:=z5;simp only[Ak,Cs,HN]at b9
    obtain rfl|rfl|rfl|rfl|rfl:=b9
    ·exact⟨_,e4⟩
    ·exact⟨_,e5⟩
    ·exact⟨_,z2⟩
    ·exact⟨_,z3⟩
    ·exact⟨_,z1⟩
   obtain⟨o,e⟩:=this;exact Bw<|Ax e
  have I1:be X pins σ (upd H s.heap.objs.size<|.tup [x,y]) {s with heap:=s.heap.push {cls:= .type "tuple",data:= .seq #[u1,u2]}}:=
   I.laid (λb o e=>Am _ e) (Aq _) (show aI X.prog X.w _ _ _ (.tup [x,y]) from⟨Z2,[u1,u2],.cons ru1<|.cons ru2 .nil,⟨_,Az _ rfl,rfl,_,rfl⟩⟩)
  have f1:∀ c∈[m,m+1,m+2,m+3,m+4],cJ X pins (upd H s.heap.objs.size<|.tup [x,y]) c:=λc b9=>⟨by rw[ax<|nT c b9];exact(hf c b9).1,(hf c b9).2⟩;have yE:∀ c o,c∉[m,m+1,m+2,m+3,m+4]->(s.heap.push {cls:= .type "tuple",data:= .seq #[u1,u2]}).get? c=some o->h'.get? c=some o:=λc o b9 e=>by
   obtain⟨ec,eo⟩|e':=Heap.get?_push_cases e
   ·rwa[ec,eo]
   ·grind
  have I2:=be.cT (h':=h') (t':=s.toks) I1 f1 yE;refine⟨_,rfl,wpAny_letOwnedTupleGo_zip (s:={s with heap:=h'}) a1 λh2 b1 sb=>?_⟩;have z2':IsPair h' (m+2) (.ref m) (.ref<|m+1):=kp _ _ (by simp) (by simp) (by simp) (by simp) z2;have kp3:∀c o,c∉[m+4]->h'.get? c=some o->h2.get? c=some o:=λc o b9 e=>(sb.2 c<|by simpa using b9).trans e;have I3:=be.cT (h':=h2) (t':=s.toks) I2 (ch:=[m+4]) (λc b9=>f1 c<|by simp at b9;simp[b9]) kp3;refine⟨.ref s.heap.objs.size,_,I3,rfl,⟨_,x,y,(I.aP.fresh<|Aq _),rfl,rfl,λzs hz=>by rwa[I.fP hz jO],λzs hz=>by rwa[I.fP hz nW]⟩,?_,λc b9=>(f1 c b9).1⟩;have sx:∀c o,c≠m+4->h'.get? c=some o->h2.get? c=some o:=λc o b9 e=>(sb.2 c b9).trans e;obtain⟨o3,e3,r3⟩:=a3;obtain⟨o4,e4,r4⟩:=a4;exact⟨b1,sx _ _ (by simp) z2',⟨u1,u2,sx _ _ (by simp) a2⟩,⟨o3,sx _ _ (by simp) e3,r3⟩,⟨o4,sx _ _ (by simp) e4,r4⟩⟩
 done:=by
  intro X hP hw hK hc i pins s σ H E I hf st hg;subst hP hw hK;obtain⟨xs,ys,jO,nW,MO⟩:=hg;obtain⟨yS,F5,p1,F6⟩:=I.list jO;obtain⟨fX,jM,p2,F7⟩:=I.list nW;have l1:=F5.length;have l2:=jM.length;obtain⟨z1,z2,⟨x0,y0,z3⟩,z4,z5⟩:=id st;refine wpAny_pyNext_zip_end (I.ok.hd hc) (V' st p1.isList p2.isList) z1 z2 z3 z4 z5 p1.isList p2.isList ?_ λh' kp=>⟨rfl,I.cT (t':=s.toks) (ch:=[m,m+1,m+2,m+3,m+4]) hf λc o b9 e=>?_⟩
  ·grind
  ·grind
 self:=λ_ _ _ _ _ st h=>wpAny_pyIter_zip st.1 h
def MQ(K:aa)(ta:TA):TI:=λd H R=>ta d H λe c=>∃a b,e=[.ref a,.ref b]/\(∃xs,av K c a xs)/\(∃f,av K c b f)/\R (F4 K a b) c
def Wa{X:Cx}{m:Pos}(n:Gl X "zip")(o:X.mg "zip" = none)(r:PA X [a,b] ta)(t:starEach [a,b] X.env=[(false,eval a X.env),(false,eval b X.env)]:=by rfl)(j:starEach [b] X.env=[(false,eval b X.env)]:=by rfl):
  PI X (.Tuple elts k m) (.Call (.Name "zip" p) [a,b] [] pos) (MQ X.K ta):=by
 intro d s w H R I h;refine Call_ (wa I n o boot_zip<|JM (aO (r pos d s w H _ I h) λus c⟨Y,z,f,A,B⟩=>?_) (by rw[t,j])<|by rw[j];rfl);obtain⟨x,y,e,⟨xs,D⟩,⟨ys,E⟩,q⟩:=B;subst e;obtain⟨u,v,rfl,G,rv⟩:=A.two;cases (show u=Value.ref x from G);cases (show v=Value.ref y from rv);obtain⟨yS,F5,J,F6⟩:=f.list D;obtain⟨fX,jM,L,F7⟩:=f.list E;refine call_zip_2 J.isList L.isList λh' l M N O Q a6 T=>?_;apply wpAny_pyIter_zip l;refine⟨c.heap.objs.size+4,[c.heap.objs.size,c.heap.objs.size+1,c.heap.objs.size+2,c.heap.objs.size+3,c.heap.objs.size+4],_,_,z,rfl,f.kept T,p0 c.heap.objs.size x y,⟨l,M,⟨_,_,N⟩,O,Q⟩,λb hb=>?_,q⟩;have i:c.heap.objs.size<=b:=by grind
 exact f.m7 i<|f.aP.fresh i
noncomputable def wN(b c d:Expr)(f1:Ô)(e a:Expr)(f2:Ô)(scope:Scope)(pos:Pos)(acc:Value)(env:Env):Sem Unit:=do
 let x <-eval a env
 standAt a.pos
 let x <-foldedSetIterable a env x
 let _ <-runOwn (.compStart (.ListComp b [⟨c,d,f1,0⟩,⟨e,a,f2,0⟩] scope pos) 1 (<-holding [x]<|pyIter x) acc env) env
def q6h:gf (.ListComp a [⟨b,c,f1,0⟩,⟨d,e,f2,0⟩] scope pos) 0 b c f1 acc env (wN a b c f1 d e f2 scope pos acc env):=⟨rfl,λ_=>rfl,λ_ _ _=>rfl,λ_ _=>rfl,λ_ _ _=>rfl,λ_ _=>rfl,λit=>by
 unfold wN;simp;rfl⟩
def q73:gf (.ListComp a [⟨d,e,f1,0⟩,⟨b,c,f2,0⟩] scope pos) 1 b c f2 acc env (wb a acc env):=⟨rfl,λ_=>rfl,λ_ _ _=>rfl,λ_ _=>rfl,λ_ _ _=>rfl,λ_ _=>rfl,λ_=>rfl⟩
def q2w(j:X.xe=λ_ _=>False)(k:X.calm=true)(l:PI X f i m)(h:m b H λJ n=>kK X f f2 (wb c acc X.env) J Q b n)
  (o:∀x,foldedSetIterable i X.env x=pure x:=by intro _;rfl):pD X (wN c z A f1 f i f2 scope pos acc X.env) b H Q:=by
 refine⟨λa s I=>?_⟩;unfold wN;refine BJ<|aO (l a s b H _ I h) λx B p=>?_;refine BJ<|DX<|BJ<|IK (o x)<|BJ<|CK<|CZ p (λD E r=>?_) λ_ _ e=>e;obtain⟨it,G,L,J,M,e,t,T,cf,u,q⟩:=r;subst e;refine BJ<|wpAny_runOwn ?_;exact EZ j k q73 t T cf u q λd v N w y=>BP ⟨d,v,w,y⟩
def q3b(l:Scope)(N N':Ñ)(n:Nat)(t:PI X f i u)
  (h:u j H λJ p=>∀D,p D=none->∀r a s₀ H₀ ex,kK (iX X N' scope r a s₀ H₀ ex) f f1 (wN k f i f1 w y f2 scope pos (.ref D)<|compEnvC scope r a X.env) J (λ_ H'=>Q (.ref D) H') (j++replicate n none)<|upd p D<|.lst [])
  (z:X.calm=true:=by rfl) (A:X.env.scope=l:=by rfl) (B:X.N=N:=by rfl) (E:rP l scope N N'=true:=by decide +kernel) (G:N'.length=N.length+n:=by rfl)
  (L:∀x,foldedSetIterable i X.env x=pure x:=by intro _;rfl):Ev X (.ListComp k [⟨f,i,f1,0⟩,⟨w,y,f2,0⟩] scope pos) j H Q:=by
 refine⟨λc s I=>?_⟩;subst A B;have d:=b8.of E;rw[eval_ListComp];refine FP rfl L (wu λx M O=>I.ok.has x.1<|d.free x M O) d.kind d.names (aO (t c s j H _ I h) λv s1 Y=>aO Y λm8 s2 h2=>?_);obtain⟨it,fp,tn,J,H2,e,I2,T,cf,lT,q⟩:=h2;subst e;refine yu (u0:=λ_=> .lst []) (λ_ _ _ h=>DN h<|by show(0:Nat)<=sizeLine;exact By _) (λ_ _ _=>⟨By _,[],0,.nil,Az _ rfl⟩) z d G (λ_ _=>q6h) I2 T cf lT q ?_;intro D a H' s' m IX hn hC c1 c2 c3 c4 qq;exact⟨m,hn,λh' jo=>⟨.ref D,H',IX.turned (λb o hb e=>jo.extBut b o hb e) hC (CG<|CG c1) (.inr c2) c3 c4,rfl,qq⟩⟩
theorem yT(j:A.units+1<cLine)(I:be X d D H s)(g:bO H a y v H')(w:br y u)(rv:br v r)(h:∀s',be X d D H' s'->Q () s'):
  wpAny (model X.prog X.w) A (dictSet a u r) Q E s:=by
 obtain⟨kvs,k,e,m,l,n⟩|⟨kvs,k,b,e,m,x,l,n⟩:=g
 ·subst m n;obtain⟨z,hd,G,rel,o⟩:=K3 I.aP e;have J:G.length<=sizeLine:=by rwa[<-rel.length]
  have p:(putK kvs k v).length<=sizeLine:=by have:=jm kvs k v;lia
  refine wpAny_dictSet_pairs (rM w) o λB f t=>h _ ?_;have L:∃q,B.get? a=some q:=let ⟨q,_,_,i,_⟩:=f;⟨q,i⟩
  exact rN I (e▸True.intro) t L<|K5 p hd (rel.put k rv) f
 ·subst m n;cases (show u=Value.ref b from w);obtain⟨z,hd,xs,rel,o⟩:=Um I.aP e;have J:xs.length<=sizeLine:=by rwa[<-Paired.length rel]
  have p:(putK kvs k v).length<=sizeLine:=by have:=jm kvs k v;omega
  have room:(tupleKind<|eV X.prog X.w).room A:=by first|exact j|exact Nat.lt_of_succ_lt j|exact Gq (Fm _) j
  refine wpAny_dictSet_heap room (wq I.aP x) o λB f t=>h _ ?_;obtain⟨q,M,N,i,O,T,Y,_,h5⟩:=f;refine rN I (by rw[e];exact True.intro) t ⟨q,i⟩ ⟨p,hd,_,(rel.put k x rv).keeps λc ys ec=>?_,q,M,N,i,O,T,Y,h5⟩;rwa[ax<|cm ec e λz=>nomatch z]
def qL(k v:Expr)(acc:Value)(env:Env):Sem Unit:=do
 let a <-eval k env
 let b <-holding [a]<|eval v env
 match acc with
 |.ref d=>do
  standAt {k.pos with endLine:=v.pos.endLine,endCol:=v.pos.endCol}
  holding [a,b] (dictSet d a b)
 |_=>unsupported "internal:dictcomp"
def wO(k v b c:Expr)(f1:Ô)(d a:Expr)(f2:Ô)(scope:Scope)(pos:Pos)(acc:Value)(env:Env):Sem Unit:=do
 let x <-eval a env
 standAt a.pos
 let x <-foldedSetIterable a env x
 let _ <-runOwn (.compStart (.DictComp k v [⟨b,c,f1,0⟩,⟨d,a,f2,0⟩] scope pos) 1 (<-holding [x]<|pyIter x) acc env) env
def Ha:gf (.DictComp k v [⟨a,b,f1,0⟩] scope pos) 0 a b f1 acc env (qL k v acc env):=⟨rfl,λ_=>rfl,λ_ _ _=>rfl,λ_ _=>rfl,λ_ _ _=>rfl,λ_ _=>rfl,λit=>by
 unfold qL;cases acc<;>first|rfl|(simp;rfl)⟩
def dg:gf (.DictComp k v [⟨a,b,f1,0⟩,⟨c,d,f2,0⟩] scope pos) 0 a b f1 acc env (wO k v a b f1 c d f2 scope pos acc env):=⟨rfl,λ_=>rfl,λ_ _ _=>rfl,λ_ _=>rfl,λ_ _ _=>rfl,λ_ _=>rfl,λit=>by
 unfold wO;simp;rfl⟩
def vn:gf (.DictComp k v [⟨c,d,f1,0⟩,⟨a,b,f2,0⟩] scope pos) 1 a b f2 acc env (qL k v acc env):=⟨rfl,λ_=>rfl,λ_ _ _=>rfl,λ_ _=>rfl,λ_ _ _=>rfl,λ_ _=>rfl,λit=>by
 unfold qL;cases acc<;>first|rfl|(simp;rfl)⟩
def Wb(f:X.A.units+1<cLine)(h:Ev X k b H λy d=>Ev X v b d λx e=>∃c,bO e D y x c/\Q b c):pD X (qL k v (.ref D) X.env) b H Q:=by
 refine⟨λa s I=>?_⟩;unfold qL;refine BJ<|aO (h.run a s I) λt i⟨y,d,j,l,m⟩=>?_;refine BJ<|CK<|aO (m.run a i j) λu w⟨x,e,n,o,c,p,q⟩=>?_;exact BJ<|DX<|CK<|yT f n p l o λz r=>⟨b,c,r,q⟩
def nk(i:X.xe=λ_ _=>False)(j:X.calm=true)(l:PI X d f m)(h:m b H λJ n=>kK X d f2 (qL k v acc X.env) J Q b n)
  (o:∀x,foldedSetIterable f X.env x=pure x:=by intro _;rfl):pD X (wO k v A B f1 d f f2 scope pos acc X.env) b H Q:=by
 refine⟨λa s I=>?_⟩;unfold wO;refine BJ<|aO (l a s b H _ I h) λx D p=>?_;refine BJ<|DX<|BJ<|IK (o x)<|BJ<|CK<|CZ p (λE G r=>?_) λ_ _ e=>e;obtain⟨it,L,M,J,N,e,t,T,cf,u,q⟩:=r;subst e;refine BJ<|wpAny_runOwn ?_;exact EZ i j vn t T cf u q λc w O y z=>BP ⟨c,w,y,z⟩
def Wc(j:Scope)(N N':Ñ)(n:Nat)(u:PI X l p w)
  (h:w f H λJ r=>∀D,r D=none->∀t a s₀ H₀ ex,kK (iX X N' scope t a s₀ H₀ ex) l f1 (qL k v (.ref D)<|compEnvC scope t a X.env) J (λ_ H'=>Q (.ref D) H') (f++replicate n none)<|upd r D<|.dT [])
  (y:X.calm=true:=by rfl) (z:X.env.scope=j:=by rfl) (A:X.N=N:=by rfl) (B:rP j scope N N'=true:=by decide +kernel) (E:N'.length=N.length+n:=by rfl)
  (G:∀x,foldedSetIterable p X.env x=pure x:=by intro _;rfl):Ev X (.DictComp k v [⟨l,p,f1,0⟩] scope pos) f H Q:=by
 refine⟨λc s I=>?_⟩;subst z A;have d:=b8.of B;refine FP rfl G (wu λx L M=>I.ok.has x.1<|d.free x L M) d.kind d.names (aO (u c s f H _ I h) λxv s1 O=>aO O λm8 s2 Y=>?_);obtain⟨it,fp,tn,J,H2,e,I2,T,cf,lT,q⟩:=Y;subst e;refine yu (λ_ _ _ h=>DN h) (λ_ h i=>K8 h i) y d E (λ_ _=>Ha) I2 T cf lT q ?_;intro D a H' s' m IX hn hC c1 c2 c3 c4 qq;exact⟨m,hn,λh' jo=>⟨.ref D,H',IX.turned (λb o i e=>jo.extBut b o i e) hC (CG<|CG c1) (.inr c2) c3 c4,rfl,qq⟩⟩
def k6u(p:Scope)(N N':Ñ)(n:Nat)(u:PI X f i w)
  (h:w j H λJ r=>∀D,r D=none->∀t a s₀ H₀ ex,kK (iX X N' scope t a s₀ H₀ ex) f f1 (wO k v f i f1 y z f2 scope pos (.ref D)<|compEnvC scope t a X.env) J (λ_ H'=>Q (.ref D) H') (j++replicate n none)<|upd r D<|.dT [])
  (A:X.calm=true:=by rfl) (B:X.env.scope=p:=by rfl) (E:X.N=N:=by rfl) (G:rP p scope N N'=true:=by decide +kernel) (L:N'.length=N.length+n:=by rfl)
  (M:∀x,foldedSetIterable i X.env x=pure x:=by intro _;rfl):Ev X (.DictComp k v [⟨f,i,f1,0⟩,⟨y,z,f2,0⟩] scope pos) j H Q:=by
 refine⟨λc s I=>?_⟩;subst B E;have d:=b8.of G;refine FP rfl M (wu λx O Y=>I.ok.has x.1<|d.free x O Y) d.kind d.names (aO (u c s j H _ I h) λxv s1 h1=>aO h1 λm8 s2 h2=>?_);obtain⟨it,fp,tn,J,H2,e,I2,T,cf,lT,q⟩:=h2;subst e;refine yu (λ_ _ _ h=>DN h) (λ_ h l=>K8 h l) A d L (λ_ _=>dg) I2 T cf lT q ?_;intro D a H' s' m IX hn hC c1 c2 c3 c4 qq;exact⟨m,hn,λh' jo=>⟨.ref D,H',IX.turned (λb o l e=>jo.extBut b o l e) hC (CG<|CG c1) (.inr c2) c3 c4,rfl,qq⟩⟩
open bG
def Wd(S:aD prog w s.heap a zs)(c:zs.length+1<1000)
  (h:∀h',Heap.SameBut a s.heap h'->aD prog w h' a (added zs z)->Q .none {s with heap:=h',toks:=s.toks+1}):
  ba prog w A (call (.builtin "set.add") [.ref a,.str z l]) Q E s:=by
 have d:s.TypeIs (.ref a) "set":=let ⟨o,_,_,_,e,f,_⟩:=S;⟨o,e,f.1⟩
 refine DR F.slot_set_add d F.entry_set_add ?_<|F.args_set_add_2 _ _;unfold Builtin.«set.add» Builtin.Frozenset.oneOther;simp only[Gz,bind_assoc];unfold Builtin.Frozenset.addrOf setAdd;refine BJ<|BP ?_
 try dsimp only
 refine BJ<|BP ?_
 try dsimp only
 refine BJ<|CK ?_;refine BJ ((PySem.strKind prog w).pyHash (k:=z) (by simp[PySem.strKind,Value.isStrOf]) ?_);refine L0 S c λb h' i j=>?_;exact BP ⟨_,rfl,h h' i j⟩
def i3(k:Q (.ref s.heap.objs.size) {s with heap:=s.heap.push (jt w)}):ba prog w A (newSet<|.type "set") Q E s:=by
 unfold newSet;refine BJ<|wp_text ?_
 dsimp only
 simp only[newObj];exact BJ<|QJ<|BP k
def yU(a:Expr)(acc:Value)(env:Env):Sem Unit:=do let v <- eval a env;standAt a.pos;let _ <- call (.builtin "set.add") [acc,v]
def wQ(b c d:Expr)(f1:Ô)(e a:Expr)(f2:Ô)(scope:Scope)(pos:Pos)(acc:Value)(env:Env):Sem Unit:=do
 let x <-eval a env
 standAt a.pos
 let x <-foldedSetIterable a env x
 let _ <-runOwn (.compStart (.SetComp b [⟨c,d,f1,0⟩,⟨e,a,f2,0⟩] scope pos) 1 (<-holding [x]<|pyIter x) acc env) env
def q4g:gf (.SetComp a [⟨b,c,f1,0⟩,⟨d,e,f2,0⟩] scope pos) 0 b c f1 acc env (wQ a b c f1 d e f2 scope pos acc env):=⟨rfl,λ_=>rfl,λ_ _ _=>rfl,λ_ _=>rfl,λ_ _ _=>rfl,λ_ _=>rfl,λit=>by
 unfold wQ;simp;rfl⟩
def q4k:gf (.SetComp a [⟨d,e,f1,0⟩,⟨b,c,f2,0⟩] scope pos) 1 b c f2 acc env (yU a acc env):=⟨rfl,λ_=>rfl,λ_ _ _=>rfl,λ_ _=>rfl,λ_ _ _=>rfl,λ_ _=>rfl,λit=>by
 unfold yU
 first|rfl|(simp;rfl)⟩
def gA(h:Ev X b c H λv d=>∃z zs,v=.str z/\d D=some (bu X.prog X.w D zs)/\zs.length+1<1000/\Q c (upd d D<|bu X.prog X.w D<|added zs z)):pD X (yU b (.ref D) X.env) c H Q:=by
 refine⟨λa s I=>?_⟩;unfold yU;refine BJ<|aO (h.run a s I) λv p⟨x,d,f,k,z,zs,e,i,l,q⟩=>?_;subst e;obtain⟨r,rfl⟩:=k;refine BJ (DX<|BJ<|Wd (f.set i) l λt m j=>BP ⟨c,_,rN f (i▸True.intro) m ?_<|wH j,q⟩);obtain⟨o,_,_,_,n,_⟩:=j;exact⟨o,n⟩
def Ve(j:X.xe=λ_ _=>False)(k:X.calm=true)(l:PI X f i m)(h:m b H λJ n=>kK X f f2 (yU c acc X.env) J Q b n)
  (o:∀x,foldedSetIterable i X.env x=pure x:=by intro _;rfl):pD X (wQ c z A f1 f i f2 scope pos acc X.env) b H Q:=by
 refine⟨λa s I=>?_⟩;unfold wQ;refine BJ<|aO (l a s b H _ I h) λx B p=>?_;refine BJ<|DX<|BJ<|IK (o x)<|BJ<|CK<|CZ p (λD E r=>?_) λ_ _ e=>e;obtain⟨it,G,L,J,M,e,t,T,cf,u,q⟩:=r;subst e;refine BJ<|wpAny_runOwn ?_;exact EZ j k q4k t T cf u q λd v N w y=>BP ⟨d,v,w,y⟩
def q1y(l:Scope)(N N':Ñ)(n:Nat)(t:PI X f i u)
  (h:u j H λJ p=>∀D,p D=none->∀r a s₀ H₀ ex,kK (iX X N' scope r a s₀ H₀ ex) f f1 (wQ k f i f1 v w f2 scope pos (.ref D)<|compEnvC scope r a X.env) J (λ_ H'=>Q (.ref D) H') (j++replicate n none)<|upd p D<|bu X.prog X.w D [])
  (y:X.calm=true:=by rfl) (z:X.env.scope=l:=by rfl) (A:X.N=N:=by rfl) (B:rP l scope N N'=true:=by decide +kernel) (E:N'.length=N.length+n:=by rfl)
  (G:∀x,foldedSetIterable i X.env x=pure x:=by intro _;rfl):Ev X (.SetComp k [⟨f,i,f1,0⟩,⟨v,w,f2,0⟩] scope pos) j H Q:=by
 refine⟨λc s I=>?_⟩;subst z A;have d:=b8.of B;refine FP rfl G (wu λx L M=>I.ok.has x.1<|d.free x L M) d.kind d.names (aO (t c s j H _ I h) λxv s1 O=>aO O λm8 s2 Y=>?_);obtain⟨it,fp,tn,J,H2,e,I2,T,cf,lT,q⟩:=Y;subst e;refine yu (λ_ _ _ h=>i3 h) (λ_ h _=>wH<|Mg<|Az _ rfl) y d E (λ_ _=>q4g) I2 T cf lT q ?_;intro D a H' s' m IX hn hC c1 c2 c3 c4 qq;exact⟨m,hn,λh' jo=>⟨.ref D,H',IX.turned (λb o hb e=>jo.extBut b o hb e) hC (CG<|CG c1) (.inr c2) c3 c4,rfl,qq⟩⟩
end L2
namespace L2
open PySem PySem.Builtin PySem.Builtin.Str
end L2
namespace PySem
def vz(h:Heap)(d:Addr)(a:Array DictEntry)(b:Nat):Prop:=∃o,h.get? d=some o/\o.ExactDict/\o.data=.dict a b
def xW(d:Addr)(hd:(d == sysModules)=false):MeetsIn P w (Builtin.«dict.items» ⟨[.ref d],[]⟩) (λ_ R u=>u.TypeIs (.ref d) "dict" /\
  R (.ok<|.ret<|.ref u.heap.objs.size) {u with heap:=u.heap.push {cls:= .type "dict_items",data:= .fields #[.ref d]}}):=by
 refine .of_wp λB R u⟨a,k⟩=>?_;unfold Builtin.«dict.items» Builtin.Dict.noArgs;refine BJ<|BJ<|wpAny_notOrdered_dict a ?_;apply BP;rw[Builtin.Dict.showsAll,C<|by rw[hd];exact Av];exact BJ<|BP<|BJ<|DN<|BP ⟨_,rfl,k⟩
def pk(a:s.heap.IsItemsView v d)(c:vz s.heap d e f)
  (k:Q (.ref s.heap.objs.size) {s with heap:=s.heap.push {cls:= .type "dict_itemiterator",data:= .fields #[.none,.bool false,.ref d,.int 0 0,.int e.size 0,.int f 0,.none,.none]}}):
  ba P w A (pyIter<|.ref v) Q E s:=by
 obtain⟨l,h,m,i⟩:=id a;obtain⟨o,f1,f2,b⟩:=c;refine KR a.typeIs F.slot_dict_items_iter<|DR F.slot_dict_items_iter a.typeIs F.entry_dict_items_iter ?_<|F.args_dict_items_iter_1 _;unfold Builtin.«dict_items.__iter__» Builtin.Dict_items.dictOf Builtin.Dict_items.newIterator;refine BJ<|BP<|BJ<|BJ<|JH h i rfl (BP ?_);refine BJ<|BJ<|RB f1 b<|BJ<|TJ f1 b ?_;have j:Builtin.Dict_items.ownsTuple "dict_itemiterator" = true:=by decide
 simp only[j,DQ];refine DN (BP ⟨_,rfl,"dict_itemiterator",_,⟨_,Az _ rfl,rfl⟩,F.slot_dict_itemiterator_next.lookup,?_⟩) ?_
 ·simpa[rawInt,Builtin.Dict_items.ownedTupleFields]using k
 ·simp only[sizeOk,Builtin.Dict_items.ownedTupleFields,Bc,Ah,Au,Fj,DW];lia
def WP(hit:IsItemIter s.heap it d i c.size h y z)(hm:vz s.heap d c h)(hx:c[i]?=some a)
  (k : ∀ h', IsItemIterOut h' it d (i + 1) c.size h a.key a.val s.heap.objs.size → h'.get? s.heap.objs.size = some { cls := .type "tuple", data := .seq #[a.key, a.val] } →
   (∀b o,b≠it->s.heap.get? b=some o->h'.get? b=some o)->Q (some<|.ref s.heap.objs.size) {s with heap:=h'}):ba P w A (pyNext<|.ref it) Q E s:=by
 obtain⟨j,g,l,m,os⟩:=s;obtain⟨o,f1,f2,T⟩:=hm;have ty:Shared.TypeIs ⟨j,g,l,m,os⟩ (.ref it) "dict_itemiterator":=⟨_,hit,rfl⟩;have lt:i<c.size:=by grind
 have ow:Builtin.Dict_items.ownsTuple "dict_itemiterator" = true:=by decide
 unfold pyNext;refine BJ<|LR<|IV ty GZ<|DR GZ ty PN ?_<|OD _;refine BJ<|BP<|BJ<|BJ ?_
 first|refine BJ (GD ty<|BP ?_)|refine BJ<|HY ty<|BP ?_
 refine BJ<|QC hit rfl ?_;simp only[ow,DQ];show wpAny _ _ (if(Value.ref d == Value.none)=true then _ else _) _ _ _;rw[C (show ¬((Value.ref d == Value.none)=true)from Av)];refine BJ<|BP<|BJ<|RB f1 T ?_;rw[C<|by simp];refine BJ<|BP<|BJ<|TJ f1 T ?_;rw[C<|by simp];refine BP ?_;simp only[show ¬((i:Int)<0)from by lia,CW,Bt,hx];refine BJ ?_
 first|refine BJ (GD ty<|BP ?_)|refine BJ<|HY ty<|BP ?_
 refine BJ<|KZ ty ?_;show wpAny _ _ (setField (.ref it) 3 (rawInt<|(i:Int)+1) >>= _) _ _ ⟨j,g,l,m,os⟩;refine BJ (JB hit (by simp) λf q r=>?_);replace r:Heap.SameBut it j f:=r;replace q:IsItemIter f it d (i+1) c.size h y z:=by
  have e:((i+1:Nat):Int)=(i:Int)+1:=by lia
  unfold IsItemIter;rw[e]
  simpa[rawInt]using q
 have Y:Shared.TypeIs ⟨f,g,l,m,os⟩ (.ref it) "dict_itemiterator":=⟨_,q,rfl⟩;refine BJ<|CK<|BJ<|KZ Y<|BJ<|KZ Y ?_;show wpAny _ _ (Builtin.Dict_items.pairFromOwner (.ref it) 6 a.key a.val) _ _ ⟨f,g,l,m,os⟩;unfold Builtin.Dict_items.pairFromOwner Builtin.Dict_items.ownedTupleIsFree;refine BJ<|QD ?_;have p:IsItemIter (f.push {cls:= .type "tuple",data:= .seq #[a.key,a.val]}) it d (i+1) c.size h y z:=Am _ q;have za:f.objs.size=j.objs.size:=r.1;have tb:(f.push {cls:= .type "tuple",data:= .seq #[a.key,a.val]}).get? j.objs.size=some {cls:= .type "tuple",data:= .seq #[a.key,a.val]}:=by rw[<-za];exact Az _ rfl
 have kb:∀ b u,b≠it->j.get? b=some u->(f.push {cls:= .type "tuple",data:= .seq #[a.key,a.val]}).get? b=some u:=λb u n e=>Am _<|r.extBut b u n e;rw[za];generalize f.push {cls:= .type "tuple",data:= .seq #[a.key,a.val]}=n at p tb kb;refine BJ<|BJ<|JH (s:=⟨n,g,l,m,os⟩) p rfl (x:= .none) rfl (BP ?_);simp only[DQ];refine BJ<|JH (s:=⟨n,g,l,m,os⟩) p rfl (x:=y) rfl (BJ<|JH (s:=⟨n,g,l,m,os⟩) p rfl (x:=z) rfl ?_);refine BJ (JB p (by simp) λt v B=>?_);replace B:Heap.SameBut it n t:=B;replace v:IsItemIter t it d (i+1) c.size h a.key z:=v;refine BJ (JB v (by simp) λD G H=>?_);replace H:Heap.SameBut it t D:=H;replace G:IsItemIter D it d (i+1) c.size h a.key a.val:=G;refine BJ (JB G (by simp) λI J L=>?_);replace L:Heap.SameBut it D I:=L;replace J:IsItemIterOut I it d (i+1) c.size h a.key a.val j.objs.size:=J;refine BJ (JB J (by simp) λM N O=>?_);replace O:Heap.SameBut it I M:=O;replace N:IsItemIterOut M it d (i+1) c.size h a.key a.val j.objs.size:=N;have all:=((B.trans H).trans L).trans O;exact BJ<|wpAny_letGo<|BP<|BP ⟨_,rfl,BP<|k M N (all.extBut _ _ (De (Ax hit)) tb) λb u kS e=>all.extBut b u kS<|kb b u kS e⟩
def Tf(c:A.handled=none)(hit:IsItemIter s.heap it d i a.size e y z)(f:vz s.heap d a e)(h:a.size<=i)
  (k:∀h',Heap.ExtBut it s.heap h'->Q none {s with heap:=h'}):ba P w A (pyNext<|.ref it) Q E s:=by
 obtain⟨o,f1,f2,b⟩:=f;have ty:s.TypeIs (.ref it) "dict_itemiterator":=⟨_,hit,rfl⟩;have j:Builtin.Dict_items.ownsTuple "dict_itemiterator" = true:=by decide
 unfold pyNext;refine BJ<|LR<|IV ty GZ<|DR GZ ty PN ?_<|OD _;refine BJ<|BP<|BJ<|BJ ?_
 first|refine BJ (GD ty<|BP ?_)|refine BJ<|HY ty<|BP ?_
 refine BJ<|QC hit rfl ?_;simp only[j,DQ];show wpAny _ _ (if(Value.ref d == Value.none)=true then _ else _) _ _ s;rw[C (show ¬((Value.ref d == Value.none)=true)from Av)];refine BJ<|BP<|BJ<|RB f1 b ?_;rw[C<|by simp];refine BJ<|BP<|BJ<|TJ f1 b ?_;rw[C<|by simp];refine BP ?_;simp only[show ¬((i:Int)<0)from by lia,CW,Bt,Fd h];refine BJ ?_
 first|refine BJ (GD ty<|BP ?_)|refine BJ<|HY ty<|BP ?_
 show wpAny _ _ (setField (.ref it) 2 .none >>= _) _ _ s;refine BJ (DY hit rfl (by simp) ?_);show wpAny _ _ (newExc (.type "StopIteration") [] >>= _) _ _ _;refine BJ ?_;simp only[newExc,newTuple];refine BJ (DN ?_<|by size_fits);refine BJ (IK (by first|rfl|(simp only[firstArgMember];rfl)) ?_);refine DN ?_ (by size_fits);simp only[raiseNew];refine BJ<|wpAny_handled ?_;rw[show A.in1.handled=none from c];refine BJ<|BP<|wpAny_throw ?_;exact BJ<|JR ⟨_,Az _ rfl,rfl⟩ isSubtype_stop<|BP<|k _<|((CV ..).extBut.push _).push _
def j8x:entryFor table "dict_itemiterator.__iter__" = some Builtin.«dict_keyiterator.__iter__»:=
 QB (id':= "dict_keyiterator.__iter__") (by kernel_rfl) rfl (by decide +kernel) (by kernel_rfl)
def Wk(e:IsItemIter s.heap it d i n a y z)(h:Q (.ref it) s):ba P w A (pyIter<|.ref it) Q E s:=by
 have ty:s.TypeIs (.ref it) "dict_itemiterator":=⟨_,e,rfl⟩;refine KR ty PX<|DR PX ty j8x ?_<|F.args_dict_itemiterator_iter_1 _;exact BP ⟨_,rfl,"dict_itemiterator",_,ty,F.slot_dict_itemiterator_next.lookup,h⟩
end PySem
namespace L2
open PySem PySem.Spec PyProof.Rows
def mn(I:be X a f H s)(e:H d=some (.dT kvs)):∃o,s.heap.get? d=some o/\be X a f (upd H d<|.dX o<|.dT kvs) s:=by
 obtain⟨z,hd,xs,r,o,h,i,c,j,k,l,m⟩:=(show aI X.prog X.w H s.heap d (.dT kvs)from I.aP d _ e);refine⟨o,c,?_⟩;have n:KT (upd H d<|.dX o<|.dT kvs) kvs xs:=KT.keeps r λb p q=>by
  rwa[ax<|cm q e λz=>nomatch z]
 exact rN I (e▸True.intro) ⟨rfl,λ_ _=>rfl⟩ ⟨o,c⟩ (show aI X.prog X.w _ s.heap d (.dX o<|.dT kvs) from⟨c,z,hd,xs,n,o,h,i,c,j,k,l,m⟩)
def AL(d:Addr)(o:Obj)(kvs:List<|List Key×V):It:=
  ⟨λi H => H d=some (.dX o<|.dT kvs) ∧ i<kvs.length,
   λi H v a=>∃T b k x,kvs[i]?=some (k,x)/\H b=some (.tup<|k.map kV)/\H T=none/\v=.ref T/\a=upd H T (.tup [.ref b,x]),
   λi H=>H d=some (.dX o<|.dT kvs)/\kvs.length<=i⟩
def Wg(f:cG P w H h)(e:H d=some (.dX o<|.dT kvs))(hd:o.data=.dict a i):
  vz h d a i/\∃xs,KT H kvs xs/\a.toList=xs.map (entryOfKey<|tupleKind<|eV P w):=by
 obtain⟨b,z,_,xs,r,j,q,s,k,l,c,m,t⟩:=(show aI P w H h d (.dX o<|.dT kvs)from f d _ e);have:o=j:=Option.some.inj<|b.symm.trans k;subst this;rw[hd]at c
 injection c with n p
 subst n;subst p;exact⟨⟨o,b,l,hd⟩,xs,r,m⟩
theorem kt_len:∀{kvs}{xs},KT H kvs xs->kvs.length=xs.length:=λr=>by
 induction r with
 |nil=>rfl
 |cons _ _ a=>simp only[Au,a]
theorem kt_at:∀{kvs}{xs},KT H kvs xs->∀{i:Nat}{k:List Key}{x:V},kvs[i]?=some (k,x)->∃b u,xs[i]?=some (k,b,u)/\H b=some (.tup<|k.map kV)/\br x u:=λr=>by
 induction r with
 |nil=>intro i k x h;simp at h
 | @cons p q ps m e t f=>
  intro i k x h;cases i with
  |zero=>
   simp only[RT,Option.some.injEq]at h;subst h;obtain⟨a,b,c⟩:=q;obtain⟨d,j,l⟩:=e;have d:=d;subst d;exact⟨b,c,rfl,j,l⟩
  |succ i=>exact f<|by simpa using h
def Pb{K:aa}(d it:Addr)(o:Obj)(es:Array DictEntry)(ep:Nat)(kvs:List<|List Key×V)(wM:o.data=.dict es ep):
  pi P w K (.Tuple elts kk tp) (AL d o kvs) [it] it (λi h=>∃y z,IsItemIter h it d i es.size ep y z) where
 mem:=by simp
 obj:=λi h st b hb=>by
  have e:b=it:=by simpa using hb
  subst e;obtain⟨y,z,e⟩:=st;exact⟨_,e,λv z=>by cases z⟩
 keep:=λi h h' st k=>let ⟨y,z,e⟩:=st;⟨y,z,k it (by simp) _ e⟩
 item:=by
  intro X hP hw hK hc i pins s σ H E I hf st hg;subst hP hw hK;obtain⟨f0,f1,f2,f3,f4,f5⟩:=hf it (by simp);obtain⟨hd,hi⟩:=hg;obtain⟨pd,xs,r,yV⟩:=Wg I.aP hd wM;obtain⟨y,z,st⟩:=st;have hx:=Ab hi;obtain⟨b,u,jO,hb,ru⟩:=kt_at r hx;have F8:=entry_at yV i;rw[jO]at F8;refine WP st pd F8 λh' q1 q2 kp=>?_;have nT:=Bw<|Ax st;have I1:be X pins σ (upd H s.heap.objs.size<|.tup [.ref b,kvs[i].2]) {s with heap:=s.heap.push {cls:= .type "tuple",data:= .seq #[Value.ref b,u]}}:=
   I.laid (λb o e=>Am _ e) (Aq _) (show aI X.prog X.w _ _ _ (.tup [.ref b,kvs[i].2]) from⟨Z2,[Value.ref b,u],.cons rfl (.cons ru .nil),⟨_,Az _ rfl,rfl,_,rfl⟩⟩)
  have fp:∀c∈[it],cJ X pins (upd H s.heap.objs.size<|.tup [.ref b,kvs[i].2]) c:=λc b9=>by
   have e:c=it:=by simpa using b9
   subst e;exact⟨by rwa[ax nT],f1,f2,f3,f4,f5⟩
  have I2:=be.cT (t':=s.toks) I1 fp λc v b9 e=>by
   have nc:c≠it:=by simpa using b9
   obtain⟨ec,eo⟩|e':=Heap.get?_push_cases e
   ·rwa[ec,eo]
   ·exact kp c v nc e'
  refine⟨_,rfl,wpAny_letOwnedTupleGo_items (s:={s with heap:=h'}) q1 λh2 b1 sb=>?_⟩;have I3:=be.cT (h':=h2) (t':=s.toks) I2 fp λc v b9 e=>(sb.2 c<|by simpa using b9).trans e;exact⟨.ref s.heap.objs.size,_,I3,rfl,⟨_,b,kvs[i].1,kvs[i].2,hx,hb,(I.aP.fresh<|Aq _),rfl,rfl⟩,⟨_,_,b1⟩,λc b9=>(fp c b9).1⟩
 done:=by
  intro X hP hw hK hc i pins s σ H E I hf st hg;subst hP hw hK;obtain⟨hd,hi⟩:=hg;obtain⟨pd,xs,r,yV⟩:=Wg I.aP hd wM;obtain⟨y,z,st⟩:=st;have hl:es.size=kvs.length:=by rw[kt_len r,<-Cb,yV,Aa]
  exact Tf (I.ok.hd hc) st pd (by lia) λh' eb=>⟨rfl,I.cT (t':=s.toks) hf λc v b9 e=>eb c v (by simpa using b9) e⟩
 self:=λ_ _ _ _ _ st h=>let ⟨y,z,e⟩:=st;Wk e h
def qy(b:TE):TI:=λc H R=>b c H λx a=>∃d kvs,x=.ref d/\a d=some (.dT kvs)/\∀o,R (AL d o kvs)<|upd a d<|.dX o<|.dT kvs
def Wh(t:PE X l w)(y:attributeBase l "items" X.env (eval l X.env)=eval l X.env:=by rfl)(c:(ap.endLine == z.line)=true:=by rfl):
  PI X (.Tuple elts T Y) (.Call (.Attribute l "items" ap) [] [] z) (qy w):=by
 intro i s A H R I h;refine wpAny_Call_method0_late y c<|aO (t i s A H _ I h) λv f ⟨x,B,p,D,E⟩=>?_;obtain⟨d,kvs,e,hd,q⟩:=E;subst e;cases (show v=Value.ref d from D);obtain⟨_,k,_,_,o,G,J,j,m,r,_⟩:=(show aI X.prog X.w B f.heap d (.dT kvs)from p.aP d _ hd);have ty:f.TypeIs (.ref d) "dict":=⟨o,j,m.1⟩;refine⟨"dict","dict.items",F.plainAttrs_dict,F.slot_dict_items,F.type_dict_items,ty,λa L=>?_,JF rfl (PySem.evalArgs_none ?_)⟩
 ·cases L;exact⟨o,j,m.2.1⟩
 refine call_meetsIn F.slot_dict_items ty F.entry_dict_items (F.args_dict_items_1 _) (xW d k) ⟨ty,?_⟩;obtain⟨M,N,O⟩:=mn p hd;have:o=M:=Option.some.inj<|j.symm.trans N;subst this;have n:=O.kept (t':=f.toks) (h':=f.heap.push {cls:= .type "dict_items",data:= .fields #[.ref d]}) λb u e=>Am _ e;apply pk ⟨_,Az _ rfl,rfl,rfl⟩ ⟨o,Am _ j,m,r⟩;refine⟨_,[(f.heap.push {cls:= .type "dict_items",data:= .fields #[.ref d]}).objs.size],_,_,_,rfl,n.kept λb u e=>Am _ e,Pb d _ o G J kvs r,⟨_,_,Az _ rfl⟩,λb Q=>?_,q o⟩;have e:b=(f.heap.push {cls:= .type "dict_items",data:= .fields #[.ref d]}).objs.size:=by simpa using Q
 subst e;exact n.m7 (Aq _)<|n.aP.fresh<|Aq _
def fu(Pv:Nat->St->Hp->Prop)(n:Pv 0 r H)(s:∀i a H',i<=kvs.length->Pv i a H'->H' d=some (.dX o<|.dT kvs))
  (t:∀i k x b T a H',kvs[i]?=some (k,x)->Pv i a H'->H' b=some (.tup<|k.map kV)->H' T=none->Eg X u (.ref T) a (upd H' T<|.tup [.ref b,x]) λf w=>Ei X h f w λc j=>if c=true then pD X inner f j (Pv<|i+1)else Pv (i+1) f j)
  (hd:∀a H',Pv kvs.length a H'->after a H'):kK X u h inner (AL d o kvs) after r H:=by
 refine⟨λi m a H'=>m=kvs.length-i/\i<=kvs.length/\Pv i a H',⟨_,rfl,By _,n⟩,?_⟩;rintro i m a H' ⟨rfl,z,p⟩;have q:=s i a H' z p
 by_cases l:i<kvs.length
 ·refine .inr ⟨⟨q,l⟩,Pv<|i+1,λa H' A=>⟨kvs.length-(i+1),by lia,rfl,l,A⟩,λv G y=>?_⟩;obtain⟨T,b,k,x,B,D,E,rfl,rfl⟩:=y;exact t i k x b T a _ B p D E
 ·have e:i=kvs.length:=by lia
  subst e;exact .inl ⟨⟨q,Aq _⟩,hd a H' p⟩
open bG
noncomputable def ah:List α->List α
 |[]=>[]
 |[a]=>[a]
 |a :: _ :: r=>a :: ah r
theorem uJ:∀(xs:List α)(k:Nat),(ah xs)[k]?=xs[2*k]?
 |[],k=>by simp[ah]
 |[a],0=>rfl
 |[a],k+1=>by
  show([]:List α)[k]?=[a][2*(k+1)]?;rw[Bh<|By _,Bh<|by show 1<=_;lia]
 |a :: b :: r,0=>rfl
 |a :: b :: r,k+1=>by
  show(ah r)[k]?=(a :: b :: r)[2*(k+1)]?;rw[uJ r k,show 2*(k+1)=2*k+1+1 by lia];rfl
theorem yW:∀(xs:List α),(ah xs).length=(xs.length+1)/2
 |[]=>by
  show 0=(0+1)/2;lia
 |[a]=>by
  show 1=(1+1)/2;lia
 |a :: b :: r=>by
  show(ah r).length+1=(r.length+1+1+1)/2;rw[yW r];lia
def q2t{α:Type}(xs:List α):(ah xs).length<=xs.length:=by
 rw[yW];lia
theorem Wi:∀{xs}{us},aC xs us->aC (ah xs) (ah us)
 |[],us,r=>by
  have:=r.zero;subst this;exact .nil
 |[a],us,r=>by
  obtain⟨u,rfl,c⟩:=r.one;exact .cons c .nil
 |a :: b :: r,us,h=>by
  cases h with
  |cons d e=>
   cases e with
   |cons i f=>exact .cons d<|Wi f
theorem Wj(g:Nat->Option α):∀c,(∀k,k<c->∃v,g k=some v)->((range c).filterMap g).length=c/\∀k,k<c->((range c).filterMap g)[k]?=g k
 |0,_=>⟨rfl,λk h=>absurd h<|Ep _⟩
 |c+1,h=>by
  obtain⟨a,f⟩:=Wj g c λk b=>h k (by lia);obtain⟨v,d⟩:=h c (by lia);have e:(range<|c+1).filterMap g=(range c).filterMap g++[v]:=by
   rw[Cu,List.filterMap_append,Fb,d];rfl
  rw[e];refine⟨by rw[Ah,a];rfl,λk b=>?_⟩
  by_cases i:k<c
  ·grind
  ·grind
def Y7(a:Ó):slicePick a.toArray none none (some 2)=(ah a).toArray:=by
 unfold slicePick;have c:sliceBounds none none (some 2) a.toArray.size=(0,(a.length:Int),2):=rfl;rw[c]
 congr 1
 show((sliceRange 0 (a.length:Int) 2).filterMap (a.toArray[·]?))=ah a;have d:sliceRange 0 (a.length:Int) 2=(range<|(a.length+1)/2).map λk=>2*k:=by
  unfold sliceRange;have e:(if(2:Int)>0 then(if(0:Int)<(a.length:Int) then((a.length:Int)-0+2-1)/2 else 0) else(if(0:Int)>(a.length:Int) then(0-(a.length:Int)-2-1)/(-2)else 0)).toNat=(a.length+1)/2:=by
   rw[BL<|by decide]
   split<;>lia
  show(range _).map _=_;rw[e];exact At λk _=>by lia
 rw[d,List.filterMap_map];obtain⟨h,f⟩:=Wj (λk=>a.toArray[2*k]?) ((a.length+1)/2) λk b=>⟨a[2*k]'(by lia),by rw[<-Cc];exact Ab (l:=a)<|by lia⟩;apply Dz;intro k;show((range<|(a.length+1)/2).filterMap λk=>a.toArray[2*k]?)[k]?=_
 by_cases b:k<(a.length+1)/2
 ·rw[f k b,uJ,<-Cc]
 ·rw[Bh (by lia),Bh<|by rw[yW];lia]
def q3p(h:Ev X e i H λx d=>∃a xs,x=.ref a/\av X.K d a xs/\∀p,d p=none->Q (.ref p) (upd d p<|.lst<|ah xs)):
  Ev X (.Subscript e (.Slice none none (some<|.Constant (.int 2) j N) O) pos) i H Q:=by
 refine⟨λc s I=>Subscript_<|aO (h.run c s I) λv u ⟨x,d,w,z,a,xs,A,B,q⟩=>?_⟩;subst A;cases (show v=Value.ref a from z);apply wpAny_Slice;rw[evalPart_none];refine BP<|BP ?_;rw[evalPart_some];refine aO ((aF (Q:=λy f=>y=.int 2/\f=d) ⟨rfl,rfl⟩).run c u w) λT k ⟨y,f,l,D,E,G⟩=>?_;subst E G;obtain⟨t,rfl⟩:=D;obtain⟨J,r,L,M⟩:=l.list B;have m:=r.length;have n:be X c i f {k with heap:=k.heap.push {cls:= .type "slice",data:= .fields #[.none,.none,.int 2 t]}}:=l.kept λb Y q=>Am _ q;have o:=L.isList.push {cls:= .type "slice",data:= .fields #[.none,.none,.int 2 t]};refine tail_any (Heap.IsList.typeIs o) slot_list_getitem.lookup ?_ (by with_unfolding_all rfl);refine wpAny_getItem_list_slice o (Heap.IsSliceOf.new ..) .none .none (.int 2 t) (by decide) ?_ (by rw[Bc];lia);rw[Y7];exact⟨.ref _,_,n.yj (Wi r)<|Cd (q2t _) M,rfl,q _ n.fresh⟩
def k9y(k:Q (.ref s.heap.objs.size) {s with heap:=s.heap.push (jt w)}):codeAny (model prog w) A (.call (.builtin "set.__new__") ⟨[.type "set"],[]⟩) (wants Q E) s:=by
 apply JX;refine BJ<|IK PySem.F.newCall_set_0<|BP ⟨IW VD _,FN PySem.F.entry_set_new ?_⟩;rw[FJ VD _];unfold Builtin.«set.__new__» Builtin.Frozenset.newClass
 dsimp only
 refine BJ<|BJ<|IK (show isType (.type "set")=pure true from rfl)<|BP ?_;simp;unfold newSet;refine BJ<|BJ<|wp_text ?_
 dsimp only
 simp only[newObj];exact BJ<|QJ<|BP<|BP k
theorem q0k(k:Q (.ref s.heap.objs.size) {s with heap:=s.heap.push (jt w)}):ba prog w A (call (.type "set") []) Q E s:=by
 obtain⟨c,i,j⟩:=PySem.F.called_set.mro;have l:=PySem.F.called_set.made;have m:=PySem.F.called_set.sub;refine wpAny_call<|JX ?_;refine BP ⟨Code.quiet_builtin _ (by decide +kernel),FN PySem.F.entry_type_call ?_⟩;rw[Around.under_plain (weight_type_call_type "set" [] []) rfl];have n:=PySem.F.typeCall_set_0
 repeat (any_goals (first|assumption|wp_step))
 refine JK (k9y (E:=E) (Q:=λv u=>v=.ref s.heap.objs.size/\u={s with heap:=s.heap.push (jt w)}) ⟨rfl,rfl⟩) λr u a=>?_;cases r with
 |error e=>exact a
 |ok d=>
  cases d with
  |ret v=>
   obtain⟨rfl,rfl⟩:=a;have f:Shared.TypeIs {s with heap:=s.heap.push (jt w)} (.ref s.heap.objs.size) "set":=⟨_,Az _ rfl,rfl⟩;have o:=PySem.F.called_set.init.lookup;have p:=PySem.F.called_set.init.bind<|.ref s.heap.objs.size
   repeat (any_goals (first|assumption|wp_step))
   refine JK (codeAny_call_builtin (R:=wants (λr u=>r=.none/\Q (.ref s.heap.objs.size) u) E) PySem.F.called_set.init.plain PySem.F.entry_set_init<|check_set_init f ?_) λh q b=>?_
   ·unfold Builtin.«set.__init__» noKeywords
    wp_walk
    exact⟨rfl,k⟩
   ·cases h with
    |error e=>exact b
    |ok f2=>
     cases f2 with
     |ret r=>
      obtain⟨rfl,t⟩:=b
      repeat (any_goals (first|assumption|wp_step))
     |_=>exact b.elim
  |_=>exact a.elim
def J3(S:aD prog w s.heap a zs)(h:Q (.bool<|decide (z∉zs)) {s with toks:=s.toks+1}):ba prog w A (compareOp .NotIn (.str z i)<|.ref a) Q E s:=by
 have b:=S.typeIs;apply BJ;unfold contains
 try with_reducible apply CK
 refine BJ<|SQ b PySem.F.slot_set_contains.lookup ?_;rw[C<|by rw[beq_builtin_none];exact Av];refine BJ<|wpAny_callSpecialUnlessNone?_slot b RG<|DR RG b entry_set_contains ?_<|PySem.F.args_set_contains_2 _ _;unfold Builtin.«frozenset.__contains__» Builtin.Frozenset.oneOther;simp only[Gz,bind_assoc];unfold Builtin.Frozenset.addrOf Builtin.Frozenset.withSetAsKey setContains;refine BJ<|BP ?_
 try dsimp only
 refine BJ<|BP ?_
 try dsimp only
 refine BJ<|wpAny_tryCatch<|CK<|BJ<|(strKind prog w).pyHash (PJ _ _ _ _) ?_;obtain⟨o,k,l,t,d,m,hd,T⟩:=S;refine BJ<|U2 d hd T (λc=>?_) λj f e=>?_
 ·refine BP ?_;show wpAny _ _ (ret<|Value.bool false) _ _ _;rw[BW c]at h;exact BP ⟨_,rfl,FT<|BP h⟩
 ·refine BP ?_;show wpAny _ _ (ret<|Value.bool true) _ _ _;have c:z∈zs:=T.keys.mem_iff.mp (by rw[<-e];exact Ag.mpr ⟨_,Bq f,rfl⟩);rw[BR<|not_not_intro c]at h;exact BP ⟨_,rfl,FT<|BP h⟩
def q8n(c:X.mg "set" = none)(h:∀D,H D=none->Q (.ref D) (upd H D<|bu X.prog X.w D []))(d:Gl X "set":=by rfl):Ev X (.Call (.Name "set" p) [] [] pos) f H Q:=by
 refine⟨λa s I=>Call_<|wa I d c MN<|PyProof.Rows.callWith_type0<|q0k ?_⟩;exact⟨.ref s.heap.objs.size,_,I.laid (λb o e=>Am _ e) (Aq _)<|wH<|Mg<|Az _ rfl,rfl,h _ I.fresh⟩
inductive fZ(X:Cx)(x y:V)(H:Hp)(Q:VK):Prop
 |mk (z a zs:_)(_:x=.str z)(_:y=.ref a)(_:H a=some (bu X.prog X.w a zs))(_:Q (.bl<|decide (z∉zs)) H)
def kA:dN X (compareOp .NotIn) (fZ X):=by
 intro b s f H x y v u Q I c d h;obtain⟨z,a,zs,rfl,rfl,e,q⟩:=h;obtain⟨t,rfl⟩:=c;cases (show u=Value.ref a from d);exact J3 (I.set e) ⟨.bl _,H,I.tok _,rfl,q⟩
def q6z(h:Ev X o k H λx i=>∃a,x=.ref a/\(∃zs,i a=some (bu X.prog X.w a zs))/\Ev X e k i λy d=>∃z zs,y=.str z/\d a=some (bu X.prog X.w a zs)/\zs.length+1<1000/\Q .non (upd d a<|bu X.prog X.w a<|added zs z))
  (A:attributeBase o "add" X.env (eval o X.env)=eval o X.env:=by rfl)
  (B:((backTo j<|starEach [e] X.env).all (λx=>!x.1) && (backToKw j<|keywordEach [] X.env).all (λx=>x.1.isSome) && decide ([e].length+([]:List Keyword).length+(if([]:List Keyword).isEmpty then 0 else 1)<30))=true:=by rfl)
  (f:(ap.endLine == j.line)=true:=by rfl) (D:starEach [e] X.env=(false,eval e X.env) :: starEach [] X.env:=by rfl) (E:ff e=false:=by rfl):Ev X (.Call (.Attribute o "add" ap) [e] [] j) k H Q:=by
 refine⟨λc s I=>wpAny_Call_method_late A B f rfl (aO (h.run c s I) λv G ⟨x,i,m,J,a,L,⟨zs,M⟩,N⟩=>?_)⟩;subst L;cases (show v=Value.ref a from J);have S:=m.set M;refine⟨"set","set.add",PySem.F.plainAttrs_set,PySem.F.slot_set_add,PySem.F.type_set_add,S.typeIs,λb O=>?_,?_⟩
 ·cases O;obtain⟨o,_,_,_,l,T,_⟩:=S;exact⟨o,l,T.2.1⟩
 have Y:Ea X [e] k i (λn d=>∃z zs,n=[.str z]/\d a=some (bu X.prog X.w a zs)/\zs.length+1<1000/\Q .non (upd d a<|bu X.prog X.w a<|added zs z)):=ai (N.mono λy d⟨z,zs,ey,q⟩=>aA ⟨z,zs,by rw[ey],q⟩) E;have p:=Y.run j c G m;rw[D]at p ⊢;refine JF rfl (PB ?_);refine aO p λus s2⟨vs,d,r,r2,z,n,ev,t,hl,q⟩=>?_;subst ev;obtain⟨u,rfl,ru⟩:=io r2;obtain⟨tk,rfl⟩:=ru;refine Wd (r.set t) hl λh' sb w=>⟨.non,_,rN r (t▸True.intro) sb ?_<|wH w,rfl,q⟩;obtain⟨o,_,_,_,l,_⟩:=w;exact⟨o,l⟩
end L2
namespace Nt
open PySem L2
def b6(c:Int)(n:bc)(e:bi):bi:=(e.1,(((e.2:Int)+c)%((row n e.1).length:Int)).toNat)
def wR(h:e∈ends n):(((b6 c n e).2:Nat):Int)=((e.2:Int)+c)%((row n e.1).length:Int):=by
 obtain⟨z,a⟩:=af.mp h;have:=iy a;exact Int.toNat_of_nonneg<|Ce _<|by lia
def wU(h:e∈ends n):b6 c n e∈ends n:=by
 obtain⟨z,a⟩:=af.mp h;have b:=iy a;have d:=wR (c:=c) h;have f:((e.2:Int)+c)%((row n e.1).length:Int)<((row n e.1).length:Int):=Cj _ (by lia);exact af.mpr<|FU<|by show(b6 c n e).2<(row n e.1).length;lia
def mJ(h:e∈ends n):b6 (-c) n (b6 c n e)=e:=by
 have a:=wR (c:=-c)<|wU (c:=c) h;obtain⟨z,b⟩:=af.mp h;have j:=iy b;have d:(b6 c n e).1=e.1:=rfl;rw[d,wR (c:=c) h]at a;have f:(((e.2:Int)+c)%((row n e.1).length:Int)+-c)%((row n e.1).length:Int)=(e.2:Int):=by
  have:(((e.2:Int)+c)%((row n e.1).length:Int)+-c)%((row n e.1).length:Int)=((e.2:Int)+c+-c)%((row n e.1).length:Int):=by
   rw[Int.add_emod,Int.emod_emod,<-Int.add_emod]
  rw[this,show(e.2:Int)+c+-c=(e.2:Int) by lia];exact Int.emod_eq_of_lt (by lia)<|by lia
 rw[f]at a;have i:(b6 (-c) n<|b6 c n e).2=e.2:=by lia
 exact FZ rfl i
def Wn(d:a∈ends n)(e:b∈ends n)(h:b6 c n a=b6 c n b):a=b:=by
 rw[<-mJ d,<-mJ e,h]
def pJ(h:e∈ends n):left n e=b6 1 n e:=by
 have a:=wR (c:=1) h;apply FZ rfl;show(e.2+1)%(row n e.1).length=(b6 1 n e).2;have:(((e.2+1)%(row n e.1).length:Nat):Int)=((e.2:Int)+1)%((row n e.1).length:Int):=by simp
 lia
def go(c:Int)(n:bc)(e:bi):bi:=b6 c n<|other n e
def fw(T:ao n)(h:e∈ends n):go c n e∈ends n:=wU<|cE T h
def go_inj(T:ao n)(d:a∈ends n)(e:b∈ends n)(h:go c n a=go c n b):a=b:=VO T d e<|Wn (cE T d) (cE T e) h
def wV(T:ao n)(h:e∈ends n):step n e=go 1 n e:=pJ<|cE T h
def two(n:bc)(e:bi):bi:=go (-1) n<|go 1 n e
def pK(T:ao n)(h:e∈ends n):two n e∈ends n:=fw T<|fw T h
def wW(T:ao n)(c:a∈ends n)(d:b∈ends n)(h:two n a=two n b):a=b:=go_inj T c d<|go_inj T (fw T c) (fw T d) h
def wk(n:bc)(e:bi):Nat->List bi
 |0=>[]
 |k+1=>wk n e k++[it (two n) k e,go 1 n<|it (two n) k e]
theorem uK(n:bc)(e:bi):∀k,(wk n e k).length=2*k
 |0=>rfl
 |k+1=>by
  show(wk n e k++_).length=_;rw[Ah,uK n e k];show 2*k+2=_;lia
theorem uL(n:bc)(e:bi):∀k i,i<k->(wk n e k)[2*i]?=some (it (two n) i e)
 |0,i,h=>absurd h<|Ep _
 |k+1,i,h=>by
  show(wk n e k++[it (two n) k e,go 1 n<|it (two n) k e])[2*i]?=_;have l:=uK n e k
  by_cases a:i<k
  ·rw[Aw<|by omega];exact uL n e k i a
  ·grind
theorem F9(n:bc)(e:bi):∀k i,i<k->(wk n e k)[2*i+1]?=some (go 1 n<|it (two n) i e)
 |0,i,h=>absurd h<|Ep _
 |k+1,i,h=>by
  show(wk n e k++[it (two n) k e,go 1 n<|it (two n) k e])[2*i+1]?=_;have l:=uK n e k
  by_cases a:i<k
  ·rw[Aw<|by omega];exact F9 n e k i a
  ·grind
def Wo(n:bc)(e:bi)(k:Nat):ah (wk n e k)=(range k).map λi=>it (two n) i e:=by
 apply Dz;intro i;rw[uJ,Aj]
 by_cases h:i<k
 ·rw[uL n e k i h,Dc h];rfl
 ·rw[Bh (by rw[uK];lia),Bh<|by rw[Cw];lia];rfl
theorem MR(T:ao n)(h:e∈ends n):∀k,∀c∈wk n e k,c∈ends n
 |0,c,b=>by cases b
 |k+1,c,b=>by
  have d:=lR (λa f=>pK T f) h k
  obtain b|b:=Al.mp b
  ·exact MR T h k c b
  ·obtain rfl|b:=Ak.mp b
   ·exact d
   ·rw[Ae.mp b];exact fw T d
structure kU(n:bc)(e:bi)(k:Nat):Prop where
 pos:0<k
 back:it (two n) k e=e
 first:∀i,0<i->i<k->it (two n) i e≠e
def kU.unique(a:kU n e k)(b:kU n e l):k=l:=by
 obtain h|h|h:=Fq k l
 ·cases (b.first k a.pos h) a.back
 ·exact h
 ·cases (a.first l b.pos h) b.back
def yX(n:bc)(e:bi):Nat:=by classical exact if h:∃k,kU n e k then h.choose else 0
def wX(h:kU n e k):yX n e=k:=by
 have a:∃k,kU n e k:=⟨k,h⟩;rw[yX,dif_pos a];exact a.choose_spec.unique h
def walker(n:bc)(e:bi):List bi:=wk n e<|yX n e
structure nX(n:bc)(ws:List bi):Prop where
 ends:∀c∈ws,c∈Nt.ends n
 ne0:0<ws.length
 even:ws.length%2=0
 few:ws.length<=2*(Nt.ends n).length
 at':∀k,k<ws.length->∃c,ws[k]?=some c/\ws[(k+1)%ws.length]?=some (go (1-2*((k:Int)%2)) n c)
theorem qk(T:ao n)(h:e∈Nt.ends n)(p:kU n e k)(m:k<=(Nt.ends n).length):nX n (wk n e k):=by
 have l:=uK n e k;have o:=p.pos;refine⟨MR T h k,by omega,by omega,by omega,λj a=>?_⟩;rw[l]at a ⊢
 obtain b|b:=QW j
 ·obtain⟨i,rfl⟩:∃i,j=2*i:=⟨j/2,by lia⟩;refine⟨_,uL n e k i (by lia),?_⟩;rw[Ca (by lia),F9 n e k i<|by lia];have:(1:Int)-2*(((2*i:Nat):Int)%2)=1:=by lia
  rw[this]
 ·obtain⟨i,rfl⟩:∃i,j=2*i+1:=⟨j/2,by lia⟩;refine⟨_,F9 n e k i (by lia),?_⟩;have c:(1:Int)-2*(((2*i+1:Nat):Int)%2)=-1:=by lia
  rw[c];show _=some (two n<|it (two n) i e)
  by_cases d:i+1<k
  ·rw[Ca (by lia),show 2*i+1+1=2*(i+1) by lia];exact uL n e k (i+1) d
  ·have:i+1=k:=by lia
   rw[show 2*i+1+1=2*k by lia,Ec];have f:two n (it (two n) i e)=it (two n) k e:=by rw[<-this];rfl
   rw[f,p.back];exact uL n e k 0<|by lia
def aw(n:bc)(e:bi):Str:=(aH n e).getD ⟨#[]⟩
def cB(h:aH n e=some z):aw n e=z:=by rw[aw,h];rfl
def dE(n:bc):List bi->Ñ->List (List bi)
 |[],_=>[]
 |e :: r,a=>if aw n e∈a then dE n r a else walker n e :: dE n r (a++(ah<|walker n e).map (aw n))
end Nt
namespace G8
open PySem L2
noncomputable def gr(i:Nat):Stmt:=PySem.Challenge.pw_threewebs_k78_whole_walkers_behind_deeds.main.body.getD i<|.Pass ⟨0,0,0,0⟩
abbrev F':Stmt:=gr 6
abbrev GA:Stmt:=gr 7
abbrev MS:Stmt:=gr 8
abbrev MT:Stmt:=gr 9
abbrev MU:Stmt:=gr 10
abbrev GI:Stmt:=gr 11
abbrev GU:Stmt:=gr 12
abbrev GV:Stmt:=gr 13
abbrev G0:Stmt:=gr 15
abbrev G':Stmt:=gr 16
abbrev Ho:Stmt:=gr 17
abbrev MV:Stmt:=gr 18
abbrev MX:Stmt:=gr 19
abbrev MY:Stmt:=gr 20
abbrev uM:Stmt:=gr 22
abbrev yY:Stmt:=gr 23
abbrev MZ:Stmt:=gr 24
abbrev M0:Stmt:=gr 26
abbrev j8:Stmt:=gr 27
abbrev Hq:Stmt:=gr 28
abbrev uN:Stmt:=gr 30
abbrev uO:Stmt:=gr 31
abbrev yZ:Stmt:=gr 32
abbrev Hr:Stmt:=gr 34
abbrev Hs:Stmt:=gr 36
abbrev M1:Stmt:=gr 37
abbrev M3:Stmt:=gr 38
abbrev M4:Stmt:=gr 40
abbrev M5:Stmt:=gr 42
abbrev uP:Stmt:=gr 43
abbrev M6:Stmt:=gr 44
abbrev M7:Stmt:=gr 45
abbrev M8:Stmt:=gr 46
abbrev M9:Stmt:=gr 47
abbrev Nb:Stmt:=gr 48
abbrev uQ:Stmt:=gr 49
abbrev uR:Stmt:=gr 50
abbrev Ht:Stmt:=gr 51
abbrev Nc:Stmt:=gr 52
abbrev Nf:Stmt:=gr 53
abbrev uS:Stmt:=gr 54
abbrev Ng:Stmt:=gr 55
abbrev Nh:Stmt:=gr 56
abbrev qM:Stmt:=gr 57
structure Txt(mg:Ò):Prop where
 isi:mg "isinstance" = none
 Ni:mg "tuple" = none
 x0D:mg "str" = none
 y4:mg "int" = none
 Wp:mg "bool" = none
 nY:mg "list" = none
 sj:mg "dict" = none
 uT:mg "set" = none
 enum:mg "enumerate" = none
 zip:mg "zip" = none
 len:mg "len" = none
 range:mg "range" = none
 sorted:mg "sorted" = none
 max:mg "max" = none
 all:mg "all" = none
 x0E:mg "ValueError" = none
open Nt bv
def wE(h:n<=100000):n<=sizeLine:=by rw[DW];lia
def bR(h:n<=100000):n<sizeLine:=by rw[DW];lia
def aM(h:H p=none)(o:HO):aj H (upd H p o):=λb u q=>by rwa[ax<|bz q h]
def dR(s:aj a c)(h:a r=none):aj a (upd c r o):=λb u q=>by
 rw[ax<|bz q h];exact s _ _ q
def Wq:upd H l (.lst<|zs.map V.str++[V.str y])=upd H l (Ls<|zs++[y]):=by
 show _=upd H l (.lst<|(zs++[y]).map V.str);rw[Ai];rfl
inductive iC(K:aa)(vs:List V)(H:Hp)(Q:VK)(_:XK):Prop
 |mk (a:Addr)(ns:List Int)(k:Int)(_:vs=[.ref a,.int k])(_:av K H a<|ns.map V.int)(_:0<=k)(_:∀i,Q (.int i) H)
inductive nZ(K:aa)(vs:List V)(H:Hp)(Q:VK)(_:XK):Prop
 |mk (a:Addr)(ns:List Int)(k:Int)(_:vs=[.ref a,.int k])(_:av K H a<|ns.map V.int)(_:0<=k)(_:∀i H',aj H H'->Q (.int i) H')
inductive iD(vs:List V)(H:Hp)(Q:VK)(_:XK):Prop
 |mk (b m:Int)(_:vs=[.int b,.int m])(_:0<=m)(_:m<=36)(_:∀l H',aj H H'->H l=none->H' l=some (Ls<|namesOf b m.toNat)->Q (.ref l) H')
inductive fz(vs:List V)(H:Hp)(Q:VK)(_:XK):Prop
 |mk (R:Addr)(as:Ï)(n:bc)(_:vs=[.ref R])(_:aq H R as n)(_:n.length<=1000)(_:(ag n).length<=1000)(_:∀d ks H',aj H H'->H d=none->ce H' d n ks->Q (.ref d) H')
inductive fE(vs:List V)(H:Hp)(Q:VK)(_:XK):Prop
 |mk (R d t:Addr)(as:Ï)(n:bc)(ks:Ñ)(e:Nt.bi)(_:vs=[.ref R,.ref d,.ref t])(_:aq H R as n)(_:ce H d n ks)(_:ao n)(_:H t=some (Tp e))(_:e∈ends n)(_:∀u,H u=some (Tp<|other n e)->Q (.ref u) H)
inductive iE(vs:List V)(H:Hp)(Q:VK)(_:XK):Prop
 |mk (R d t:Addr)(as:Ï)(n:bc)(ks:Ñ)(e:Nt.bi)(c:Int)(_:vs=[.ref R,.ref d,.ref t,.int c])(_:aq H R as n)(_:ce H d n ks)(_:ao n)(_:H t=some (Tp e))(_:e∈ends n)(_:∀u H',aj H H'->H u=none->H' u=some (Tp<|go c n e)->Q (.ref u) H')
inductive j9(vs:List V)(H:Hp)(Q:VK)(_:XK):Prop
 |mk (R d t:Addr)(as:Ï)(n:bc)(ks:Ñ)(e:Nt.bi)(_:vs=[.ref R,.ref d,.ref t])(_:aq H R as n)(_:ce H d n ks)(_:ao n)(_:H t=some (Tp e))(_:e∈ends n)(_:(ends n).length<=1000)(_:∀l ts fs H',aj H H'->H l=none->H' l=some (.lst<|ts.map V.ref)->Pd H' ts fs->iz n e fs->Q (.ref l) H')
def V3:ak ["_law_script","_law_k"] ["_law_script","_law_k"] (aW M5):=cg
def p4{ns:List Int}(b:0<=k)(c:k<(ns.length:Int)):∃v:Int,gS (ns.map V.int) k=some (.int v):=by
 have a:k.toNat<ns.length:=by lia
 have q:=wm (xs:=ns.map V.int) (j:=k.toNat) (v:= .int ns[k.toNat]) (by simp[a]);rw[show((k.toNat:Nat):Int)=k by lia]at q;exact⟨_,q⟩
def Vl(F:bA K "_law_cell_at" "_law_cell_at" M5 f e)(T:Txt mg):aG P w K mg base bF 1 f e ["_law_script","_law_k"] (iC K):=by
 refine F.gc V3 λl H m Q E n h=>?_;obtain⟨a,ns,k,rfl,b,i,q⟩:=h;refine fk<|cA xP<|U 1<|cL eX T.len DP<|ai<|U 0<|aA ⟨a,_,rfl,.inl b,_,_,rfl,rfl,_,rfl,?_⟩;refine jh (λc=>?_) λc=>?_
 ·have d:=BZ c;obtain⟨v,j⟩:=p4 i (by rw[Aa]at d;exact d);exact bQ<|bn dZ<|U 0<|U 1 ⟨a,_,_,.int v,rfl,rfl,b,j,q v⟩
 ·exact a8<|bQ<|aF<|q 0
abbrev uU:List V:=[.int 48271,.int 69621,.int 16807,.int 39373,.int 21401,.int 60493,.int 87721,.int 31337]
abbrev jw:List V:=[.int 99991,.int 99989,.int 99971,.int 99961,.int 99929,.int 99923,.int 99907,.int 99901]
def xw{i:Int}(a:0<=i)(b:i<8):i=0\/i=1\/i=2\/i=3\/i=4\/i=5\/i=6\/i=7:=by
 obtain⟨k,rfl⟩:=Int.eq_ofNat_of_zero_le a;exact(by decide:∀k:Fin 8,(k.1:Int)=0\/(k.1:Int)=1\/(k.1:Int)=2\/(k.1:Int)=3\/(k.1:Int)=4\/(k.1:Int)=5\/(k.1:Int)=6\/(k.1:Int)=7) ⟨k,Int.ofNat_lt.mp b⟩
def eE{i:Int}(a:0<=i)(b:i<8):∃m:Int,gS uU i=some (.int m)/\0<m/\m<100000:=by
 obtain rfl|rfl|rfl|rfl|rfl|rfl|rfl|rfl:=xw a b<;>exact⟨_,rfl,by decide,by decide⟩
def x1s{i:Int}(a:0<=i)(b:i<8):∃m:Int,gS jw i=some (.int m)/\0<m/\m<100000:=by
 obtain rfl|rfl|rfl|rfl|rfl|rfl|rfl|rfl:=xw a b<;>exact⟨_,rfl,by decide,by decide⟩
def sq:ak ["_law_script","_law_at","_law_by","_law_prime","_law_cell","_law_big_here","_law_k","_law_one"] ["_law_script","_law_at"] (aW uP):=cg
def Op(F:bA K "_law_big" "_law_big" uP f B)(T:Txt mg)(G:aT P w K mg base 1 "_law_cell_at" ["_law_script","_law_k"]<|iC K):
  aG P w K mg base bF 2 f B ["_law_script","_law_at"] (nZ K):=by
 refine F.gc sq λL H M Q E r h=>?_;obtain⟨a,ns,k,rfl,s,D,q⟩:=h;have nd:=sq.nd;refine aX 2 nd (dk<|ai<|aF<|ai<|aF<|ai<|aF<|ai<|aF<|ai<|aF<|ai<|aF<|ai<|aF<|ai<|aF<|aA ⟨(by show 8<=sizeLine;decide),λp I=>?_⟩);refine aX 3 nd (dk<|ai<|aF<|ai<|aF<|ai<|aF<|ai<|aF<|ai<|aF<|ai<|aF<|ai<|aF<|ai<|aF<|aA ⟨(by show 8<=sizeLine;decide),λd l=>?_⟩);have m:p≠d:=by
  intro e;rw[<-e,ay]at l;cases l
 have j:aj H (upd (upd H p<|.tup uU) d<|.tup jw):=(aM I _).trans<|aM l _;have t:(upd (upd H p<|.tup uU) d<|.tup jw) p=some (.tup uU):=by rw[ax m,ay]
 have y:(upd (upd H p<|.tup uU) d<|.tup jw) d=some (.tup jw):=ay;generalize upd (upd H p<|.tup uU) d (.tup jw)=J at j t y ⊢;refine aX 4 nd<|bC G r<|ai<|U 0<|ai<|U 1<|aA ⟨a,ns,k,rfl,j.seq s,D,λb=>?_⟩;refine UD True True (λR A=>?_) (λ_=>?_) λ_=>a8 ?_
 ·refine wy (Lg<|cA fQ<|bb di<|U 4<|aF ⟨_,_,rfl,rfl,(by show(0:Int)<2;decide),aF ⟨rfl,_,rfl,?_⟩⟩);refine jh (λc=>?_) (λc=>A false (λz=>nomatch z) λ_=>trivial);exact Li<|cA ny<|U 4<|bb Kt<|aF<|aF ⟨_,_,rfl,rfl,⟨by decide,by decide,by decide⟩,_,_,rfl,rfl,_,rfl,A _ (λ_=>trivial) λ_=>trivial⟩
 ·exact bQ<|bb kG<|U 4<|aF ⟨_,_,rfl,rfl,⟨by decide,by decide⟩,q _ _ j⟩
 refine aX 5 nd<|aF<|nF T.range<|aF ⟨60,rfl,by decide,by decide,nG (λ_ n o=>o=J/\∃x u v,n=[some<|.ref a,some<|.int k,some<|.ref p,some<|.ref d,some<|.int b,some<|.int x,u,v]) ⟨rfl,0,_,_,rfl⟩ ?_ ?_⟩
 ·rintro i n o N ⟨rfl,x,u,v,rfl⟩;have O:0<=(0+(i:Int))%9:=Ce _ (by decide);obtain⟨Y,f1,g1,g2⟩:=eE (i:=(0+(i:Int))%8) (Ce _<|by decide) (Cj _<|by decide);obtain⟨m2,f2,g3,g4⟩:=x1s (i:=(0+(i:Int))%8) (Ce _<|by decide) (Cj _<|by decide);apply a9 6 nd;refine aX 7 nd<|bb gR<|bb gR<|bb di<|bC G r<|ai<|U 0<|ai<|bb gR<|U 1<|bb di<|U 6<|aF ?_;refine⟨_,_,rfl,rfl,(by show(0:Int)<9;decide),_,_,rfl,rfl,aA ⟨a,ns,_,rfl,j.seq s,?_,λc=>?_⟩⟩
  ·lia
  refine bb Kt (aF<|aF ⟨_,_,rfl,rfl,⟨by decide,by decide,by decide⟩,_,_,rfl,rfl,(by show(0:Int)<10 ^ (18:Int).toNat;decide),aF ⟨_,_,rfl,rfl,?_⟩⟩);refine bb ya<|U 6<|U 6 ?_;refine⟨_,_,rfl,rfl,.inl ⟨by lia,by lia⟩,_,_,rfl,rfl,?_⟩;refine aX 5 nd (bb gR<|bb ya<|U 5<|aF ⟨_,_,rfl,rfl,.inr ⟨by decide,by decide⟩,?_⟩);refine bb di (bb di<|bb ya<|U 7<|bn cw<|U 2<|bb di<|U 6<|aF ⟨_,_,rfl,rfl,(by show(0:Int)<8;decide),p,_,_,_,rfl,rfl,aU.of t,f1,_,_,rfl,rfl,.inr ⟨by lia,by lia⟩,?_⟩);refine bn cw (U 3<|bb di<|U 6<|aF ⟨_,_,rfl,rfl,(by show(0:Int)<8;decide),d,_,_,_,rfl,rfl,aU.of y,f2,_,_,rfl,rfl,g3,aF ⟨_,_,rfl,rfl,(by show(0:Int)<7919;decide),_,_,rfl,rfl,?_⟩⟩);exact a8 ⟨rfl,_,_,_,rfl⟩
 ·rintro n o ⟨rfl,x,u,v,rfl⟩;exact bQ<|U 5<|q x _ j
abbrev NN:Ñ:=["_law_stem","_law_many","_law_signs","_law_size","_law_spot","_law_names_here","_law_v","_law_name","_law_k","_law_turn"]
def kW:ak NN ["_law_stem","_law_many"] (aW M6):=cg
def q2n(F:bA K "_law_names" "_law_names" M6 f z)(T:Txt mg):aG P w K mg base bF 1 f z ["_law_stem","_law_many"] iD:=by
 refine F.gc kW λA H B Q E D h=>?_;obtain⟨b,m,rfl,G,I,q⟩:=h;have nd:=kW.nd;refine aX 2 nd<|eI<|aX 3 nd (bb gR<|aF<|bb di<|U 0<|aF ⟨_,_,rfl,rfl,(by show(0:Int)<8;decide),_,_,rfl,rfl,?_⟩);refine aX 4 nd (bb di<|bb kG<|U 0<|aF ⟨_,_,rfl,rfl,⟨by decide,by decide⟩,U 3 ⟨_,_,rfl,rfl,(by show 0<1+b%8;lia),?_⟩⟩);refine aX 5 nd<|eQ<|aA ⟨Z0,λl x=>?_⟩;refine nF T.range<|U 1 ⟨m,rfl,by lia,by lia,nG (λi d s=>s=upd H l (Ls<|namesOf b i)/\∃t u k o,d=[some<|.int b,some<|.int m,some<|.str ir,some<|.int<|1+b%8,some<|.int<|b/8%(1+b%8),some<|.ref l,t,u,k,o]) ⟨rfl,_,_,_,_,rfl⟩ ?_ ?_⟩
 ·rintro i d s J ⟨rfl,t,u,k,o,rfl⟩;refine a9 6 nd<|aX 7 nd<|eI ?_;refine nF T.range<|U 3 ⟨_,rfl,by lia,by lia,nG (n:=(1+b%8).toNat) (λj d v=>v=upd H l (Ls<|namesOf b i)/\∃k o,d=[some<|.int b,some<|.int m,some<|.str ir,some<|.int<|1+b%8,some<|.int<|b/8%(1+b%8),some<|.ref l,some<|.int<|0+(i:Int),some<|.str<|nm b (b/8%(1+b%8)) i j,k,o]) ⟨rfl,_,_,rfl⟩ ?_ ?_⟩
  ·rintro j d v L ⟨rfl,y,v4,rfl⟩;have nl:(nm b (b/8%(1+b%8)) i j).length=j:=by
    have:=BX List.length<|FY b (b/8%(1+b%8)) i j;show(nm b (b/8%(1+b%8)) i j).cps.size=j
    simpa using this
   refine a9 8 nd<|aX 9 nd (bb gR<|bb kG<|U 0<|aF ⟨_,_,rfl,rfl,⟨by decide,by decide⟩,bb ya<|U 8<|bb di<|bb kG<|U 0<|aF ⟨_,_,rfl,rfl,⟨by decide,by decide⟩,aF ⟨_,_,rfl,rfl,(by show(0:Int)<5;decide),?_⟩⟩⟩);refine⟨_,_,rfl,rfl,.inr ⟨by lia,by lia⟩,_,_,rfl,rfl,?_⟩;refine Vr ((0+(j:Int))=b/8%(1+b%8)) (¬(0+(j:Int))=b/8%(1+b%8)) (λc p=>p=upd H l (Ls<|namesOf b i)/\c=[some<|.int b,some<|.int m,some<|.str ir,some<|.int<|1+b%8,some<|.int<|b/8%(1+b%8),some<|.ref l,some<|.int<|0+(i:Int),some<|.str<|nm b (b/8%(1+b%8)) i j,some<|.int<|0+(j:Int),some<|.int<|turn b (b/8%(1+b%8)) i j]) (λR r=>?_) (λa=>?_) (λa=>a8 ⟨rfl,?_⟩) ?_
   ·refine cA fQ<|U 8<|U 4 ⟨rfl,_,rfl,?_⟩
    by_cases a:(0+(j:Int))=b/8%(1+b%8)
    ·rw[BW (show V.int (0+(j:Int))=V.int (b/8%(1+b%8)) by rw[a])];exact r true (λ_=>a) λh=>by cases h
    ·rw[BR λh=>a<|V.int.inj h];exact r false (λh=>by cases h) λ_=>a
   ·refine aX 9 nd<|bb gR<|U 9<|U 6 ⟨_,_,rfl,rfl,a8 ⟨rfl,?_⟩⟩;have e:b/64+(0+(j:Int))*(b/7%5)+(0+(i:Int))=turn b (b/8%(1+b%8)) i j:=by
     rw[turn,BL (by lia),Ed,Ed]
    rw[<-e];rfl
   ·have e:b/64+(0+(j:Int))*(b/7%5)=turn b (b/8%(1+b%8)) i j:=by
     rw[turn,C (by lia),Ed,Int.add_zero]
    rw[<-e];rfl
   ·rintro c p ⟨rfl,rfl⟩;refine aX 7 nd<|bb C9<|U 7<|bn T1<|U 2<|bb di<|U 9<|aF ⟨_,_,rfl,rfl,(by show(0:Int)<36;decide),ir,_,sgn<|turn b (b/8%(1+b%8)) i j,rfl,rfl,by decide +kernel,My _,_,_,rfl,rfl,wE (by show(nm b (b/8%(1+b%8)) i j).length+1<=100000;lia),a8 ⟨rfl,_,_,rfl⟩⟩
  ·rintro d v ⟨rfl,y,v4,rfl⟩;refine Vr (b%3=2) (¬ b%3=2) (λc p=>p=upd H l (Ls<|namesOf b i)/\c=[some<|.int b,some<|.int m,some<|.str ir,some<|.int<|1+b%8,some<|.int<|b/8%(1+b%8),some<|.ref l,some<|.int<|0+(i:Int),some<|.str<|a7 b i,y,v4]) (λR r=>?_) (λa=>?_) (λa=>a8 ⟨rfl,?_⟩) ?_
   ·refine cA fQ<|bb di<|U 0<|aF ⟨_,_,rfl,rfl,(by show(0:Int)<3;decide),aF ⟨rfl,_,rfl,?_⟩⟩
    by_cases a:b%3=2
    ·rw[BW (show V.int (b%3)=V.int 2 by rw[a])];exact r true (λ_=>a) λh=>by cases h
    ·rw[BR λh=>a<|V.int.inj h];exact r false (λh=>by cases h) λ_=>a
   ·have M:0<=(0+(i:Int))%8:=Ce _ (by decide);have N:(0+(i:Int))%8<8:=Cj _ (by decide);refine aX 7 nd (bb q7p<|bn T1<|U 2<|bb di<|bb gR<|bb kG<|U 0<|aF ⟨_,_,rfl,rfl,⟨by decide,by decide⟩,bb kG<|U 6<|aF ⟨_,_,rfl,rfl,⟨by decide,by decide⟩,_,_,rfl,rfl,aF ⟨_,_,rfl,rfl,(by show(0:Int)<36;decide),ir,_,sgn<|b/64+(0+(i:Int))/8,rfl,rfl,by decide +kernel,My _,?_⟩⟩⟩);refine bb gR (aF<|bb di<|U 6<|aF ⟨_,_,rfl,rfl,(by show(0:Int)<8;decide),_,_,rfl,rfl,?_⟩);refine⟨_,_,rfl,rfl,by lia,by lia,?_,a8 ⟨rfl,?_⟩⟩
    ·show 1*_<=_;lia
    ·have e:Txt.mul ⟨#[sgn<|b/64+(0+(i:Int))/8]⟩ (1+(0+(i:Int))%8)=a7 b i:=by
      rw[a7,BL a,Ed]
     rw[<-e];rfl
   ·have e:nm b (b/8%(1+b%8)) i (1+b%8).toNat=a7 b i:=by
     rw[a7,C a]
    rw[<-e]
   ·rintro c p ⟨rfl,rfl⟩;refine ik<|mH<|U 5 ⟨l,rfl,⟨_,ay⟩,U 7 ⟨_,ay,?_,?_⟩⟩
    ·rw[Aa,Mz];exact bR<|by lia
    ·rw[pY];refine a8 ⟨?_,_,_,_,_,rfl⟩;rw[F1];exact Wq
 ·rintro d s ⟨rfl,t,u,k,o,rfl⟩;exact bQ<|U 5<|q l _ (aM x _) x ay
def Wr(h:H d=some (.dK kvs)):qg K "dict" (.ref d) H:=Or.inr<|Or.inr<|Or.inl ⟨rfl,Or.inl ⟨kvs,h⟩⟩
abbrev NS:Ñ:=["_law_rows","_law_seats_here","_law_r","_law_place"]
def kX:ak NS ["_law_rows"] (aW M7):=cg
theorem lj(F:bA K "_law_seats" "_law_seats" M7 f fd)(T:Txt mg):aG P w K mg base bF 1 f fd ["_law_rows"] fz:=by
 refine F.gc kX λb0 H vs Q E hr h=>?_;obtain⟨R,as,n,rfl,u,hn,ht,q⟩:=h;have nd:=kX.nd;have bI:=u.len;refine aX 1 nd<|yK λd hd=>?_;refine nF T.range (cL eX T.len DP<|ai<|U 0<|aA ⟨R,_,rfl,.inl<|av.of<|aM hd _ _ _ u.lst,_,rfl,by omega,by rw[Aa];omega,?_⟩);rw[Aa,bI,Bt];refine nG (λr k J=>∃kvs b A O l,bo H J d (bg<|n.take r) kvs b A/\k=[some<|.ref R,some<|.ref d,O,l]) ⟨_,_,_,_,_,bo.start hd,rfl⟩ ?_ ?_
 ·rintro r k J Y ⟨kvs,b,c,O,l,S,rfl⟩;rw[Ed];apply a9 2 nd;obtain⟨a,ea,cZ,et,el,er⟩:=(u.same S.same).at Y;refine nF T.range<|cL eX T.len DP<|ai<|bn cw<|bn dZ<|U 0<|U 2 ⟨R,_,_,.ref a.1,rfl,rfl,av.of<|S.same _ _ u.lst,cZ,aF ⟨a.1,_,_,.ref a.2,rfl,rfl,aU.of et,rfl,aA ⟨a.2,_,rfl,.inl<|av.of el,_,rfl,by lia,?_,?_⟩⟩⟩
  ·have:(row n r).length<=1000:=by
    have L:(row n r).length<=(ag n).length:=by
     exact lS n r
    lia
   rw[Aa];lia
  rw[Aa,Bt];refine nG (λp k H4=>∃kvs b A l,bo H H4 d (bg (n.take r)++bh r ((row n r).take p) 0) kvs b A/\k=[some<|.ref R,some<|.ref d,some<|.int (r:Int),l]) ⟨kvs,b,c,_,by simpa[bh]using S,rfl⟩ ?_ ?_
  ·rintro p k H4 hp ⟨kvs,b,c,l,S,rfl⟩;rw[Ed];apply a9 3 nd;obtain⟨a,ea,cZ,et,el,er⟩:=(u.same S.same).at Y;have hz:=Ab hp;generalize (row n r)[p]=z at hz;have next:bg (n.take r)++bh r ((row n r).take<|p+1) 0=(bg (n.take r)++bh r ((row n r).take p) 0)++[(z,(r,p))]:=by
    rw[qH hz,Ap]
   have B:kvs.length<sizeLine:=by
    have L:b.length<=1000:=by
     refine Cd (aK S.nodup λy hy=>?_) ht;have D:=(S.mem y).mp hy;cases i:c y with
     |none=>rw[i]at D;cases D
     |some pr=>
      obtain⟨m,G⟩:=pr;have h3:=S.some' y m G i;unfold bq at h3;obtain⟨x,hx⟩:=Dy _ h3;obtain⟨⟨y2,e2⟩,j,_⟩:=Ag.mp hx;rw[Ao,CP]at j;obtain⟨j,rfl⟩:=j;have:(y2,e2)∈bg n:=by
       obtain j|j:=Al.mp j
       ·have o:=aY.mp j;apply aY.mpr;have q2:=dB o;unfold aH row at o ⊢;rw[Bm]at q2;rwa[Eb<|by lia]at o
       ·have o:=bV.mp j;apply aY.mpr;rw[aH,o.1];have v:=o.2.2;rw[WD]at v;have q4:=(Ad.mp v).1;rw[Bm]at q4;rwa[Eb<|by lia]at v
      exact dP<|aY.mp this
    have D:=BX List.length S.keys;rw[Aa,Aa]at D;exact bR<|by omega
   refine ik<|mH<|FO RV QF QG Vv<|U 1 ⟨Wr S.dict,bn dZ<|bn cw<|bn dZ<|U 0<|U 2 ⟨R,_,_,.ref a.1,rfl,rfl,av.of<|S.same _ _ u.lst,cZ,aF ⟨a.1,_,_,.ref a.2,rfl,rfl,aU.of et,rfl,U 3 ⟨a.2,_,_,.str z,rfl,rfl,av.of el,yM hz,?_⟩⟩⟩⟩;refine eQ<|aA ⟨Z0,λI M=>?_⟩;have N:=bz S.dict M;refine⟨d,kvs,Sum.inr z,.ref I,rfl,rfl,by rw[ax N];exact S.dict,B,?_⟩;cases i:c z with
   |some pr=>
    obtain⟨m,G⟩:=pr;obtain⟨o,q2,v,q4⟩:=S.at' z m G i;have uF:=bz v M;refine .inl ⟨.ref m,by rw[S.val z,i];rfl,m,rfl,⟨_,by rwa[ax uF]⟩,?_⟩;refine dk<|ai<|U 2<|ai<|U 3<|aA ⟨Z2,λt s=>?_⟩;have FX:m≠t:=λe=>by rw[<-e,ax uF,v]at s;cases s
    refine⟨G.map V.ref,by rwa[ax FX,ax uF],?_,?_⟩
    ·rw[Aa,q4.length];have L:(bq (bg (n.take r)++bh r ((row n r).take p) 0) z).length<=100000:=by
      rw[bq,Aa];apply Cd (Db _ _);rw[Ah];have D:(bg<|n.take r).length<=1000:=by
       have:=BX List.length<|nU (n.take r) 0;rw[Aa]at this;rw[bg,this];exact Cd (VS n r) ht
      have h3:(bh r ((row n r).take p) 0).length<=1000:=by
       rw[bh,Aa,List.length_zipIdx,Bm];have L:(row n r).length<=(ag n).length:=by
        exact lS n r
       omega
      omega
     exact bR L
    ·refine a8 ⟨kvs,b,(λy=>if y=z then some (m,G++[t])else c y),_,?_,rfl⟩;rw[next];exact S.old (e:=(r,p)) i M s
   |none=>
    refine .inr ⟨by rw[S.val z,i];rfl,I,rfl,⟨_,by rw[ax N.symm];exact ay⟩,?_⟩;refine dk<|ai<|U 2<|ai<|U 3<|aA ⟨Z2,λt s=>?_⟩;have uG:I≠t:=λe=>by rw[<-e,ax N.symm,ay]at s;cases s
    refine⟨[],by rw[ax uG,ax N.symm,ay],by show 0<sizeLine;decide,?_⟩;refine a8 ⟨putK kvs (Sum.inr z)<|.ref I,b++[z],(λy=>if y=z then some (I,[t])else c y),_,?_,rfl⟩;rw[next];exact S.new (e:=(r,p)) i M s
  ·rintro k H4 ⟨kvs,b,c,l,S,rfl⟩;refine a8 ⟨kvs,b,c,_,_,?_,rfl⟩;rw[sg Y];rwa[Bn]at S
 ·rintro k J ⟨kvs,b,c,O,l,S,rfl⟩;rw[Bn]at S;exact bQ<|U 1<|q d b J S.same S.free S.whole
abbrev NO:Ñ:=["_law_rows","_law_seats_here","_law_end","_law_pair"]
def kY:ak NO ["_law_rows","_law_seats_here","_law_end"] (aW M8):=cg
set_option tactic.hygienic true in
theorem q5c(F:bA K "_law_other" "_law_other" M8 f v)(T:Txt mg):aG P w K mg base bF 1 f v ["_law_rows","_law_seats_here","_law_end"] fE:=by
 refine F.gc kY λb0 H vs Q E s h=>?_;obtain⟨R,d,t,as,n,ks,e,rfl,u,A,B,m,D,q⟩:=h;have G:=s.j6;obtain⟨z,b⟩:=af.mp D;have I:=dB b;obtain⟨a,ea,J,L,M,er⟩:=u.at I;obtain⟨kvs,N,h2,O⟩:=A.dict;obtain⟨l,ts,v1,o,i⟩:=O z<|dP b;obtain⟨x,y,p,Nj,rX⟩:=sf B b;rw[p]at i;cases i with
 |cons Y i=>
 cases i with
 |cons y1 i=>
 cases i;rename_i j ty;have fv:=s.u1;refine aX 3 kY.nd<|i0 fv<|U 1<|bn dZ<|bn cw<|bn dZ<|U 0<|bn cw<|U 2<|aF ⟨t,_,_,.int (e.1:Int),rfl,rfl,aU.of m,rfl,R,_,_,.ref a.1,rfl,rfl,av.of u.lst,J,aF ⟨a.1,_,_,.ref a.2,rfl,rfl,aU.of L,rfl,?_⟩⟩;refine bn cw (U 2<|aF ⟨t,_,_,.int (e.2:Int),rfl,rfl,aU.of m,rfl,a.2,_,_,.str z,rfl,rfl,av.of M,yM b,d,.ref l,rfl,by rw[<-v1];exact bf.k (k:=Sum.inr z) N,?_⟩);refine bQ<|bn dZ<|U 3<|qt Vw T.y4 VF<|ai<|qp (Mc G)<|bn dZ<|U 3<|aF ⟨l,_,_,.ref j,rfl,rfl,av.of o,rfl,U 2 ⟨1,_,by decide,ov Y m,?_⟩⟩
 by_cases c:x=e
 ·rw[BW c];refine aA ⟨_,rfl,l,[.ref j,.ref ty],1,.ref ty,rfl,rfl,av.of o,rfl,q ty ?_⟩;have r:other n e=y:=by unfold other;simp only[b,p];simp[c]
  rwa[r]
 ·rw[BR c];refine aA ⟨_,rfl,l,[.ref j,.ref ty],0,.ref j,rfl,rfl,av.of o,rfl,q j ?_⟩;have r:other n e=x:=by unfold other;simp only[b,p];simp[c]
  rwa[r]
abbrev NT:Ñ:=["_law_rows","_law_seats_here","_law_end","_law_turn","_law_other_here"]
def n8:ak NT ["_law_rows","_law_seats_here","_law_end","_law_turn"] (aW M9):=cg
def ln(F:bA K "_law_step" "_law_step" M9 f r)(T:Txt mg)(G:aT P w K mg base 1 "_law_other" ["_law_rows","_law_seats_here","_law_end"] fE):
  aG P w K mg base bF 2 f r ["_law_rows","_law_seats_here","_law_end","_law_turn"] iE:=by
 refine F.gc n8 λJ H L Q E s h=>?_;obtain⟨R,d,t,as,n,v,e,c,rfl,b,x,j,y,k,q⟩:=h;have l:=cE j k;obtain⟨z,m⟩:=af.mp l;have A:=dB m;have M:=iy m;obtain⟨a,N,B,D,I,O⟩:=b.at A;refine aX 4 n8.nd<|bC G s<|ai<|U 0<|ai<|U 1<|ai<|U 2<|aA ⟨R,d,t,as,n,v,e,rfl,b,x,j,y,k,λu i=>?_⟩;refine bQ<|dk<|ai<|bn cw<|U 4<|aF ⟨u,_,_,.int ((other n e).1:Int),rfl,rfl,aU.of i,rfl,?_⟩;refine ai<|bb di<|bb gR<|bn cw<|U 4<|aF ⟨u,_,_,.int ((other n e).2:Int),rfl,rfl,aU.of i,rfl,U 3 ⟨_,_,rfl,rfl,?_⟩⟩;refine cL eX T.len DP<|ai<|bn cw<|bn dZ<|U 0<|bn cw<|U 4<|aF ⟨u,_,_,.int ((other n e).1:Int),rfl,rfl,aU.of i,rfl,R,_,_,.ref a.1,rfl,rfl,av.of b.lst,B,aF ⟨a.1,_,_,.ref a.2,rfl,rfl,aU.of D,rfl,aA ⟨a.2,_,rfl,.inl<|av.of I,?_⟩⟩⟩;rw[Aa];refine⟨_,_,rfl,rfl,by lia,aA ⟨Z2,λp o=>?_⟩⟩;apply q p _ (aM o _) o;rw[ay];show some (HO.tup [.int ((other n e).1:Int),.int<|(((other n e).2:Int)+c)%((row n (other n e).1).length:Int)])=some (HO.tup [.int ((other n e).1:Int),.int ((b6 c n<|other n e).2:Int)]);rw[wR l]
abbrev NF:Ñ:=["_law_rows","_law_seats_here","_law_end","_law_face_here","_law_here"]
def n9:ak NF ["_law_rows","_law_seats_here","_law_end"] (aW Nb):=cg
def jq(n:bc)(e:Nt.bi)(j:Nat):List Nt.bi:=(range j).map λi=>it (step n) i e
def qs(n:bc)(e:Nt.bi)(j:Nat):jq n e (j+1)=jq n e j++[it (step n) j e]:=by
 rw[jq,Cu,Ai];rfl
theorem MI(F:bA K "_law_face" "_law_face" Nb f fd)(T:Txt mg)(G:aT P w K mg base 2 "_law_step" ["_law_rows","_law_seats_here","_law_end","_law_turn"] iE):
  aG P w K mg base bF 3 f fd ["_law_rows","_law_seats_here","_law_end"] j9:=by
 refine F.gc n9 λb0 H vs Q E B h=>?_;obtain⟨R,d,t,as,n,Y,e,rfl,hR,hS,p,D,s,hb,q⟩:=h;have nd:=n9.nd;obtain⟨k,k0,k1,k2⟩:=yL (λa r=>uE p r) (λa r b hb=>VQ p r hb) s;refine aX 3 nd<|eQ<|ai<|U 2<|aA ⟨Z1,λl I=>?_⟩;have g1:=aM I<|.lst [.ref t];refine aX 4 nd<|bC G B<|ai<|U 0<|ai<|U 1<|ai<|U 2<|ai<|aF<|aA ⟨R,d,t,as,n,Y,e,1,rfl,hR.same g1,hS.same g1,p,g1 _ _ D,s,λu H1 J nu x=>?_⟩;rw[<-wV p s]at x;refine uC (λm σ o=>E3 λj ts u=>A9 (m=k-j) (0<j) (j<=k) (aj H o) (o l=some (.lst<|ts.map V.ref)) (Pd o ts<|jq n e j) (o u=some (Tp<|it (step n) j e)) (∀i,0<i->i<j->it (step n) i e≠e)<|σ=[some<|.ref R,some<|.ref d,some<|.ref t,some<|.ref l,some<|.ref u])
  (m0:=k-1) ⟨1,[t],u,rfl,Fx,k0,g1.trans J,J _ _ ay,.cons (J _ _<|g1 _ _ D) .nil,x,λi y L=>by omega,rfl⟩ ?_
 rintro m σ o ⟨j,ts,u,rfl,j0,j1,M,z,N,x,hf,rfl⟩;refine cA (yI B.j6) (U 4<|U 2 ⟨1,_,by decide,oG x<|M _ _ D,_,rfl,?_⟩);have pl:=N.length;have ol:(jq n e j).length=j:=by unfold jq;simp
 by_cases c:it (step n) j e=e
 ·rw[BW c];refine bU (bQ<|U 3<|q l ts (jq n e j) o M I z N ⟨by lia,by lia,λi hi=>?_,by rwa[ol],λi y L=>hf i y<|by lia⟩);rw[jq,Aj,Dc<|by lia];rfl
 ·rw[BR c];have jk:j<k:=by
   obtain h|h:=Dv j k
   ·exact h
   ·have:j=k:=by lia
    subst this;cases c k2
  refine bK (ik<|mH<|U 3 ⟨l,rfl,⟨_,z⟩,U 4 ⟨_,z,by rw[Aa];exact bR (by lia),?_⟩⟩);have O:aj H (upd o l<|.lst<|ts.map V.ref++[.ref u]):=dR M I;have kt:∀b f,o b=some (Tp f)->(upd o l<|.lst<|ts.map V.ref++[.ref u]) b=some (Tp f):=λb f h=>by
   rwa[ax<|yN h z]
  have Ws:=kt u _ x;refine aX 4 nd<|bC G B<|ai<|U 0<|ai<|U 1<|ai<|U 4<|ai<|aF<|aA ⟨R,d,u,as,n,Y,it (step n) j e,1,rfl,hR.same O,hS.same O,p,Ws,lR (λa r=>uE p r) s j,λv H3 A nv ev=>?_⟩;rw[<-wV p<|lR (λa r=>uE p r) s j]at ev;refine a8 ⟨k-(j+1),by lia,j+1,ts++[u],v,rfl,Gu _,jk,O.trans A,?_,?_,ev,λi y L=>?_,rfl⟩
  ·rw[Ai];exact A _ _ ay
  ·rw[qs];exact(N.keep λb f h=>A _ _<|kt b f h).append<|.cons (A _ _ Ws) .nil
  ·obtain h|h:=Gm.mp L
   ·exact hf i y h
   ·rwa[h]
end G8
namespace Nt
open PySem L2
def sr(T:ao n)(h:e∈ends n):∃k,kU n e k/\k<=(ends n).length:=by
 obtain⟨k,s,z,t⟩:=yL (λa d=>pK T d) (λa d b u=>wW T d u) h;have f:∀m,∀k,k<=m->0<k->it (two n) k e=e->∃j,j<=k/\kU n e j:=by
  intro m
  induction m with
  |zero=>intro k v q;lia
  |succ m w=>
   intro k v q x
   by_cases c:∃i,0<i/\i<k/\it (two n) i e=e
   ·obtain⟨i,l,r,o⟩:=c;obtain⟨j,y,p⟩:=w i (by lia) l o;exact⟨j,by lia,p⟩
   ·exact⟨k,Aq _,q,x,λi l r o=>c ⟨i,l,r,o⟩⟩
 obtain⟨j,y,p⟩:=f k k (Aq _) s t;exact⟨j,p,by lia⟩
def k77(T:ao n)(h:e∈ends n):nX n (walker n e):=by
 obtain⟨k,p,a⟩:=sr T h;rw[walker,wX p];exact qk T h p a
theorem sv(T:ao n):∀f b,(∀e∈f,e∈ends n)->∀w∈dE n f b,nX n w
 |[],_,_,w,c=>by cases c
 |e :: r,b,h,w,c=>by
  unfold dE at c
  split at c
  ·exact sv T r b (λa d=>h a<|Af _ d) w c
  ·obtain rfl|c:=Ak.mp c
   ·exact k77 T<|h e<|Ac ..
   ·exact sv T r _ (λa d=>h a<|Af _ d) w c
theorem Hu(n:bc):∀b a,(dE n b a).length<=b.length
 |[],_=>Aq _
 |e :: r,a=>by
  unfold dE
  split
  ·have:=Hu n r a;show _<=r.length+1;lia
  ·have:=Hu n r<|a++(ah<|walker n e).map (aw n);show _+1<=r.length+1;lia
end Nt
namespace Nt
section
variable{α:Type}
def cq(f:α->α):List α->α->α->Prop
 |[],a,b=>a=b
 |x :: l,a,b=>x=a/\cq f l (f x) b
end
section
variable{α:Type}
theorem aQ:∀{l k}{a b},cq f (l++k) a b↔∃c,cq f l a c/\cq f k c b
 |[],k,a,b=>⟨λh=>⟨a,rfl,h⟩,λ⟨c,e,h⟩=>by cases e;exact h⟩
 |x :: l,k,a,b=>by
  show(x=a/\cq f (l++k) (f x) b)↔∃c,(x=a/\cq f l (f x) c)/\cq f k c b;rw[aQ];exact⟨λ⟨e,c,d,i⟩=>⟨c,⟨e,d⟩,i⟩,λ⟨c,⟨e,d⟩,i⟩=>⟨e,c,d,i⟩⟩
end
section
variable{α β:Type}
theorem Hv:∀{l}{a b},(∀x∈l,f' (g x)=g (f x))->cq f l a b->cq f' (l.map g) (g a) (g b)
 |[],_,_,_,h=>BX g h
 |x :: l,a,b,c,h=>⟨BX g h.1,by rw[c x Ac];exact Hv (λy d=>c y<|Af _ d) h.2⟩
end
section
variable{α:Type}
theorem Hw:∀{l}{x a b y},cq f (x :: l) a b->y∈x :: l->f y∈l\/f y=b
 |[],x,a,b,y,h,c=>by
  rw[Ae]at c;subst c;exact .inr h.2
 |z :: l,x,a,b,y,h,c=>by
  obtain rfl|c:=Ak.mp c
  ·exact .inl<|h.2.1▸Ac
  ·obtain q|q:=Hw h.2 c
   ·exact .inl<|Af _ q
   ·exact .inr q
end
theorem lU(h:cq f l a a)(c:a∈l)(b:y∈l):f y∈l:=by
 cases l with
 |nil=>cases b
 |cons x l=>
  obtain q|q:=Hw h b
  ·exact Af _ q
  ·rwa[q]
section
variable{α β:Type}
theorem y7:∀{l}{x},(∀y∈x :: l,f y=c->f' (g y)=h)->(∀y∈x :: l,f y≠c->f' (g y)=g (f y))->c∉l->cq f (x :: l) x c->cq f' ((x :: l).map g) (g x) h
 |[],x,a,_,_,p=>⟨rfl,a x Ac p.2⟩
 |y :: l,x,a,d,i,p=>by
  have e:=p.2.1;have ne:f x≠c:=λq=>i (by rw[<-q,<-e];exact Ac);refine⟨rfl,?_⟩;rw[d x Ac ne,<-e];exact y7 (λz b=>a z<|Af _ b) (λz b=>d z<|Af _ b) (λq=>i<|Af _ q)<|⟨rfl,p.2.2⟩
end
structure cc(f:α->α)(D:List α)(Ls:List<|List α):Prop where
 cr:∀l∈Ls,∃a,a∈l/\cq f l a a
 all:Ls.flatten.Perm D
 nd:D.Nodup
def cc.sub{Ls:List (List α)}(d:cc f D Ls)(a:l∈Ls)(b:x∈l):x∈D:=
 d.all.mem_iff.mp (Ch.mpr ⟨l,a,b⟩)
def cc.pick{Ls:List (List α)}(d:cc f D Ls)(o:c∈D):∃l i,Ls.length=i.length+1/\cc f D ((c :: l):: i):=by
 obtain⟨l,j,r⟩:=Ch.mp<|d.all.mem_iff.mpr o;obtain⟨A,B,rfl⟩:=Do j;obtain⟨p,q,rfl⟩:=Do r;obtain⟨a,u,h⟩:=d.cr _ j;obtain⟨m,s,n⟩:=aQ.mp h;have e:=n.1;subst e;refine⟨q++p,A++B,by simp[Nat.add_assoc],λk b=>?_,?_,d.nd⟩
 ·obtain rfl|b:=Ak.mp b
  ·exact⟨c,Ac,aQ.mpr ⟨a,n,s⟩⟩
  ·apply d.cr k
   obtain q|q:=Al.mp b
   ·exact As _ q
   ·exact Ar _<|Af _ q
 ·refine List.Perm.trans ?_ d.all;simp only[Bf,Em,Er];have t:(c :: (q++p)).Perm (p++c :: q):=by
   rw[<-Er];exact Cq
  refine((t.append_right _).trans ?_);rw[<-Ap,<-Ap];exact(Cq).append_right _
def cc.apart(d:cc f D<|l :: a):l.Nodup/\∀m∈a,∀x∈l,x∉m:=by
 have h:=d.all.nodup_iff.mpr d.nd;rw[Bf,Bj]at h;exact⟨h.1,λm b x c e=>h.2.2 x c x (Ch.mpr ⟨m,b,e⟩) rfl⟩
section
variable{α β:Type}
theorem Hx:∀(Ls:List<|List α),(Ls.map<|List.map g).flatten=Ls.flatten.map g
 |[]=>rfl
 |l :: Ls=>by rw[Be,Bf,Hx Ls,Bf,Ai]
end
def cc.rest(d:cc f D<|l :: h)(i:∀x∈D,f x∉l->f' (g x)=g (f x)):∀m∈h.map (List.map g),∃a,a∈m/\cq f' m a a:=by
 intro m j;obtain⟨k,b,rfl⟩:=Ag.mp j;obtain⟨a,c,p⟩:=d.cr k<|Af _ b;refine⟨g a,Ag.mpr ⟨a,c,rfl⟩,Hv (λx e=>i x (d.sub (Af _ b) e) λq=>?_) p⟩;exact d.apart.2 k b _ q<|lU p c e
def cc.grow(d:cc f D<|(c :: l):: m)(n:cq f' new h<|g c)(o:∀x∈D,f x=c->f' (g x)=h)(j:∀x∈D,f x≠c->f' (g x)=g (f x))(nd:(D.map g++new).Nodup):
  cc f' (D.map g++new) (((c :: l).map g++new):: m.map (List.map g)):=by
 have r:=(Bb.mp d.apart.1).1;refine⟨λk b=>?_,?_,nd⟩
 ·obtain rfl|b:=Ak.mp b
  ·obtain⟨a,t,p⟩:=d.cr _ Ac;have e:=p.1;subst e;exact⟨g c,As _ Ac,aQ.mpr ⟨h,y7 (λy i=>o y<|d.sub Ac i) (λy i=>j y<|d.sub Ac i) r p,n⟩⟩
  ·exact d.rest (λx s q=>j x s λe=>q<|e▸Ac) k b
 ·rw[Bf,Hx];have:=d.all.map g;rw[Bf,Ai]at this;refine List.Perm.trans ?_<|this.append_right new;rw[Ap,Ap];exact(Cq).append_left _
def cc.split(d:cc f D<|(c :: l):: s)(hd:n∈l){e1 e2:O}(Q:f' e1=g n)(T:f' e2=g c)(Y:∀x∈D,f x=c->f' (g x)=e1)(t:∀x∈D,f x=n->f' (g x)=e2)(u:∀x∈D,f x≠c->f x≠n->f' (g x)=g (f x))(nd:(D.map g++[e1,e2]).Nodup):
  ∃Ls,Ls.length=s.length+2/\cc f' (D.map g++[e1,e2]) Ls/\∃l∈Ls,e2∈l/\e1∉l:=by
 obtain⟨p,q,rfl⟩:=Do hd;have v:=Bb.mp d.apart.1;have J:=Bj.mp v.2;have w:=λx=>J.2.2 n x n Ac rfl;have E:=λx=>v.1<|As _ x;have G:=λx=>v.1<|Ar _<|Af _ x;obtain⟨a,ha,L⟩:=d.cr _ Ac;have e:=L.1;subst e;obtain⟨m,M,H⟩:=(aQ (l:=c :: p)).mp L;have e:n=m:=H.1;subst e;have o:∀ y∈c :: p,y∈D:=λy j=>d.sub Ac (by
  obtain rfl|j:=Ak.mp j
  ·exact Ac
  ·exact Af _<|As _ j)
 have N:∀y∈n :: q,y∈D:=λy j=>d.sub Ac<|Af _<|Ar _ j;have Nm:=Bj.mp nd;have Ö:e1≠e2:=λe=>by
  have:=Nm.2.1;rw[e]at this;simp at this
 refine⟨((c :: p).map g++[e2]):: ((n :: q).map g++[e1]):: s.map (List.map g),by simp,⟨λk r=>?_,?_,nd⟩,_,Ac,Ar _<|Ae.mpr rfl,λh=>?_⟩
 ·obtain rfl|r:=Ak.mp r
  ·refine⟨g c,As _ Ac,aQ.mpr ⟨e2,y7 (λy j=>t y<|o y j) (λy j ne=>u y (o y j) (λI=>?_) ne) w M,rfl,T⟩⟩
   obtain z|z:=Hw M j
   ·exact E<|by rwa[<-I]
   ·exact ne z
  ·obtain rfl|r:=Ak.mp r
   ·refine⟨g n,As _ Ac,aQ.mpr ⟨e1,y7 (λy j=>Y y<|N y j) (λy j ne=>u y (N y j) ne λI=>?_) G H,rfl,Q⟩⟩
    obtain z|z:=Hw H j
    ·exact (Bb.mp J.2.1).1<|by rwa[<-I]
    ·exact ne z
   ·exact d.rest (λx hx q=>u x hx (λe=>q<|e▸Ac) λe=>q<|e▸(Af _<|Ar _ Ac)) k r
 ·simp only[Bf,Hx];have:=d.all.map g;rw[Bf,Ai,<-Er,Ai]at this;refine List.Perm.trans ?_<|this.append_right [e1,e2];generalize (c :: p).map g=A;generalize (n :: q).map g=B;generalize s.flatten.map g=i
  letI:DecidableEq O:=λa b=>Classical.propDecidable<|a=b
  rw[List.perm_iff_count];intro z;simp only[Dw,Dj,List.count_nil];lia
 ·grind
def cc.more{Ls:List (List e)}(d:cc f D Ls)(a:f b=b)(nd:(D++[b]).Nodup):cc f (D++[b]) (Ls++[[b]]):=by
 refine⟨λl c=>?_,?_,nd⟩
 ·obtain h|h:=Al.mp c
  ·exact d.cr l h
  ·rw[Ae]at h;subst h;exact⟨b,Ac,rfl,a⟩
 ·rw[Em];exact d.all.append_right _
def cc.carry{Ls:List (List α)}(d:cc f D Ls)(e:∀x∈D,f' (g x)=g (f x))(h:(D.map g).Perm b)(nd:b.Nodup):cc f' b (Ls.map<|List.map g):=by
 refine⟨λm i=>?_,?_,nd⟩
 ·obtain⟨k,c,rfl⟩:=Ag.mp i;obtain⟨a,j,p⟩:=d.cr k c;exact⟨g a,Ag.mpr ⟨a,j,rfl⟩,Hv (λx l=>e x<|d.sub c l) p⟩
 ·rw[Hx];exact(d.all.map g).trans h
open PySem
theorem uV[DecidableEq α]:∀{a b:List α},a.Nodup->(∀z∈a,z∈b)->b.length<=a.length->a.Perm b
 |[],b,_,_,c=>by
  have:b=[]:=Ci.mp<|Nat.le_zero.mp c;rw[this]
 |x :: a,b,nd,sub,c=>by
  have d:=Bb.mp nd;have e:=List.perm_cons_erase (sub x Ac);refine List.Perm.trans ((uV d.2 (λz f=>?_) ?_).cons x) e.symm
  ·grind
  ·grind
def ka(T:ao n)(d:aH n a=some z)(i:aH n b=some z)(ne:a≠b):other n a=b:=by
 obtain⟨j,_,k⟩:=cS T d;obtain⟨p,q,e,_,_⟩:=sf T d;have f:=aJ.mpr d;have h:=aJ.mpr i;have c:=aJ.mpr j;rw[e]at f h c;simp only[Ak,Cs,HN]at f h c
 obtain rfl|rfl:=f<;>obtain rfl|rfl:=h<;>obtain c|c:=c<;>first|exact c|exact absurd rfl ne|exact absurd c k
def sh(c e:bi):bi:=if e.1=c.1/\c.2<=e.2 then(e.1,e.2+1)else e
def qN(c e:bi):(sh c e).1=e.1:=by unfold sh;split<;>rfl
def sy(h:sh c a=sh c b):a=b:=by
 have d:a.1=b.1:=by rw[<-qN c a,h,qN]
 have e:=BX Prod.snd h;unfold sh at e;apply FZ d
 by_cases x:a.1=c.1/\c.2<=a.2
 ·grind
 ·grind
def sF(c e:bi):sh c e≠c:=by
 intro h;have b:e.1=c.1:=by rw[<-qN c e,h]
 have a:=BX Prod.snd h;unfold sh at a
 by_cases x:e.1=c.1/\c.2<=e.2
 ·grind
 ·grind
def wY(a:c.1<n.length)(b:c.2<=(row n c.1).length)(i:Nat):(row (ins n c z) i).length=if c.1=i then(row n i).length+1 else(row n i).length:=by
 rw[wK n c z i a]
 by_cases h:c.1=i
 ·grind
 ·rw[C h,C h]
def Nn(a:c.1<n.length)(b:c.2<=(row n c.1).length):aH (ins n c z) c=some z:=by
 rw[aH,wK n c z c.1 a,BL rfl,Ay (by rw[Bm];lia),Bm,show c.2-min c.2 (row n c.1).length=0 by lia];rfl
def wZ(a:c.1<n.length)(b:c.2<=(row n c.1).length)(e:bi):aH (ins n c z) (sh c e)=aH n e:=by
 unfold aH;rw[qN,wK n c z e.1 a];unfold sh
 by_cases h:c.1=e.1
 ·grind
 ·grind
def sG(a:c.1<n.length)(b:c.2<(row n c.1).length):left (ins n c z) c=sh c c:=by
 unfold left sh;rw[wY a<|Cv b,BL rfl,BL ⟨rfl,Aq _⟩,Ca<|by lia]
def kZ(b:c.1<n.length)(a:c.2<(row n c.1).length)(p:e.2<(row n e.1).length):left (ins n c z) (sh c e)=if left n e=c then c else sh c (left n e):=by
 by_cases h:c.1=e.1
 ·have r:(left n e).1=e.1:=rfl;have d:(left n e).2=(e.2+1)%(row n e.1).length:=rfl;have q:(left n e=c)↔(e.2+1)%(row n e.1).length=c.2:=⟨λx=>by rw[<-d,x],λx=>FZ h.symm x⟩;have L:(left (ins n c z) (sh c e))=(e.1,((sh c e).2+1)%((row n e.1).length+1)):=by
   rw[left,qN,wY b<|Cv a,BL h]
  rw[L];rw[h]at a;have S:(sh c e).2=if c.2<=e.2 then e.2+1 else e.2:=by
   unfold sh
   by_cases k:c.2<=e.2
   ·rw[BL ⟨h.symm,k⟩,BL k]
   ·rw[C λq=>k q.2,C k]
  have f:sh c (left n e)=(e.1,if c.2<=(e.2+1)%(row n e.1).length then(e.2+1)%(row n e.1).length+1 else(e.2+1)%(row n e.1).length):=by
   unfold sh
   by_cases k:c.2<=(e.2+1)%(row n e.1).length
   ·rw[BL ⟨h.symm,k⟩,BL k];rfl
   ·rw[C λq=>k q.2,C k];rfl
  rw[S,f];generalize (row n e.1).length=m at *
  by_cases k:e.2+1<m
  ·rw[Ca k]at q ⊢
   by_cases j:e.2+1=c.2
   ·rw[BL<|q.mpr j,C (by lia),Ca<|by lia];exact FZ h.symm j
   ·rw[C λx=>j<|q.mp x]
    by_cases i:c.2<=e.2
    ·rw[BL i,BL (by lia),Ca<|by lia]
    ·rw[C i,C (by lia),Ca<|by lia]
  ·have em:e.2+1=m:=by lia
   rw[em,Ec]at q ⊢;rw[BL (by lia),Ec]
   by_cases j:0=c.2
   ·rw[BL<|q.mpr j];exact FZ h.symm j
   ·rw[C λx=>j<|q.mp x,C<|by lia]
 ·have ne:left n e≠c:=λx=>h (by rw[<-x];rfl);rw[C ne];have l:sh c e=e:=by rw[sh,C λq=>h q.1.symm]
  have o:sh c (left n e)=left n e:=by rw[sh,C λq=>h q.1.symm]
  rw[l,o];unfold left;rw[wY b<|Cv a,C h]
def Pl(n:bc):Prop:=(ag n=[]/\n.length=1)\/∃Ls,cc (step n) (ends n) Ls/\2*(n.length+Ls.length)=(ag n).length+4
structure gL(n m:bc)(g:bi->bi)(e1 e2:bi)(z:Str):Prop where
 c6:∀e∈ends n,aH m (g e)=aH n e
 t1:aH m e1=some z
 t2:aH m e2=some z
 inj:∀a b,g a=g b->a=b
 n1:∀a∈ends n,g a≠e1
 n2:∀a∈ends n,g a≠e2
 ne:e1≠e2
 len:(ag m).length=(ag n).length+2
def gL.nd(p:gL n m g e1 e2 z):((ends n).map g++[e1,e2]).Nodup:=by
 rw[Bj];refine⟨?_,?_,?_⟩
 ·exact(Ez.mpr<|(nV n).imp λ{a b}h e=>h<|p.inj a b e)
 ·simp[p.ne]
 ·rintro a f b c rfl;obtain⟨x,d,rfl⟩:=Ag.mp f;simp only[Ak,Cs,HN]at c
  obtain h|h:=c
  ·exact p.n1 x d h
  ·exact p.n2 x d h
def gL.perm(p:gL n m g e1 e2 z):((ends n).map g++[e1,e2]).Perm (ends m):=by
 refine uV p.nd (λa c=>?_)<|by rw[kQ,p.len,Ah,Aa,kQ];exact Aq _
 obtain h|h:=Al.mp c
 ·obtain⟨x,b,rfl⟩:=Ag.mp h;obtain⟨y,d⟩:=af.mp b;exact af.mpr ⟨y,by rwa[p.c6 x b]⟩
 ·simp only[Ak,Cs,HN]at h
  obtain rfl|rfl:=h
  ·exact af.mpr ⟨z,p.t1⟩
  ·exact af.mpr ⟨z,p.t2⟩
def gL.iZ(p:gL n m g e1 e2 z)(T:ao n)(b:ao m)(a:e∈ends n):other m (g e)=g (other n e):=by
 obtain⟨y,c⟩:=af.mp a;obtain⟨d,_,f⟩:=cS T c;exact ka b (by rwa[p.c6 e a]) (by rwa[p.c6 _<|af.mpr ⟨y,d⟩]) λh=>f (p.inj _ _ h).symm
def gL.o1(p:gL n m g e1 e2 z)(a:ao m):other m e1=e2:=ka a p.t1 p.t2 p.ne
def gL.o2(p:gL n m g e1 e2 z)(a:ao m):other m e2=e1:=ka a p.t2 p.t1 p.ne.symm
def cc.perm{Ls:List (List α)}(d:cc f D Ls)(h:D.Perm a):cc f a Ls:=⟨d.cr,d.all.trans h,h.nodup_iff.mp d.nd⟩
def Hy{l:List α}(h:∀x∈l,f x∈l)(b:a∈l):∀k,it f k a∈l:=λk=>lR h b k
def cc.one(d:cc f D<|(a :: l):: o)(q:b∈D)(h:(∃k,it f k a=b)\/∃k,it f k b=a)(ne:b≠a):b∈l:=by
 have i:∀k∈(a :: l):: o,∀x∈k,f x∈k:=λk r x s=>by
  obtain⟨c,t,p⟩:=d.cr k r;exact lU p t s
 have u:b∈a :: l:=by
  obtain⟨k,rfl⟩|⟨k,e⟩:=h
  ·exact Hy (i _ Ac) Ac k
  ·obtain⟨j,m,n⟩:=Ch.mp<|d.all.mem_iff.mpr q
   obtain rfl|v:=Ak.mp m
   ·exact n
   ·have:=Hy (i j m) n k;rw[e]at this;exact absurd this<|d.apart.2 j v a Ac
 obtain h|h:=Ak.mp u
 ·exact absurd h ne
 ·exact h
def Wu(p:gL n m g e1 e2 z)(T:ao n)(f:ao m)(s:m.length=n.length)(h:k1∈ends n)(i:k2∈ends n)(ne:k2≠k1)(same:(∃k,it (step n) k k1=k2)\/∃k,it (step n) k k2=k1)
  (t:left m e1=g k1) (u:left m e2=g k2) (lf:∀e∈ends n,left m (g e)=if left n e=k1 then e1 else if left n e=k2 then e2 else g (left n e)) (P:Pl n):Pl m:=by
 have st:∀x∈ends n,step m (g x)=if step n x=k1 then e1 else if step n x=k2 then e2 else g (step n x):=λx c=>by
  unfold step;rw[p.iZ T f c];exact lf _<|cE T c
 obtain⟨e,_⟩|⟨Ls,d,v⟩:=P
 ·obtain⟨y,j⟩:=af.mp h;have:=dP j;rw[e]at this;cases this
 ·obtain⟨l,w,A,d⟩:=d.pick h;obtain⟨o,q,r,_⟩:=d.split (f':=step m) (d.one i same ne) (by unfold step;rwa[p.o1 f]) (by unfold step;rwa[p.o2 f])
   (λx c e=>by rw[st x c,BL e]) (λx c e=>by rw[st x c,C (e▸ne),BL e]) (λx c a b=>by rw[st x c,C a,C b]) p.nd
  refine .inr ⟨o,r.perm p.perm,?_⟩;have:=p.len;lia
def KS(p:gL n m g e1 e2 z)(T:ao n)(b:ao m)(o:m.length=n.length)(f:c∈ends n)
  (q:left m e1=g c) (r:left m e2=e1) (lf:∀e∈ends n,left m (g e)=if left n e=c then e2 else g (left n e)) (P:Pl n):Pl m:=by
 have st:∀x∈ends n,step m (g x)=if step n x=c then e2 else g (step n x):=λx a=>by
  unfold step;rw[p.iZ T b a];exact lf _<|cE T a
 obtain⟨e,_⟩|⟨Ls,d,s⟩:=P
 ·obtain⟨y,i⟩:=af.mp f;have:=dP i;rw[e]at this;cases this
 ·obtain⟨l,t,u,d⟩:=d.pick f;have h:((ends n).map g++[e2]++[e1]).Nodup:=by
   rw[Ap];exact((List.Perm.swap e1 e2 []).append_left _).nodup_iff.mpr p.nd
  have j:=d.grow (f':=step m) (new:=[e2]) ⟨rfl,by unfold step;rwa[p.o2 b]⟩ (λx a e=>by rw[st x a,BL e]) (λx a e=>by rw[st x a,C e]) (Bj.mp h).1;have k:=j.more (by unfold step;rwa[p.o1 b]) h;have pm:((ends n).map g++[e2]++[e1]).Perm (ends m):=by
   refine List.Perm.trans ?_ p.perm;rw[Ap];exact(List.Perm.swap e1 e2 []).append_left _
  refine .inr ⟨_,k.perm pm,?_⟩;have:=p.len;simp only[Ah,Au,Aa,Fj];lia
def wC(p:gL n m g e1 e2 z)(T:ao n)(b:ao m)(o:m.length=n.length+1)(f:c∈ends n)
  (q:left m e1=g c) (r:left m e2=e2) (lf:∀e∈ends n,left m (g e)=if left n e=c then e1 else g (left n e)) (P:Pl n):Pl m:=by
 have st:∀x∈ends n,step m (g x)=if step n x=c then e1 else g (step n x):=λx a=>by
  unfold step;rw[p.iZ T b a];exact lf _<|cE T a
 obtain⟨e,_⟩|⟨Ls,d,s⟩:=P
 ·obtain⟨y,h⟩:=af.mp f;have:=dP h;rw[e]at this;cases this
 ·obtain⟨l,t,u,d⟩:=d.pick f;have i:step m e1=e2:=by unfold step;rwa[p.o1 b]
  have j:step m e2=g c:=by unfold step;rwa[p.o2 b]
  have k:=d.grow (f':=step m) (new:=[e1,e2]) ⟨rfl,by rw[i];exact⟨rfl,j⟩⟩ (λx a e=>by rw[st x a,BL e]) (λx a e=>by rw[st x a,C e]) p.nd;refine .inr ⟨_,k.perm p.perm,?_⟩;have:=p.len;simp only[Au,Aa];lia
def g8(h:e∈ends n):e.1<n.length/\e.2<(row n e.1).length:=by
 obtain⟨z,a⟩:=af.mp h;exact⟨dB a,iy a⟩
def Ww(c:k1.1<n.length/\k1.2<=(row n k1.1).length)(f:k2.1<n.length/\k2.2<=(row n k2.1).length):gL n (ins (ins n k1 z) k2 z) (λe=>sh k2<|sh k1 e) (sh k2 k1) k2 z:=by
 have d:k2.1<(ins n k1 z).length:=by rw[jN];exact f.1
 have i:k2.2<=(row (ins n k1 z) k2.1).length:=by
  rw[wY c.1 c.2]
  split
  ·have:=f.2;lia
  ·exact f.2
 refine⟨λe _=>?_,?_,Nn d i,λa b h=>sy<|sy h,λa _ h=>sF k1 a<|sy h,λa _=>sF k2 _,sF k2 k1,?_⟩
 ·show aH _ (sh k2<|sh k1 e)=_;rw[wZ d i,wZ c.1 c.2]
 ·rw[wZ d i];exact Nn c.1 c.2
 ·rw[(pH _ k2 z d).length_eq,Au,(pH _ k1 z c.1).length_eq,Au]
def zk(T:ao n)(r:ao<|ins (ins n k1 z) k2 z)(o:k1∈ends n)(s:k2∈ends n)(ord:k2=k1\/sh k1 k2=k2)(same:(∃k,it (step n) k k1=k2)\/∃k,it (step n) k k2=k1)(P:Pl n):Pl (ins (ins n k1 z) k2 z):=by
 have a:=g8 o;have j:=g8 s;have p:=Ww (z:=z) ⟨a.1,Cv a.2⟩ ⟨j.1,Cv j.2⟩;have f:k2.1<(ins n k1 z).length:=by rw[jN];exact j.1
 have t:∀i,(row n i).length<=(row (ins n k1 z) i).length:=λi=>by
  rw[wY a.1<|Cv a.2]
  split<;>lia
 have h:=Br j.2<|t _;have u:=Br a.2<|t _;have v:(ins (ins n k1 z) k2 z).length=n.length:=by rw[jN,jN]
 have w:∀e∈ends n,(sh k1 e).2<(row (ins n k1 z) (sh k1 e).1).length:=λe b=>by
  obtain⟨y,B⟩:=af.mp b;exact iy<|by rwa[wZ a.1<|Cv a.2]
 have A:left (ins n k1 z) k1=sh k1 k1:=sG a.1 a.2
 by_cases e:k2=k1
 ·subst e;refine KS p T r v o ?_ (sG f h) (λe b=>?_) P
  ·rw[kZ f h u,A,C<|sF _ _]
  ·show left _ (sh k2<|sh k2 e)=_;rw[kZ f h<|w e b,kZ a.1 a.2 (g8 b).2]
   by_cases q:left n e=k2
   ·rw[BL q,BL rfl,BL q]
   ·rw[C q,C<|sF _ _,C q]
 ·have l:sh k1 k2=k2:=ord.resolve_left e;refine Wu p T r v o s e same ?_ ?_ (λd b=>?_) P
  ·rw[kZ f h u,A,C λq=>e<|sy (c:=k1)<|by rw[l,q]]
  ·show left _ k2=sh k2 (sh k1 k2);rw[l];exact sG f h
  ·show left _ (sh k2<|sh k1 d)=if left n d=k1 then sh k2 k1 else if left n d=k2 then k2 else sh k2 (sh k1<|left n d);rw[kZ f h<|w d b,kZ a.1 a.2 (g8 b).2]
   by_cases q:left n d=k1
   ·rw[BL q,BL q,C λx=>e x.symm]
   ·rw[C q,C q]
    by_cases m:left n d=k2
    ·rw[BL m,m,l,BL rfl]
    ·rw[C m,C λx=>m<|sy (c:=k1)<|by rw[x,l]]
def sI(h:i<a.length):row (a++b) i=row a i:=by
 unfold row;rw[Aw h]
def Hz:row (a++[x]) a.length=x.2:=by
 unfold row;rw[Ay<|Aq _];simp
def Wx(d:c.1<n.length/\c.2<=(row n c.1).length):gL n (ins n c z++[(pt,[z])]) (sh c) c (n.length,0) z:=by
 have f:∀e:bi,e.1<n.length->aH (ins n c z++[(pt,[z])]) e=aH (ins n c z) e:=λe i=>by
  unfold aH;rw[sI<|by rwa[jN]]
 refine⟨λe i=>?_,?_,?_,λa b h=>sy h,λa _=>sF c a,λa j h=>?_,λh=>?_,?_⟩
 ·rw[f _ (by rw[qN];exact(g8 i).1),wZ d.1 d.2]
 ·rw[f _ d.1,Nn d.1 d.2]
 ·unfold aH;have:=Hz (a:=ins n c z) (x:=(pt,[z]));rw[jN]at this;show(row _ n.length)[0]?=_;rw[this];rfl
 ·have:=(g8 j).1;rw[<-qN c a,h]at this;exact absurd this<|Dl _
 ·have:=d.1;rw[h]at this;exact absurd this<|Dl _
 ·unfold ag;rw[Di,Ah];have:=(pH _ c z d.1).length_eq;unfold ag at this;rw[this];rfl
def ry(T:ao n)(i:ao<|ins n c z++[(pt,[z])])(f:c∈ends n)(P:Pl n):Pl (ins n c z++[(pt,[z])]):=by
 have b:=g8 f;have h:∀e:bi,e.1<n.length->left (ins n c z++[(pt,[z])]) e=left (ins n c z) e:=λe d=>by
  unfold left;rw[sI<|by rwa[jN]]
 refine wC (Wx (z:=z) (pt:=pt) ⟨b.1,Cv b.2⟩) T i (by rw[Ah,jN];rfl) f ?_ ?_ (λe d=>?_) P
 ·rw[h _ b.1];exact sG b.1 b.2
 ·unfold left;have:=Hz (a:=ins n c z) (x:=(pt,[z]));rw[jN]at this;show(n.length,(0+1)%(row _ n.length).length)=_;rw[this];exact BX (Prod.mk _)<|Ec 1
 ·rw[h _<|by rw[qN];exact(g8 d).1];exact kZ b.1 b.2 (g8 d).2
def Wy(f:ao m)(b:ends m=[e1,e2])(i:aH m e1=some z)(j:aH m e2=some z)(ne:e1≠e2)
  (h:(m.length=2/\left m e1=e1/\left m e2=e2)\/(m.length=1/\left m e1=e2/\left m e2=e1)):Pl m:=by
 have k:=ka f i j ne;have n:=ka f j i ne.symm;have a:(ag m).length=2:=by rw[<-kQ,b];rfl
 have nd:[e1,e2].Nodup:=by simp[ne]
 obtain⟨c,d,e⟩|⟨c,d,e⟩:=h
 ·refine .inr ⟨[[e1,e2]],?_,by rw[c,a];rfl⟩;rw[b];refine⟨λl a=>?_,List.Perm.refl _,nd⟩;rw[Ae]at a;subst a;refine⟨e1,Ac,rfl,?_⟩;unfold step;rw[k,e];exact⟨rfl,by show left m (other m e2)=e1;rw[n,d]⟩
 ·refine .inr ⟨[[e1],[e2]],?_,by rw[c,a];rfl⟩;rw[b];refine⟨λl a=>?_,List.Perm.refl _,nd⟩;simp only[Ak,Cs,HN]at a
  obtain rfl|rfl:=a
  ·exact⟨e1,Ac,rfl,by show left m (other m e1)=e1;rw[k,e]⟩
  ·exact⟨e2,Ac,rfl,by show left m (other m e2)=e2;rw[n,d]⟩
def DC{nm pt z:Str}(a:ao [(nm,[z]),(pt,[z])]):Pl [(nm,[z]),(pt,[z])]:=
 Wy (e1:=(0,0)) (e2:=(1,0)) a rfl rfl rfl (by decide) (.inl ⟨rfl,by simp[left,row],by simp[left,row]⟩)
def vu{nm z:Str}(a:ao [(nm,[z,z])]):Pl [(nm,[z,z])]:=
 Wy (e1:=(0,0)) (e2:=(0,1)) a rfl rfl rfl (by decide) (.inr ⟨rfl,by simp[left,row],by simp[left,row]⟩)
def Jk{g:bi->bi}(T:ao n)(q:ao m)(p:m.length=n.length)(i:(ag m).length=(ag n).length)(j:∀e∈ends n,aH m (g e)=aH n e)(inj:∀a∈ends n,∀b∈ends n,g a=g b->a=b)
  (lf:∀e∈ends n,left m (g e)=g (left n e)) (P:Pl n):Pl m:=by
 obtain⟨e,h⟩|⟨Ls,d,v⟩:=P
 ·exact .inl ⟨Ci.mp (by rw[i,e];rfl),by rw[p,h]⟩
 ·have nd:((ends n).map g).Nodup:=by
   have:∀(l:List bi),(∀x∈l,x∈ends n)->l.Nodup->(l.map g).Nodup:=by
    intro l
    induction l with
    |nil=>intro _ _;exact Co
    |cons x l r=>
     intro k h;have h:=Bb.mp h;rw[Be];refine Bb.mpr ⟨λc=>?_,r (λy f=>k y<|Af _ f) h.2⟩;obtain⟨y,f,e⟩:=Ag.mp c;have:=inj y (k y<|Af _ f) x (k x Ac) e;exact h.1<|this ▸ f
   exact this _ (λx c=>c)<|nV n
  have pm:((ends n).map g).Perm (ends m):=by
   refine uV nd (λa s=>?_) (by rw[Aa,kQ,kQ,i];exact Aq _);obtain⟨x,c,rfl⟩:=Ag.mp s;obtain⟨y,f⟩:=af.mp c;exact af.mpr ⟨y,by rwa[j x c]⟩
  refine .inr ⟨_,d.carry (λx c=>?_) pm<|nV m,by rwa[Aa,p,i]⟩;obtain⟨y,f⟩:=af.mp c;obtain⟨t,_,u⟩:=cS T f;have o:=af.mpr ⟨y,t⟩;have:other m (g x)=g (other n x):=ka q (by rwa[j x c]) (by rwa[j _ o]) λh=>u (inj _ c _ o h).symm;unfold step;rw[this];exact lf _ o
def sJ(i len q:Nat):Nat:=if i<=q then q-i else q+len-i
def f7(N j i len:Nat)(e:bi):bi:=if e.1<j then e else if e.1=j then(N-1,sJ i len e.2) else(e.1-1,e.2)
def Wz(d:j<a.length)(r:Nat)(e:r<a.length):row (a.eraseIdx j++[x]) (if r<j then r else if r=j then a.length-1 else r-1)=if r=j then x.2 else row a r:=by
 have le:(a.eraseIdx j).length=a.length-1:=by rw[Dm,BL d]
 by_cases c:r<j
 ·rw[BL c,C (by lia),sI<|by rw[le];lia];unfold row;rw[Fy,BL c]
 ·rw[C c]
  by_cases b:r=j
  ·rw[BL b,BL b,<-le,Hz]
  ·rw[C b,C b,sI<|by rw[le];lia];unfold row;rw[Fy,C (by lia),show r-1+1=r by lia]
def q29(a:i<len)(b:q<len):(sJ i len q+1)%len=sJ i len ((q+1)%len):=by
 unfold sJ
 by_cases k:q+1<len
 ·rw[Ca k]
  by_cases h:i<=q
  ·rw[BL h,BL (by lia),Ca<|by lia];lia
  ·rw[C h]
   by_cases c:q+1=i
   ·rw[BL (by lia),show q+len-i+1=len by lia,Ec];lia
   ·rw[C (by lia),Ca<|by lia];lia
 ·have e:q+1=len:=by lia
  rw[e,Ec,BL<|by lia]
  by_cases h:i=0
  ·rw[BL (by lia),show q-i+1=len by lia,Ec];lia
  ·rw[C (by lia),Ca<|by lia];lia
def x1n{l:Ñ}(a:i<l.length)(b:q<l.length):(l.drop i++l.take i)[sJ i l.length q]?=l[q]?:=by
 unfold sJ
 by_cases h:i<=q
 ·rw[BL h,Aw (by rw[Cy];lia),QS,show i+(q-i)=q by lia]
 ·rw[C h,Ay (by rw[Cy];lia),Cy,Eb (by lia),show q+l.length-i-(l.length-i)=q by lia]
def WB(t:j<a.length)(w:i<max 1 (row a j).length):∃g:bi->bi,(∀e∈ends a,aH (a.eraseIdx j++[(x,(row a j).drop i++(row a j).take i)]) (g e)=aH a e)/\(∀b∈ends a,∀c∈ends a,g b=g c->b=c) /\
  ∀e∈ends a,left (a.eraseIdx j++[(x,(row a j).drop i++(row a j).take i)]) (g e)=g (left a e):=by
 have fst:∀e:bi,(f7 a.length j i (row a j).length e).1=if e.1<j then e.1 else if e.1=j then a.length-1 else e.1-1:=λe=>by
  unfold f7
  by_cases h:e.1<j
  ·rw[BL h,BL h]
  ·rw[C h,C h]
   by_cases d:e.1=j
   ·rw[BL d,BL d]
   ·rw[C d,C d]
 have snd:∀e:bi,(f7 a.length j i (row a j).length e).2=if e.1=j then sJ i (row a j).length e.2 else e.2:=λe=>by
  unfold f7
  by_cases h:e.1<j
  ·rw[BL h,C<|by lia]
  ·rw[C h]
   by_cases d:e.1=j
   ·rw[BL d,BL d]
   ·rw[C d,C d]
 have n:∀e:bi,e.1<a.length->row (a.eraseIdx j++[(x,(row a j).drop i++(row a j).take i)]) (f7 a.length j i (row a j).length e).1=if e.1=j then(row a j).drop i++(row a j).take i else row a e.1:=λe k=>by
  rw[fst,Wz t e.1 k]
 refine⟨f7 a.length j i (row a j).length,λe k=>?_,λb y c z h=>?_,λe k=>?_⟩
 ·have r:=g8 k;unfold aH;rw[n e r.1,snd]
  by_cases h:e.1=j
  ·rw[BL h,BL h,<-h,x1n (by have:=w;rw[<-h]at this;lia) r.2]
  ·rw[C h,C h]
 ·have l:=g8 y;have m:=g8 z;have f:=BX Prod.fst h;have d:=BX Prod.snd h;rw[fst,fst]at f;rw[snd,snd]at d
  by_cases p:b.1=j
  ·by_cases q:c.1=j
   ·rw[BL p,BL q]at d;refine FZ (by rw[p,q]) ?_;have l:=l.2;have m:=m.2;rw[p]at l;rw[q]at m;unfold sJ at d
    by_cases u:i<=b.2
    ·rw[BL u]at d
     by_cases v:i<=c.2
     ·rw[BL v]at d;lia
     ·rw[C v]at d;lia
    ·rw[C u]at d
     by_cases v:i<=c.2
     ·rw[BL v]at d;lia
     ·rw[C v]at d;lia
   ·exfalso
    rw[C (by lia),BL p]at f;have:=m.1
    by_cases u:c.1<j
    ·rw[BL u]at f;lia
    ·rw[C u,C q]at f;lia
  ·by_cases q:c.1=j
   ·exfalso
    have:=l.1;rw[C (show ¬ c.1<j by lia),BL q]at f
    by_cases u:b.1<j
    ·rw[BL u]at f;lia
    ·rw[C u,C p]at f;lia
   ·rw[C p,C q]at d;refine FZ ?_ d;rw[C p,C q]at f
    by_cases u:b.1<j
    ·rw[BL u]at f
     by_cases v:c.1<j
     ·rwa[BL v]at f
     ·rw[C v]at f;lia
    ·rw[C u]at f
     by_cases v:c.1<j
     ·rw[BL v]at f;lia
     ·rw[C v]at f;lia
 ·have r:=g8 k;have o:(left a e).1=e.1:=rfl;have L2:(left a e).2=(e.2+1)%(row a e.1).length:=rfl;refine FZ ?_ ?_
  ·show(f7 a.length j i (row a j).length e).1=(f7 a.length j i (row a j).length<|left a e).1;rw[fst,fst,o]
  ·show((f7 a.length j i (row a j).length e).2+1)%(row _ (f7 a.length j i (row a j).length e).1).length=(f7 a.length j i (row a j).length<|left a e).2;rw[n e r.1,snd,snd,o,L2]
   by_cases h:e.1=j
   ·rw[BL h,BL h,BL h,Ah,Cy,Bm];have s:=r.2;rw[h]at s ⊢;rw[show(row a j).length-i+min i (row a j).length=(row a j).length by lia];exact q29 (by lia) s
   ·rw[C h,C h,C h]
def dy(b:j<a.length)(c:i<max 1 (row a j).length)(T:ao a)(d:ao<|a.eraseIdx j++[(x,(row a j).drop i++(row a j).take i)])
  (e:(ag<|a.eraseIdx j++[(x,(row a j).drop i++(row a j).take i)]).length=(ag a).length) (P:Pl a):Pl (a.eraseIdx j++[(x,(row a j).drop i++(row a j).take i)]):=by
 obtain⟨g,f,h,k⟩:=WB b c;exact Jk T d (by rw[Ah,Dm,BL b,Dh];lia) e f h k P
theorem WG(f:α->α)(a:α):∀k,it f k (f a)=it f (k+1) a
 |0=>rfl
 |k+1=>by show f (it f k<|f a)=f (it f (k+1) a);rw[WG f a k]
theorem HG:∀{l}{a b x},cq f l a b->x∈l->∃k,it f k a=x
 |y :: l,a,b,x,h,c=>by
  obtain rfl|c:=Ak.mp c
  ·exact⟨0,h.1.symm⟩
  ·obtain⟨k,e⟩:=HG h.2 c;refine⟨k+1,?_⟩;rwa[<-WG,<-h.1]
theorem cc.unique[DecidableEq α]:∀{Ls b:List (List α)}{D:List α},cc f D Ls->cc f D b->Ls.length=b.length
 |[],b,D,d,h=>by
  have e:=List.Perm.eq_nil d.all.symm;subst e;cases b with
  |nil=>rfl
  |cons m b=>
   obtain⟨a,w,_⟩:=h.cr m Ac;have:=h.sub Ac w;cases this
 |l :: Ls,b,D,d,h=>by
  obtain⟨c,j,p⟩:=d.cr l Ac;obtain⟨t,z,A,i⟩:=h.pick<|d.sub Ac j;obtain⟨G,u,n⟩:=i.cr _ Ac;have e:=n.1;subst e;have B:∀x∈l,x∈c :: t:=λx o=>by
   obtain⟨k,rfl⟩:=HG p o;exact Hy (λy r=>lU n u r) u k
  have E:∀x∈c :: t,x∈l:=λx o=>by
   obtain⟨k,rfl⟩:=HG n o;exact Hy (λy r=>lU p j r) j k
  have q:Ls.flatten.Perm z.flatten:=by
   have v:=d.all.trans i.all.symm;rw[Bf,Bf]at v;exact(List.perm_append_left_iff l).mp<|v.trans<|(uV d.apart.1 B<|aK i.apart.1 E).symm.append_right _
  have nd:=d.all.nodup_iff.mpr d.nd;rw[Bf,Bj]at nd;have:=cc.unique ⟨λk s=>d.cr k<|Af _ s,List.Perm.refl _,nd.2.1⟩ ⟨λk s=>i.cr k<|Af _ s,q.symm,nd.2.1⟩;rw[Au,this,A]
def HI(b:(ag m).Perm<|z :: z :: ag n)(T:ao n)(c:z∉ag n):ao m:=by
 intro y a;rw[b.count_eq,Dj,Dj]
 by_cases e:z=y
 ·grind
 ·have a:=b.mem_iff.mp a
  obtain h|a:=Ak.mp a
  ·cases e h.symm
  ·obtain h|a:=Ak.mp a
   ·cases e h.symm
   ·rw[T y a];have:(z == y)=false:=by simpa using e
    rw[this];rfl
def w5{nm:Str}(h:gX [(nm,[])] c):c=(0,0):=by
 obtain⟨b,a⟩:=h;have b:c.1<1:=b;have e:c.1=0:=by lia
 have a:=a;rw[e]at a;have a:c.2<1:=a;exact FZ e<|by show c.2=0;lia
def HK(F:gh n):(∃nm,n=[(nm,[])])\/row n 0≠[]:=by
 obtain h|⟨a,b⟩:=F
 ·exact .inl h
 ·exact .inr<|b 0<|Ds.mpr a
def Wm{n:bc}(T:ao n)(F:gh n)(d:z∉ag n)(a:gX n c)(e:(ag<|ins n c z++[(pt,[z])]).Perm<|z :: z :: ag n)(P:Pl n):Pl (ins n c z++[(pt,[z])]):=by
 have b:=HI e T d
 obtain⟨nm,rfl⟩|f:=HK F
 ·have:=w5 a;subst this;exact DC b
 ·exact ry T b (F.df f a) P
def uI{n:bc}(T:ao n)(F:gh n)(e:z∉ag n)(a:gX n k1)(b:gX n k2)(f:(ag<|ins (ins n k1 z) k2 z).Perm<|z :: z :: ag n)(ord:k2=k1\/sh k1 k2=k2)(same:(∃k,it (step n) k k1=k2)\/∃k,it (step n) k k2=k1)(P:Pl n):Pl (ins (ins n k1 z) k2 z):=by
 have c:=HI f T e
 obtain⟨nm,rfl⟩|d:=HK F
 ·have:=w5 a;subst this;have:=w5 b;subst this;exact vu c
 ·exact zk T c (F.df d a) (F.df d b) ord same P
def q35(h:bv.lexLt ((a.1:Int),(a.2:Int)) ((b.1:Int),(b.2:Int))=true):sh b a=a:=by
 unfold bv.lexLt at h;unfold sh;refine C λq=>?_;rw[BL<|by rw[q.1]]at h;have:=BZ h;lia
def nn(h:bv.lexLt ((a.1:Int),(a.2:Int)) ((b.1:Int),(b.2:Int))=false):b=a\/sh a b=b:=by
 unfold bv.lexLt at h
 by_cases e:(a.1:Int)=(b.1:Int)
 ·rw[BL e]at h;have h:=JC h
  by_cases c:a.2=b.2
  ·exact .inl<|FZ (by lia) c.symm
  ·refine .inr<|C λq=>?_;lia
 ·exact .inr<|C λq=>e<|by rw[q.1]
def WL(a b:bc):ag (a++b)=ag a++ag b:=by
 unfold ag;rw[Di]
def q6c(d:j<n.length)(l:i<max 1 (row n j).length)(T0:ao c)(pt:(ag n++ag a).Perm<|ag c)
  (b:(ag (n.eraseIdx j)++ag (a++[(x,(row n j).drop i++(row n j).take i)])).Perm<|ag c) (P:Pl<|n++a):Pl (n.eraseIdx j++(a++[(x,(row n j).drop i++(row n j).take i)])):=by
 have e:∀m:bc,(ag m).Perm (ag c)->ao m:=λm p y h=>by rw[p.count_eq];exact T0 y<|p.mem_iff.mp h
 rw[<-WL]at pt b;have f:row (n++a) j=row n j:=sI d;have k:n.eraseIdx j++(a++[(x,(row n j).drop i++(row n j).take i)])=(n++a).eraseIdx j++[(x,(row (n++a) j).drop i++(row (n++a) j).take i)]:=by
  rw[LC d,Ap,f]
 rw[k]at b ⊢;exact dy (by rw[Ah];lia) (by rwa[f]) (e _ pt) (e _ b) (by rw[b.length_eq,pt.length_eq]) P
end Nt
namespace Nt
def Nl(f:iz n e b)(h:c∈b):∃k,it (step n) k e=c:=by
 obtain⟨i,a,d⟩:=Bv.mp h;have:=f.at' i a;rw[Ab a,d]at this;exact⟨i,(Option.some.inj this).symm⟩
open PySem
def au:List Bool->Bool
 |[]=>false
 |b :: l=>b ^^ au l
theorem oh:∀a b,au (a++b)=(au a ^^ au b)
 |[],b=>by simp[au]
 |x :: a,b=>by
  show(x ^^ au (a++b))=((x ^^ au a) ^^ au b);rw[oh a b,Bool.xor_assoc]
theorem WM(h:a.Perm b):au a=au b:=by
 induction h with
 |nil=>rfl
 |cons x _ c=>show(x ^^ _)=(x ^^ _);rw[c]
 |swap x y l=>show(y ^^ (x ^^ au l))=(x ^^ (y ^^ au l));cases x<;>cases y<;>simp
 |trans _ _ d e=>exact d.trans e
theorem iF(f g:α->Bool):∀l:List α,au (l.map λx=>f x ^^ g x)=(au (l.map f) ^^ au (l.map g))
 |[]=>rfl
 |x :: l=>by
  show((f x ^^ g x) ^^ au (l.map λx=>f x ^^ g x))=((f x ^^ au (l.map f)) ^^ (g x ^^ au (l.map g)));rw[iF f g l];cases f x<;>cases g x<;>cases au (l.map f)<;>cases au (l.map g)<;>rfl
def f9(n:bc)(s:Str->Bool):Prop:=∀r,au ((row n r).map s)=false
structure aV(n:bc)(s:Str->Bool)(χ:bi->Bool):Prop where
 go:∀e∈ends n,χ (step n e)=χ e
 c6:∀e z,aH n e=some z->s z=(χ e ^^ χ (other n e))
def RS(n:bc):Prop:=∀s:Str->Bool,f9 n s->∃a,aV n s a
def WN(n:bc)(r:Nat)(s:Str->Bool)(g:bi->Bool)(h:∀p z,(row n r)[p]?=some z->s z=g (r,p)):(row n r).map s=(range (row n r).length).map λp=>g (r,p):=by
 apply Dz;intro p;rw[Aj,Aj]
 by_cases a:p<(row n r).length
 ·grind
 ·grind
theorem Np(f:Nat->Bool)(m:Nat):au ((range m).map λp=>f<|(p+1)%m)=au ((range m).map f):=by
 cases m with
 |zero=>rfl
 |succ k=>
  have e:(range<|k+1).map (λp=>f<|(p+1)%(k+1))=((range k).map λp=>f<|p+1)++[f 0]:=by
   rw[Cu,Ai]
   congr 1
   ·refine At λp a=>?_;have:=Bg.mp a;rw[Ca<|by lia]
   ·simp
  rw[e,TY,Be,Bi,oh];show(au ((range k).map λp=>f<|p+1) ^^ (f 0 ^^ false))=(f 0 ^^ au ((range k).map λp=>f<|p+1));cases f 0<;>cases au ((range k).map λp=>f<|p+1)<;>rfl
def aV.even(T:ao n)(h:aV n s a):f9 n s:=by
 intro r;rw[WN n r s (λe=>a e ^^ a (other n e)) λp z b=>h.c6 (r,p) z b];rw[iF (λp=>a (r,p)) λp=>a<|other n (r,p)];have e:((range (row n r).length).map λp=>a<|other n (r,p))=(range (row n r).length).map λp=>a (r,(p+1)%(row n r).length):=by
  refine At λp c=>?_;obtain⟨z,b⟩:=FU (e:=(r,p)) (Bg.mp c);obtain⟨d,f,_⟩:=cS T b;have:=h.go (other n (r,p))<|af.mpr ⟨z,d⟩;rw[<-this];show a (left n (other n<|other n (r,p)))=_;rw[f];rfl
 rw[e,Np λp=>a (r,p)];cases au ((range (row n r).length).map λp=>a (r,p))<;>rfl
def aV.xor(h:aV n s a)(g:aV n t ψ):aV n (λz=>s z ^^ t z) (λe=>a e ^^ ψ e):=by
 refine⟨λe b=>?_,λe z c=>?_⟩
 ·rw[h.go e b,g.go e b]
 ·show(s z ^^ t z)=((a e ^^ ψ e) ^^ (a (other n e) ^^ ψ (other n e)));rw[h.c6 e z c,g.c6 e z c];cases a e<;>cases ψ e<;>cases a (other n e)<;>cases ψ (other n e)<;>rfl
def f9.xor(h:f9 n s)(g:f9 n t):f9 n (λz=>s z ^^ t z):=λr=>by
 rw[iF s t,h r,g r];rfl
def gL.mark(p:gL n m g e1 e2 z)(c:bi->Bool)(a:Bool):∃b:bi->Bool,(∀e∈ends n,b (g e)=c e)/\b e1=a/\b e2=a:=by
 refine⟨λx=>if x=e1 then a else if x=e2 then a else match (ends n).find? (λe=>decide (g e=x))with|some e=>c e|none=>false,λe f=>?_,?_,?_⟩
 ·show(if g e=e1 then a else if g e=e2 then a else match (ends n).find? (λd=>decide (g d=g e))with|some e=>c e|none=>false)=c e;rw[C<|p.n1 e f,C<|p.n2 e f];cases h:(ends n).find? (λd=>decide (g d=g e)) with
  |none=>exact absurd (BW (rfl:g e=g e))<|by simpa using Gp.mp h e f
  |some d=>
   have i:=Hi h;rw[p.inj _ _ (BZ i)]
 ·simp
 ·simp
def gL.oj(p:gL n m g e1 e2 z)(T:ao n)(r:ao m)(h:aV n s o)(v:s z=false)
  (st:∀x∈ends n,step m (g x)=g (step n x)\/((step m (g x)=e1\/step m (g x)=e2)/\o (step n x)=a))
  (A:step m e1=e1\/step m e1=e2\/∃k∈ends n,step m e1=g k/\o k=a) (B:step m e2=e1\/step m e2=e2\/∃k∈ends n,step m e2=g k/\o k=a):∃d,aV m s d:=by
 obtain⟨d,i,j,l⟩:=p.mark o a;have w:∀x∈ends m,(∃e∈ends n,x=g e)\/x=e1\/x=e2:=λx t=>by
  have:=p.perm.mem_iff.mpr t
  obtain q|q:=Al.mp this
  ·grind
  ·grind
 refine⟨d,λx t=>?_,λx y c=>?_⟩
 ·obtain⟨e,b,rfl⟩|rfl|rfl:=w x t
  ·rw[i e b]
   obtain q|⟨q,f⟩:=st e b
   ·rw[q,i _<|uE T b,h.go e b]
   ·rw[h.go e b]at f
    obtain q|q:=q
    ·rw[q,j,f]
    ·rw[q,l,f]
  ·obtain q|q|⟨k,u,q,f⟩:=A
   ·rw[q]
   ·rw[q,j,l]
   ·rw[q,i k u,j,f]
  ·obtain q|q|⟨k,u,q,f⟩:=B
   ·rw[q,j,l]
   ·rw[q]
   ·rw[q,i k u,l,f]
 ·obtain⟨e,b,rfl⟩|rfl|rfl:=w x (af.mpr ⟨y,c⟩)
  ·rw[p.c6 e b]at c;obtain⟨D,_,_⟩:=cS T c;rw[p.iZ T r b,i e b,i _<|af.mpr ⟨y,D⟩];exact h.c6 e y c
  ·rw[p.t1]at c;cases c;rw[p.o1 r,j,l,v];cases a<;>rfl
  ·rw[p.t2]at c;cases c;rw[p.o2 r,j,l,v];cases a<;>rfl
def WO(d:ao m){ψ:bi->Bool}(f:∀e∈ends m,ψ (step m e)=ψ e)(r:aH m e1=some z)(u:other m e1=e2)(ne:ψ e1≠ψ e2)(l:∀s,f9 m s->s z=false->∃i,aV m s i):RS m:=by
 intro s n
 by_cases b:s z=false
 ·exact l s n b
 ·have b:s z=true:=by cases h:s z with|true=>rfl|false=>cases b h
  let t:Str->Bool:=λy=>match (ends m).find? (λe=>decide (aH m e=some y))with|some e=>ψ e ^^ ψ (other m e)|none=>false
  have j:aV m t ψ:=by
   refine⟨f,λe y a=>?_⟩;show(match (ends m).find? (λe=>decide (aH m e=some y))with|some e=>ψ e ^^ ψ (other m e)|none=>false)=_;cases o:(ends m).find? (λe=>decide (aH m e=some y)) with
   |none=>exact absurd (BW a)<|by simpa using Gp.mp o e (af.mpr ⟨y,a⟩)
   |some c=>
    have v:=Hi o;have p:=BZ v
    by_cases q:c=e
    ·rw[q]
    ·have w:=ka d a p<|CG q;show(ψ c ^^ ψ (other m c))=_;rw[ka d p a q,w];cases ψ e<;>cases ψ c<;>rfl
  have x:t z=true:=by
   rw[j.c6 e1 z r,u];cases A:ψ e1<;>cases B:ψ e2<;>simp_all
  obtain⟨i,k⟩:=l (λy=>s y ^^ t y) (n.xor<|j.even d) (by show(s z ^^ t z)=false;rw[b,x];rfl);have:=k.xor j;refine⟨λe=>i e ^^ ψ e,this.go,λe y a=>?_⟩;rw[<-this.c6 e y a];cases s y<;>cases t y<;>rfl
def Nq(a:c.1<n.length)(b:s z=false)(r:Nat):au ((row (ins n c z) r).map s)=au ((row n r).map s):=by
 rw[wK n c z r a]
 by_cases h:c.1=r
 ·rw[BL h,Ai,Be,oh];show(au (((row n r).take c.2).map s) ^^ (s z ^^ au (((row n r).drop c.2).map s)))=_;rw[b,Gf,<-oh,<-Ai,Da]
 ·rw[C h]
def cc.mark[DecidableEq α]{Ls:List (List α)}(d:cc f D Ls)(i:l∈Ls):∀x∈D,(f x∈l↔x∈l):=by
 intro x b;obtain⟨A,B,rfl⟩:=Do i;have e:cc f D (l :: (A++B)):=⟨λk a=>d.cr k (by
  obtain rfl|a:=Ak.mp a
  ·exact i
  ·obtain q|q:=Al.mp a
   ·exact As _ q
   ·exact Ar _<|Af _ q),by
  refine List.Perm.trans ?_ d.all;rw[Bf,Em,Em,Bf,<-Ap,<-Ap];exact(Cq).append_right _,d.nd⟩
 have m:∀k∈l :: (A++B),∀x∈k,f x∈k:=λk a x b=>by
  obtain⟨c,n,p⟩:=e.cr k a;exact lU p n b
 by_cases h:x∈l
 ·grind
 ·refine⟨λq=>?_,λq=>absurd q h⟩
  exfalso
  obtain⟨k,a,j⟩:=Ch.mp<|e.all.mem_iff.mpr b
  obtain rfl|o:=Ak.mp a
  ·exact h j
  ·exact e.apart.2 k o _ q<|m k a x j
section
variable{n:bc}
theorem Nr(T:ao n)(h:aV n s b)(c:a∈ends n):∀k,b (it (step n) k a)=b a
 |0=>rfl
 |k+1=>by
  show b (step n<|it (step n) k a)=_;rw[h.go _<|lR (λx d=>uE T d) c k,Nr T h c k]
end
def LI{n m:bc}{g:bi->bi}(p:gL n m g e1 e2 z)(T:ao n)(h:ao m)(i:k1∈ends n)(j:k2∈ends n)(ne:k2≠k1)(same:(∃k,it (step n) k k1=k2)\/∃k,it (step n) k k2=k1)
  (H:left m e1=g k1) (I:left m e2=g k2) (lf:∀e∈ends n,left m (g e)=if left n e=k1 then e1 else if left n e=k2 then e2 else g (left n e))
  {Ls:List (List bi)} (d:cc (step n) (ends n) Ls) (u:∀s,f9 m s->s z=false->f9 n s) (R:RS n):RS m:=by
 have st:∀x∈ends n,step m (g x)=if step n x=k1 then e1 else if step n x=k2 then e2 else g (step n x):=λx c=>by
  rw[step,p.iZ T h c];exact lf _<|cE T c
 have q:step m e1=g k2:=by unfold step;rwa[p.o1 h]
 have r:step m e2=g k1:=by unfold step;rwa[p.o2 h]
 obtain⟨l,J,L,d⟩:=d.pick i;obtain⟨M,v,y,w,A,B,D⟩:=d.split (d.one j same ne) (e1:=e1) (e2:=e2) q r
  (λx c e=>by rw[st x c,BL e]) (λx c e=>by rw[st x c,C (e▸ne),BL e]) (λx c a b=>by rw[st x c,C a,C b]) p.nd
 refine WO h (ψ:=λx=>decide (x∈w)) (λx c=>decide_eq_decide.mpr<|(y.perm p.perm).mark A x c) p.t1 (p.o1 h) (by show decide (e1∈w)≠decide (e2∈w);rw[BR D,BW B];decide) λs E t=>?_;obtain⟨o,f⟩:=R s<|u s E t;have G:o k2=o k1:=by
  obtain⟨k,e⟩|⟨k,e⟩:=same
  ·rw[<-e];exact Nr T f i k
  ·rw[<-e];exact(Nr T f j k).symm
 refine p.oj T h f t (a:=o k1) (λx c=>?_) (.inr<|.inr ⟨k2,j,q,G⟩)<|.inr<|.inr ⟨k1,i,r,rfl⟩;rw[st x c]
 by_cases N:step n x=k1
 ·grind
 ·grind
def q6n(p:gL n m g e1 e2 z)(T:ao n)(a:ao m)(j:c∈ends n)(r:left m e1=g c)(t:left m e2=e1)(lf:∀e∈ends n,left m (g e)=if left n e=c then e2 else g (left n e))
  (k:∀s,f9 m s->s z=false->f9 n s) (R:RS n):RS m:=by
 have st:∀x∈ends n,step m (g x)=if step n x=c then e2 else g (step n x):=λx b=>by
  unfold step;rw[p.iZ T a b];exact lf _<|cE T b
 have d:step m e1=e1:=by unfold step;rwa[p.o1 a]
 have l:step m e2=g c:=by unfold step;rwa[p.o2 a]
 refine WO a (ψ:=λx=>decide (x=e1)) (λx b=>?_) p.t1 (p.o1 a) (by show decide (e1=e1)≠decide (e2=e1);rw[BW rfl,BR p.ne.symm];decide) λs o i=>?_
 ·by_cases q:x=e1
  ·rw[q,d]
  ·show decide (step m x=e1)=decide (x=e1);rw[BR q];exact BR λe=>q<|VQ a b (af.mpr ⟨z,p.t1⟩)<|by rw[e,d]
 obtain⟨u,f⟩:=R s<|k s o i;refine p.oj T a f i (λx b=>?_) (.inl d)<|.inr<|.inr ⟨c,j,l,rfl⟩;rw[st x b]
 by_cases h:step n x=c
 ·rw[BL h];exact .inr ⟨.inr rfl,by rw[h]⟩
 ·rw[C h];exact .inl rfl
def q4v(p:gL n m g e1 e2 z)(T:ao n)(a:ao m)(j:c∈ends n)(q:left m e1=g c)(r:left m e2=e2)(lf:∀e∈ends n,left m (g e)=if left n e=c then e1 else g (left n e))
  (b:∀s,f9 m s->s z=false) (k:∀s,f9 m s->s z=false->f9 n s) (R:RS n):RS m:=by
 have st:∀x∈ends n,step m (g x)=if step n x=c then e1 else g (step n x):=λx d=>by
  unfold step;rw[p.iZ T a d];exact lf _<|cE T d
 have l:step m e1=e2:=by unfold step;rwa[p.o1 a]
 have o:step m e2=g c:=by unfold step;rwa[p.o2 a]
 intro s i;have b:=b s i;obtain⟨t,f⟩:=R s<|k s i b;refine p.oj T a f b (λx d=>?_) (.inr<|.inl l)<|.inr<|.inr ⟨c,j,o,rfl⟩;rw[st x d]
 by_cases h:step n x=c
 ·rw[BL h];exact .inr ⟨.inl rfl,by rw[h]⟩
 ·rw[C h];exact .inl rfl
def x0i(T:ao n)(u:ao<|ins (ins n k1 z) k2 z)(m:k1∈ends n)(v:k2∈ends n)(ord:k2=k1\/sh k1 k2=k2)(same:(∃k,it (step n) k k1=k2)\/∃k,it (step n) k k2=k1)(P:Pl n)(R:RS n):RS (ins (ins n k1 z) k2 z):=by
 have a:=g8 m;have o:=g8 v;have p:=Ww (z:=z) ⟨a.1,Cv a.2⟩ ⟨o.1,Cv o.2⟩;have b:k2.1<(ins n k1 z).length:=by rw[jN];exact o.1
 have w:∀i,(row n i).length<=(row (ins n k1 z) i).length:=λi=>by
  rw[wY a.1<|Cv a.2]
  split<;>lia
 have j:=Br o.2<|w _;have A:=Br a.2<|w _;have B:∀e∈ends n,(sh k1 e).2<(row (ins n k1 z) (sh k1 e).1).length:=λe f=>by
  obtain⟨y,D⟩:=af.mp f;exact iy (z:=y)<|by rwa[wZ a.1<|Cv a.2]
 have E:left (ins n k1 z) k1=sh k1 k1:=sG a.1 a.2;have G:∀s,f9 (ins (ins n k1 z) k2 z) s->s z=false->f9 n s:=λs l H r=>by
  rw[<-Nq a.1 H r,<-Nq b H r];exact l r
 by_cases e:k2=k1
 ·subst e;refine q6n p T u m ?_ (sG b j) (λe f=>?_) G R
  ·rw[kZ b j A,E,C<|sF _ _]
  ·show left _ (sh k2<|sh k2 e)=_;rw[kZ b j<|B e f,kZ a.1 a.2 (g8 f).2]
   by_cases q:left n e=k2
   ·rw[BL q,BL rfl,BL q]
   ·rw[C q,C<|sF _ _,C q]
 ·have l:sh k1 k2=k2:=ord.resolve_left e
  obtain⟨I,_⟩|⟨Ls,d,_⟩:=P
  ·obtain⟨y,D⟩:=af.mp m;have:=dP D;rw[I]at this;cases this
  refine LI p T u m v e same ?_ ?_ (λh f=>?_) d G R
  ·rw[kZ b j A,E,C λq=>e<|sy (c:=k1)<|by rw[l,q]]
  ·show left _ k2=sh k2 (sh k1 k2);rw[l];exact sG b j
  ·show left _ (sh k2<|sh k1 h)=if left n h=k1 then sh k2 k1 else if left n h=k2 then k2 else sh k2 (sh k1<|left n h);rw[kZ b j<|B h f,kZ a.1 a.2 (g8 f).2]
   by_cases q:left n h=k1
   ·rw[BL q,BL q,C λx=>e x.symm]
   ·rw[C q,C q]
    by_cases t:left n h=k2
    ·rw[BL t,t,l,BL rfl]
    ·rw[C t,C λx=>t<|sy (c:=k1)<|by rw[x,l]]
def YU(T:ao n)(l:ao<|ins n c z++[(pt,[z])])(j:c∈ends n)(R:RS n):RS (ins n c z++[(pt,[z])]):=by
 have b:=g8 j;have k:∀e:bi,e.1<n.length->left (ins n c z++[(pt,[z])]) e=left (ins n c z) e:=λe d=>by
  unfold left;rw[sI<|by rwa[jN]]
 have f:=Hz (a:=ins n c z) (x:=(pt,[z]));rw[jN]at f;refine q4v (Wx (z:=z) (pt:=pt) ⟨b.1,Cv b.2⟩) T l j ?_ ?_ (λe d=>?_) (λs i=>?_) (λs i m r=>?_) R
 ·rw[k _ b.1];exact sG b.1 b.2
 ·unfold left;show(n.length,(0+1)%(row _ n.length).length)=_;rw[f];exact BX (Prod.mk _)<|Ec 1
 ·rw[k _<|by rw[qN];exact(g8 d).1];exact kZ b.1 b.2 (g8 d).2
 ·have:=i n.length;rw[f]at this;have:(s z ^^ false)=false:=this
  simpa using this
 ·by_cases h:r<n.length
  ·have:=i r;rwa[sI (by rwa[jN]),Nq b.1 m r]at this
  ·have:row n r=[]:=by
    unfold row;rw[Bh<|by lia];rfl
   rw[this];rfl
def Sk{nm:Str}:RS [(nm,[])]:=λs _=>⟨λ_=>false,λe b=>rfl,λe y a=>by
 have:=dP a;cases this⟩
def Lx{nm pt z:Str}(c:ao [(nm,[z]),(pt,[z])]):RS [(nm,[z]),(pt,[z])]:=λs a=>⟨λ_=>false,λe d=>rfl,λe y b=>by
 have:y=z:=by simpa[ag]using (dP b)
 rw[this];have:=a 0;have:(s z ^^ false)=false:=this
 simpa using this⟩
def m4{nm z:Str}(b:ao [(nm,[z,z])]):RS [(nm,[z,z])]:=λs _=>by
 have c:aH [(nm,[z,z])] (0,0)=some z:=rfl;have d:aH [(nm,[z,z])] (0,1)=some z:=rfl;have f:=ka b c d (by decide);have h:=ka b d c (by decide);have i:ends [(nm,[z,z])]=[(0,0),(0,1)]:=rfl;refine⟨λe=>decide (e=(0,0)) && s z,λe a=>?_,λe y j=>?_⟩
 ·rw[i]at a;simp only[Ak,Cs,HN]at a
  obtain rfl|rfl:=a
  ·show(decide (left [(nm,[z,z])] (other [(nm,[z,z])] (0,0))=(0,0)) && s z)=_;rw[f];simp[left,row]
  ·show(decide (left [(nm,[z,z])] (other [(nm,[z,z])] (0,1))=(0,0)) && s z)=_;rw[h];simp[left,row]
 ·have k:y=z:=by simpa[ag]using (dP j)
  have a:=af.mpr ⟨y,j⟩;rw[i]at a;simp only[Ak,Cs,HN]at a;rw[k]
  obtain rfl|rfl:=a
  ·rw[f];simp
  ·rw[h];simp
def Fl(n:bc):Prop:=Pl n/\RS n
def x0j{nm:Str}:Fl [(nm,[])]:=⟨.inl ⟨rfl,rfl⟩,Sk⟩
def Zl(T:ao n)(F:gh n)(b:z∉ag n)(a:gX n c)(d:(ag<|ins n c z++[(pt,[z])]).Perm<|z :: z :: ag n)(P:Fl n):Fl (ins n c z++[(pt,[z])]):=by
 refine⟨Wm T F b a d P.1,?_⟩;have e:=HI d T b
 obtain⟨nm,rfl⟩|f:=HK F
 ·have:=w5 a;subst this;exact Lx e
 ·exact YU T e (F.df f a) P.2
def q9k(T:ao n)(F:gh n)(c:z∉ag n)(a:gX n k1)(b:gX n k2)(d:(ag<|ins (ins n k1 z) k2 z).Perm<|z :: z :: ag n)(ord:k2=k1\/sh k1 k2=k2)(same:(∃k,it (step n) k k1=k2)\/∃k,it (step n) k k2=k1)(P:Fl n):Fl (ins (ins n k1 z) k2 z):=by
 refine⟨uI T F c a b d ord same P.1,?_⟩;have e:=HI d T c
 obtain⟨nm,rfl⟩|f:=HK F
 ·have:=w5 a;subst this;have:=w5 b;subst this;exact m4 e
 ·exact x0i T e (F.df f a) (F.df f b) ord same P.1 P.2
def q4e{g:bi->bi}(T:ao n)(A:ao m)(B:(ag m).length=(ag n).length)(p:∀e∈ends n,aH m (g e)=aH n e)(inj:∀a∈ends n,∀b∈ends n,g a=g b->a=b)
  (lf:∀e∈ends n,left m (g e)=g (left n e)) (D:∀s,f9 m s->f9 n s) (R:RS n):RS m:=by
 have v:∀x∈ends m,∃e∈ends n,x=g e:=by
  have nd:((ends n).map g).Nodup:=by
   have:∀(l:List bi),(∀x∈l,x∈ends n)->l.Nodup->(l.map g).Nodup:=by
    intro l
    induction l with
    |nil=>intro _ _;exact Co
    |cons x l E=>
     intro j h;have h:=Bb.mp h;rw[Be];refine Bb.mpr ⟨λf=>?_,E (λy d=>j y<|Af _ d) h.2⟩;obtain⟨y,d,e⟩:=Ag.mp f;have:=inj y (j y<|Af _ d) x (j x Ac) e;exact h.1<|this ▸ d
   exact this _ (λx f=>f)<|nV n
  have pm:((ends n).map g).Perm (ends m):=by
   refine uV nd (λa G=>?_) (by rw[Aa,kQ,kQ,B];exact Aq _);obtain⟨x,f,rfl⟩:=Ag.mp G;obtain⟨y,d⟩:=af.mp f;exact af.mpr ⟨y,by rwa[p x f]⟩
  intro x f;obtain⟨e,c,q⟩:=Ag.mp<|pm.mem_iff.mpr f;exact⟨e,c,q.symm⟩
 intro s j;obtain⟨r,k⟩:=R s<|D s j
 let o:bi->Bool:=λx=>match (ends n).find? (λe=>decide (g e=x))with|some e=>r e|none=>false
 have i:∀e∈ends n,o (g e)=r e:=λe c=>by
  show(match (ends n).find? (λt=>decide (g t=g e))with|some e=>r e|none=>false)=r e;cases u:(ends n).find? (λt=>decide (g t=g e)) with
  |none=>exact absurd (BW (rfl:g e=g e))<|by simpa using Gp.mp u e c
  |some t=>
   have H:=Hi u;rw[inj _ (List.mem_of_find?_eq_some u) _ c (BZ H)]
 have w:∀e∈ends n,other m (g e)=g (other n e):=λe c=>by
  obtain⟨y,d⟩:=af.mp c;obtain⟨i,_,I⟩:=cS T d;have z:=af.mpr ⟨y,i⟩;exact ka A (by rwa[p e c]) (by rwa[p _ z]) λh=>I (inj _ c _ z h).symm
 refine⟨o,λx f=>?_,λx y d=>?_⟩
 ·obtain⟨e,c,rfl⟩:=v x f;have:step m (g e)=g (step n e):=by
   unfold step;rw[w e c];exact lf _<|cE T c
  rw[this,i _<|uE T c,i e c,k.go e c]
 ·obtain⟨e,c,rfl⟩:=v x<|af.mpr ⟨y,d⟩;rw[p e c]at d;rw[w e c,i e c,i _<|cE T c];exact k.c6 e y d
def pf{j i:Nat}(b:j<a.length)(c:i<max 1 (row a j).length)(T:ao a)(d:ao<|a.eraseIdx j++[(x,(row a j).drop i++(row a j).take i)])
  (f:(ag<|a.eraseIdx j++[(x,(row a j).drop i++(row a j).take i)]).length=(ag a).length) (R:RS a):RS (a.eraseIdx j++[(x,(row a j).drop i++(row a j).take i)]):=by
 obtain⟨g,h,k,l⟩:=WB b c;refine q4e T d f h k l (λs m r=>?_) R
 by_cases n:r<a.length
 ·have:=m (if r<j then r else if r=j then a.length-1 else r-1);rw[Wz b r n]at this
  by_cases e:r=j
  ·rw[BL e]at this;rw[<-this,e];refine WM<|List.Perm.map s ?_;show(row a j).Perm ((row a j).drop i++(row a j).take i);refine List.Perm.trans ?_ Cq;rw[Da]
  ·rwa[C e]at this
 ·have:row a r=[]:=by
   unfold row;rw[Bh<|by lia];rfl
  rw[this];rfl
def Nk(c:j<n.length)(h:i<max 1 (row n j).length)(T0:ao d)(pt:(ag n++ag a).Perm<|ag d)
  (b:(ag (n.eraseIdx j)++ag (a++[(x,(row n j).drop i++(row n j).take i)])).Perm<|ag d) (P:Fl<|n++a):Fl (n.eraseIdx j++(a++[(x,(row n j).drop i++(row n j).take i)])):=by
 refine⟨q6c c h T0 pt b P.1,?_⟩;have e:∀m:bc,(ag m).Perm (ag d)->ao m:=λm p y k=>by rw[p.count_eq];exact T0 y<|p.mem_iff.mp k
 rw[<-WL]at pt b;have f:row (n++a) j=row n j:=sI c;have l:n.eraseIdx j++(a++[(x,(row n j).drop i++(row n j).take i)])=(n++a).eraseIdx j++[(x,(row (n++a) j).drop i++(row (n++a) j).take i)]:=by
  rw[LC c,Ap,f]
 rw[l]at b ⊢;exact pf (by rw[Ah];lia) (by rwa[f]) (e _ pt) (e _ b) (by rw[b.length_eq,pt.length_eq]) P.2
open L2
def aB(n:bc)(r:Nat):Str:=((n[r]?).map (·.1)).getD ⟨#[]⟩
def fG(h:r<n.length):aB n r=n[r].1:=by unfold aB;rw[Ab h];rfl
abbrev Lk:=Str×Str×Str
def pM(n:bc)(x:Lk):Prop:=∃a b,pos n x.1=[a,b]/\x.2.1=aB n a.1/\x.2.2=aB n b.1
structure k6(n:bc)(done:List<|Str×bi)(kM:List<|Key×V)(ls:List Lk):Prop where
 m0:∀z,bq done z=[]->az kM (Sum.inr z)=none
 m1:∀z a rest,bq done z=a :: rest->az kM (Sum.inr z)=some (.str<|aB n a.1)
 mem:∀x:Lk,x∈ls↔∃a b rest,bq done x.1=a :: b :: rest/\x.2.1=aB n a.1/\x.2.2=aB n b.1
 eZ:(ls.map (·.1)).Nodup
 ga:kM.length<=done.length
 qO:ls.length<=done.length
def k6.start(n:bc):k6 n [] [] []:=⟨λ_ _=>rfl,λz a c h=>(by cases h),λx=>⟨λh=>(by cases h),λ⟨a,b,c,h,_⟩=>(by cases h)⟩,Co,Aq _,Aq _⟩
def k6.new(I:k6 n done i k)(f:bq done z=[]):k6 n (done++[(z,e)]) (putK i (Sum.inr z)<|.str<|aB n e.1) k:=by
 refine⟨λy d=>?_,λy a c d=>?_,λx=>?_,I.eZ,?_,?_⟩
 ·rw[dQ]at d;obtain⟨l,j⟩:=Ek.mp d;have m:¬ z=y:=λq=>by rw[BL q]at j;cases j
  rw[cR,C λq=>m (Sum.inr.inj q).symm];exact I.m0 y l
 ·rw[dQ]at d
  by_cases q:z=y
  ·subst q;rw[f,BL rfl]at d;cases d;rw[cR,BL rfl]
  ·rw[C q,Bd]at d;rw[cR,C λp=>q (Sum.inr.inj p).symm];exact I.m1 y a c d
 ·rw[I.mem x]
  by_cases q:z=x.1
  ·constructor
   ·rintro ⟨a,b,c,h,_⟩;rw[<-q,f]at h;cases h
   ·rintro ⟨a,b,c,h,_⟩;rw[dQ,<-q,f,BL rfl]at h;cases h
  ·constructor
   ·rintro ⟨a,b,c,h,r⟩;exact⟨a,b,c,by rwa[dQ,C q,Bd],r⟩
   ·rintro ⟨a,b,c,h,r⟩;rw[dQ,C q,Bd]at h;exact⟨a,b,c,h,r⟩
 ·have:=jm i (Sum.inr z)<|.str<|aB n e.1;have:=I.ga;rw[Ah,Dh];lia
 ·have:=I.qO;rw[Ah,Dh];lia
def k6.old(I:k6 n done p m)(i:bq done z=[a]):k6 n (done++[(z,e)]) p (m++[(z,aB n a.1,aB n e.1)]):=by
 have j:bq (done++[(z,e)]) z=[a,e]:=by rw[dQ,i,BL rfl];rfl
 have k:z∉m.map (·.1):=λh=>by
  obtain⟨x,s,t⟩:=Ag.mp h;obtain⟨b,c,d,o,_⟩:=(I.mem x).mp s;rw[t,i]at o;cases o
 refine⟨λy f=>?_,λy b d f=>?_,λx=>?_,?_,?_,?_⟩
 ·rw[dQ]at f;exact I.m0 y (Ek.mp f).1
 ·by_cases q:z=y
  ·subst q;rw[j]at f;cases f;exact I.m1 z a [] i
  ·rw[dQ,C q,Bd]at f;exact I.m1 y b d f
 ·rw[Al,Ae,I.mem x]
  by_cases q:z=x.1
  ·constructor
   ·rintro (⟨b,c,d,h,_⟩|h)
    ·rw[<-q,i]at h;cases h
    ·subst h;exact⟨a,e,[],j,rfl,rfl⟩
   ·rintro ⟨b,c,d,h,u,l⟩;rw[<-q,j]at h;cases h;obtain⟨v,w,A⟩:=x;have q:=q;have l:=l;subst q u l;exact .inr rfl
  ·constructor
   ·rintro (⟨b,c,d,h,r⟩|h)
    ·exact⟨b,c,d,by rwa[dQ,C q,Bd],r⟩
    ·subst h;exact absurd rfl q
   ·rintro ⟨b,c,d,h,r⟩;rw[dQ,C q,Bd]at h;exact .inl ⟨b,c,d,h,r⟩
 ·rw[Ai];exact pC I.eZ k
 ·have:=I.ga;rw[Ah,Dh];lia
 ·have:=I.qO;rw[Ah,Ah];show _+1<=_+1;lia
def k6.whole(T:ao n)(I:k6 n (bg n) j f)(x:Lk):x∈f↔pM n x:=by
 rw[I.mem x]
 constructor
 ·rintro ⟨a,b,c,h,r⟩;have d:pos n x.1=a :: b :: c:=h;have i:=aJ.mp (d▸(Ac ..));have e:=qG n x.1;rw[d,T x.1<|dP i]at e;have:c=[]:=by
   have:c.length+1+1=2:=e;exact Ci.mp<|by lia
  rw[this]at d;exact⟨a,b,d,r⟩
 ·rintro ⟨a,b,h,r⟩;exact⟨a,b,[],h,r⟩
inductive Way(ls:List<|Str×Str×Bool)(f:Str):Str->Bool->Prop where
 |here:Way ls f f false
 |there {x y:Str} {b o:Bool}:Way ls f x b->(x,y,o)∈ls->Way ls f y (b != o)
 |back {x y:Str} {b o:Bool}:Way ls f x b->(y,x,o)∈ls->Way ls f y (b != o)
def gg(n:bc)(ss:Ñ):Bool:=n.all λr=>(r.2.filter λz=>ss.contains z).length%2 == 0
def kc(T:ao n)(h:aH n e=some z):aH n x=some z↔x=e\/x=other n e:=by
 obtain⟨l,p,j⟩:=cS T h;refine⟨λk=>?_,λk=>?_⟩
 ·obtain⟨a,b,o,q,c⟩:=sf T h;have f:=aJ.mpr k;have i:=aJ.mpr l;rw[o]at f i;simp only[Ak,Cs,HN]at f i
  obtain c|c:=c
  ·obtain m|m:=f
   ·exact .inl<|m.trans c.symm
   ·obtain d|d:=i
    ·cases j (d.trans c.symm)
    ·exact .inr<|m.trans d.symm
  ·obtain m|m:=f
   ·obtain d|d:=i
    ·exact .inr<|m.trans d.symm
    ·cases j (d.trans c.symm)
   ·exact .inl<|m.trans c.symm
 ·grind
abbrev Bl:=Str×Str×Bool
def has(kvs:List<|Key×V)(x:Str):Prop:=∃v,az kvs (Sum.inr x)=some v
def uX(a:List Bl)(x y:Str)(o:Bool):Prop:=(x,y,o)∈a\/(y,x,o)∈a
def y9(a:List Bl):Ñ:=a.flatMap λl=>[l.1,l.2.1]
theorem WR:∀a:List Bl,(y9 a).length=2*a.length
 |[]=>rfl
 |l :: r=>by
  show(y9 r).length+1+1=2*(r.length+1);rw[WR r];lia
def q4z(h:uX a x y o):y∈y9 a:=by
 obtain h|h:=h
 ·exact Dd.mpr ⟨_,h,by simp⟩
 ·exact Dd.mpr ⟨_,h,by simp⟩
def sK[DecidableEq κ](kvs:List<|κ×V)(k:κ)(v:V):(putK kvs k v).map (·.1)=if k∈kvs.map (·.1)then kvs.map (·.1)else kvs.map (·.1)++[k]:=by
 have e:(kvs.any λa=>decide (a.1=k))=decide (k∈kvs.map (·.1)):=by grind
 rw[putK,e]
 by_cases h:k∈kvs.map (·.1)
 ·rw[BL<|BW h,BL h,Bi];refine At λp _=>?_;show(if p.1=k then(p.1,v)else p).1=p.1
  split<;>rfl
 ·grind
structure eS(ls:List Bl)(f:Str)(hr:Option Str)(kvs:List<|Key×V)(wt:Ñ):Prop where
 eZ:(kvs.map (·.1)).Nodup
 txt:∀k∈kvs.map (·.1),∃x,k=Sum.inr x/\x∈f :: y9 ls
 val:∀x v,az kvs (Sum.inr x)=some v->∃b,v=.bl b/\Way ls f x b
 fst:has kvs f
 HM:∀x∈wt,has kvs x
 qP:∀x,some x=hr->has kvs x
 cls:∀x,has kvs x->x∈wt\/some x=hr\/∀y o,uX ls x y o->has kvs y
def eS.len(I:eS a f d kvs h):kvs.length<=1+2*a.length:=by
 have:=aK I.eZ λk b=>by
  obtain⟨x,e,c⟩:=I.txt k b;rw[e];exact Ag.mpr ⟨x,c,rfl⟩
 rw[Aa,Aa,Au,WR]at this;lia
def zg(h:has kvs x):has (putK kvs k v) x:=by
 obtain⟨u,a⟩:=h;rw[has,cR]
 split
 ·exact⟨_,rfl⟩
 ·exact⟨u,a⟩
def eS.start(d:List Bl)(f:Str):eS d f none (putK [] (Sum.inr f)<|.bl false) [f]:=by
 have e:putK ([]:List<|Key×V) (Sum.inr f) (.bl false)=[(Sum.inr f,.bl false)]:=rfl;have b:∀x,az ([(Sum.inr f,.bl false)]:List<|Key×V) (Sum.inr x)=if x=f then some (.bl false)else none:=λx=>by
  rw[<-e,cR]
  by_cases h:x=f
  ·rw[BL h,BL<|by rw[h]]
  ·rw[C h,C λq=>h<|Sum.inr.inj q];rfl
 rw[e];refine⟨by simp,λk i=>⟨f,by simpa using i,Ac ..⟩,λx v h=>?_,⟨.bl false,by rw[b f,BL rfl]⟩,λx a=>?_,λx a=>by(cases a),λx a=>?_⟩
 ·rw[b x]at h
  by_cases c:x=f
  ·rw[BL c]at h;cases h;subst c;exact⟨false,rfl,.here⟩
  ·rw[C c]at h;cases h
 ·rw[Ae.mp a];exact⟨.bl false,by rw[b f,BL rfl]⟩
 ·obtain⟨v,h⟩:=a;rw[b x]at h
  by_cases c:x=f
  ·exact .inl<|Ae.mpr c
  ·rw[C c]at h;cases h
def eS.pop(I:eS b f none kvs<|d++[h]):eS b f (some h) kvs d:=by
 refine⟨I.eZ,I.txt,I.val,I.fst,λx a=>I.HM x<|As _ a,λx a=>(by cases a;exact I.HM h<|Ar _<|Ae.mpr rfl),λx a=>?_⟩
 obtain c|c|c:=I.cls x a
 ·grind
 ·cases c
 ·exact .inr<|.inr c
def eS.close(I:eS b f (some h) kvs e)(c:∀y o,uX b h y o->has kvs y):eS b f none kvs e:=by
 refine⟨I.eZ,I.txt,I.val,I.fst,I.HM,λx a=>(by cases a),λx a=>?_⟩
 obtain d|d|d:=I.cls x a
 ·exact .inl d
 ·grind
 ·exact .inr<|.inr d
def eS.oz(I:eS n f o kvs s)(j:az kvs (Sum.inr g)=none):Sum.inr g∉kvs.map (·.1):=by
 intro k;obtain⟨p,h,e⟩:=Ag.mp k;have:∃i:Nat,kvs[i]?=some p:=Bp h;obtain⟨i,t⟩:=this;have:∀{l:List (Key×V)},(∃q∈l,q.1=Sum.inr g)->az l (Sum.inr g)≠none:=λ{l}=>by
  induction l with
  |nil=>rintro ⟨q,a,_⟩;cases a
  |cons c r m=>
   rintro ⟨q,a,e⟩ b
   by_cases d:c.1=Sum.inr g
   ·rw[jG d]at b;cases b
   ·rw[ji d]at b
    obtain rfl|a:=Ak.mp a
    ·exact d e
    ·exact m ⟨q,a,e⟩ b
 exact this ⟨p,h,e⟩ j
def eS.hrk(I:eS a f (some h) kvs b):has kvs h:=I.qP h rfl
def eS.add(I:eS m f (some h) kvs p)(q:az kvs (Sum.inr g)=none)(r:az kvs (Sum.inr h)=some (.bl b))(t:uX m h g o):
  eS m f (some h) (putK kvs (Sum.inr g)<|.bl<|b != o) (p++[g]):=by
 have n:=I.oz q;have l:Way m f g (b != o):=by
  obtain⟨w,e,l⟩:=I.val h _ r;cases e
  obtain t|t:=t
  ·exact .there l t
  ·exact .back l t
 refine⟨?_,λk j=>?_,λx v a=>?_,zg I.fst,λx i=>?_,λx i=>zg<|I.qP x i,λx i=>?_⟩
 ·rw[sK,C n];exact pC I.eZ n
 ·rw[sK,C n]at j
  obtain j|j:=Al.mp j
  ·exact I.txt k j
  ·exact⟨g,Ae.mp j,Af _<|q4z t⟩
 ·rw[cR]at a
  by_cases c:Sum.inr x=(Sum.inr g:Key)
  ·rw[BL c]at a;cases a;rw[Sum.inr.inj c];exact⟨_,rfl,l⟩
  ·rw[C c]at a;exact I.val x v a
 ·obtain i|i:=Al.mp i
  ·exact zg<|I.HM x i
  ·rw[Ae.mp i];exact⟨_,by rw[cR,BL rfl]⟩
 ·obtain⟨v,a⟩:=i;rw[cR]at a
  by_cases c:Sum.inr x=(Sum.inr g:Key)
  ·exact .inl<|Ar _<|Ae.mpr<|Sum.inr.inj c
  ·rw[C c]at a
   obtain d|d|d:=I.cls x ⟨v,a⟩
   ·exact .inl<|As _ d
   ·exact .inr<|.inl d
   ·exact .inr<|.inr λy s u=>zg<|d y s u
def eS.whole(I:eS i f none kvs []):∀x b,Way i f x b->∃a,az kvs (Sum.inr x)=some (.bl a):=by
 have k:∀x b,Way i f x b->has kvs x:=λx b w=>by
  induction w with
  |here=>exact I.fst
  |there w c h=>
   obtain d|d|d:=I.cls _ h
   ·cases d
   ·cases d
   ·exact d _ _<|.inl c
  |back w c h=>
   obtain d|d|d:=I.cls _ h
   ·cases d
   ·cases d
   ·exact d _ _<|.inr c
 intro x b w;obtain⟨v,j⟩:=k x b w;obtain⟨a,e,_⟩:=I.val x v j;exact⟨a,by rw[j,e]⟩
open PyProof.Rows (sortedS)
def cC(n:bc):Prop:=∀P:Str->Prop,(∃r∈n,P r.1)->(∀r∈n,∀s∈n,∀t,t∈r.2->t∈s.2->P r.1->P s.1)->∀r∈n,P r.1
def WT(d:∀r∈n,∃s∈m,s.1=r.1/\∀t∈r.2,t∈s.2)(e:∀s∈m,∃r∈n,r.1=s.1)(h:cC n):cC m:=by
 rintro P ⟨s,f,ps⟩ i j k;obtain⟨r,l,o⟩:=e s f;obtain⟨p,q,c⟩:=e j k;rw[<-c];refine h P ⟨r,l,by rwa[o]⟩ (λa u b v t w x I=>?_) p q;obtain⟨y,z,A,B⟩:=d a u;obtain⟨D,E,G,H⟩:=d b v;rw[<-G];exact i y z D E t (B t w) (H t x)<|by rwa[A]
def lb(r:Str×List Str):cC [r]:=by
 rintro P ⟨s,a,ps⟩ _ x b;rw[Ae]at a b;rwa[b,<-a]
def Nu(n:bc)(c:bi)(z:Str)(i:Nat):(ins n c z)[i]?=(n[i]?).map λr=>if c.1=i then(r.1,r.2.take c.2++z :: r.2.drop c.2)else r:=by
 rw[ins,Ge]
 by_cases h:c.1=i
 ·simp[h]
 ·simp[h]
def Nv(h:cC n):cC (ins n c z):=by
 refine WT (λr b=>?_) (λs f=>?_) h
 ·obtain⟨i,a⟩:=Bp b;have e:=Nu n c z i;rw[a]at e;refine⟨_,An e,?_,λt d=>?_⟩
  ·split<;>rfl
  ·split
   ·rw[<-Da c.2 r.2]at d
    obtain q|q:=Al.mp d
    ·exact As _ q
    ·exact Ar _<|Af _ q
   ·exact d
 ·obtain⟨i,a⟩:=Bp f;rw[Nu,Ba]at a;obtain⟨r,b,e⟩:=a;refine⟨r,An b,?_⟩;rw[<-e]
  split<;>rfl
def q7s(a:c.1<n.length):∃r∈ins n c z,z∈r.2:=by
 have e:=Nu n c z c.1;rw[Ab a]at e;refine⟨_,An e,?_⟩;show z∈(if c.1=c.1 then((n[c.1].1,n[c.1].2.take c.2++z :: n[c.1].2.drop c.2):Str×List Str)else n[c.1]).2;rw[BL rfl];exact Ar _<|Ac ..
def tz(h:cC n)(f:∃r∈n,z∈r.2):cC (n++[(pt,[z])]):=by
 obtain⟨r,d,i⟩:=f;rintro P ⟨s,j,ps⟩ e x k;have l:((pt,[z]):Str×List Str)∈n++[(pt,[z])]:=Ar _<|Ae.mpr rfl;have c:∀{y},y∈n->y∈n++[(pt,[z])]:=λm=>As _ m;have all:∀y∈n,P y.1:=by
  refine h P ?_ λa o b p t u v w=>e a (c o) b (c p) t u v w
  obtain q|q:=Al.mp j
  ·exact⟨s,q,ps⟩
  ·rw[Ae]at q;subst q;exact⟨r,d,e _ l r (c d) z (Ae.mpr rfl) i ps⟩
 obtain q|q:=Al.mp k
 ·exact all x q
 ·grind
def cz(zs:Ñ):Prop:=zs.Pairwise λa b=>a.cps.toList<b.cps.toList
theorem Nw:∀{zs},sortedS zs=true->zs.Nodup->cz zs
 |[],_,_=>List.Pairwise.nil
 |z :: r,h,a=>by
  rw[Bb]at a;refine List.Pairwise.cons (λx b=>?_)<|Nw (bG.gU h) a.2;obtain q|q:=Hf.mp (bG.fY r z h x b)
  ·exact q
  ·exact absurd b<|by rw[<-bG.iw q];exact a.1
def jQ(h:cz zs):zs.Nodup:=h.imp λq e=>by rw[e]at q;exact Gv _ q
theorem Nx:∀{a b},cz a->cz b->(∀x,x∈a↔x∈b)->a=b
 |[],[],_,_,_=>rfl
 |[],y :: b,_,_,h=>by have:=(h y).mpr<|Ac ..;cases this
 |x :: a,[],_,_,h=>by have:=(h x).mp<|Ac ..;cases this
 |x :: a,y :: b,c,d,h=>by
  unfold cz at c d;rw[Cz]at c d;have e:x=y:=by grind
  subst e;have nx:∀(l:Ñ),(∀z∈l,x.cps.toList<z.cps.toList)->x∉l:=λl f i=>Gv _<|f x i;have:a=b:=Nx c.2 d.2 λz=>by
   constructor
   ·grind
   ·grind
  rw[this]
def gj(n:bc)(ps:Ñ)(z:Str):Prop:=∃e,aH n e=some z/\aB n e.1∈ps/\aB n (other n e).1∉ps
def sM(h:gj n ps z):z∈ag n:=by
 obtain⟨e,a,_⟩:=h;exact dP a
def pP(T:ao n)(c:aH n e=some z):gj n ps z↔(decide (aB n e.1∈ps) != decide (aB n (other n e).1∈ps))=true:=by
 have o:=cS T c
 constructor
 ·rintro ⟨x,d,b,a⟩
  obtain q|q:=(kc T c).mp d
  ·subst q;simp[b,a]
  ·subst q;rw[o.2.1]at a;simp[b,a]
 ·intro h
  by_cases b:aB n e.1∈ps
  ·by_cases a:aB n (other n e).1∈ps
   ·simp[b,a]at h
   ·exact⟨e,c,b,a⟩
  ·by_cases a:aB n (other n e).1∈ps
   ·exact⟨other n e,o.1,a,by rwa[o.2.1]⟩
   ·simp[b,a]at h
def WU(T:ao n)(h:pM n x):∃e,aH n e=some x.1/\x.2.1=aB n e.1/\x.2.2=aB n (other n e).1:=by
 obtain⟨a,b,c,k,l⟩:=h;have f:=aJ.mp (c▸(Ac ..));have i:aH n b=some x.1:=aJ.mp (by rw[c];simp);have d:=VM n x.1;rw[c]at d;have j:b≠a:=λq=>by rw[q]at d;simp at d
 obtain q|q:=(kc T f).mp i
 ·cases j q
 ·grind
def WV(T:ao n)(h:aH n e=some z):pM n (z,aB n e.1,aB n (other n e).1)\/pM n (z,aB n (other n e).1,aB n e.1):=by
 obtain⟨a,b,c,d,f⟩:=sf T h;have i:=aJ.mp (c▸(Ac ..));have j:aH n b=some z:=aJ.mp<|by rw[c];simp
 obtain q|q:=f
 ·subst q;refine .inl ⟨e,b,c,rfl,?_⟩
  obtain q|q:=(kc T h).mp j
  ·cases d q.symm
  ·rw[q]
 ·subst q;refine .inr ⟨a,e,c,?_,rfl⟩
  obtain q|q:=(kc T h).mp i
  ·cases d q
  ·rw[q]
def HP(T:ao n)(h:pM n x):gj n ps x.1↔(decide (x.2.1∈ps) != decide (x.2.2∈ps))=true:=by
 obtain⟨e,a,b,c⟩:=WU T h;rw[b,c];exact pP T a
def bw(n:bc):Str:=aB n 0
structure bt(n:bc)(ss sd:Ñ):Prop where
 qR:cz sd
 mem:∀x∈sd,x∈n.map (·.1)
 fst:bw n∉sd
 cut:∀z,z∈ss↔gj n sd z
structure AC(n:bc)(ss:Ñ)(ls:List Bl):Prop where
 to:∀e z,aH n e=some z->uX ls (aB n e.1) (aB n (other n e).1) (decide (z∈ss))
 fro:∀l∈ls,∃e z,aH n e=some z/\l=(aB n e.1,aB n (other n e).1,decide (z∈ss))
def Zg(h:x∈n.map (·.1)):∃i,i<n.length/\x=aB n i:=by
 obtain⟨r,b,e⟩:=Ag.mp h;obtain⟨i,a,q⟩:=Bv.mp b;exact⟨i,a,by rw[fG a,q];exact e.symm⟩
def jR(h:i<n.length):aB n i∈n.map (·.1):=by
 rw[fG h];exact Ag.mpr ⟨_,Bq h,rfl⟩
def gk(n:bc)(ss:Ñ):List Bl:=(ends n).map λe=>(aB n e.1,aB n (other n e).1,decide ((aH n e).getD ⟨#[]⟩∈ss))
def WW:AC n ss (gk n ss):=by
 refine⟨λe z h=> .inl (Ag.mpr ⟨e,af.mpr ⟨z,h⟩,by rw[h];rfl⟩),λl b=>?_⟩;obtain⟨e,c,q⟩:=Ag.mp b;obtain⟨z,a⟩:=af.mp c;exact⟨e,z,a,by rw[<-q,a];rfl⟩
def sN(T:ao n)(h:aH n e=some z):(other n e).1<n.length:=dB (cS T h).1
def q1o(T:ao n)(h:∀x∈n.map (·.1),x∈c↔x∉ps)(z:Str):gj n ps z↔gj n c z:=by
 have k:∀{e:bi},aH n e=some z->(gj n ps z↔gj n c z):=λ{e}a=>by
  rw[pP T a,pP T a];have d:=h _<|jR<|sN T a
  by_cases f:aB n e.1∈ps<;>by_cases i:aB n (other n e).1∈ps<;>simp[(h _<|jR<|dB a),d,f,i]
 constructor
 ·intro b;obtain⟨e,a,_⟩:=b;exact(k a).mp ⟨e,a,by assumption⟩
 ·intro b;obtain⟨e,a,_⟩:=b;exact(k a).mpr ⟨e,a,by assumption⟩
open PyProof.Rows (sortedS)
theorem Ny{k:Key}(a:az kvs k=none):k∉kvs.map (·.1):=by
 induction kvs with
 |nil=>intro h;cases h
 |cons c r d=>
  intro h
  by_cases b:c.1=k
  ·rw[jG b]at a;cases a
  ·rw[ji b]at a
   obtain q|q:=Ak.mp h
   ·exact b q.symm
   ·exact d a q
theorem Nz{k:Key}(a:az kvs k=some v):k∈kvs.map (·.1):=by
 refine CJ λb=>?_
 induction kvs with
 |nil=>cases a
 |cons c r d=>
  rw[Be,Ak]at b;rw[ji λq=>b<|.inl q.symm]at a;exact d a λq=>b<|.inr q
def WX{a b:Nat}(h:a≠b):¬(Sum.inl (a:Int):Key)=Sum.inl (b:Int):=λq=>h<|by have:=Sum.inl.inj q;lia
def w6(a:(n.map (·.1)).Nodup)(b:i<n.length)(c:j<n.length)(h:aB n i=aB n j):i=j:=by
 rw[fG b,fG c]at h;have:=(Cg.mp a);rw[Bs]at this
 obtain q|q|q:=Fq i j
 ·grind
 ·exact q
 ·grind
open PyProof.Rows (sortedS)
theorem WY(a b c:Ñ)(h:∀z,z∈c↔(if z∈a then z∉b else z∈b)):∀zs:Ñ,(zs.filter λz=>c.contains z).length%2=((zs.filter λz=>a.contains z).length+(zs.filter λz=>b.contains z).length)%2
 |[]=>rfl
 |z :: r=>by
  have d:=WY a b c h r;have e:=h z;have f:=λl=>(Bu (as:=l) (a:=z));simp only[Cn]
  by_cases i:z∈a<;>by_cases j:z∈b
  ·grind
  ·grind
  ·grind
  ·grind
def dF:gg n ss=true↔∀r∈n,(r.2.filter λz=>ss.contains z).length%2=0:=by
 rw[gg,Fh];exact⟨λh r a=>by simpa using h r a,λh r a=>by simpa using h r a⟩
def Qi(d:gg n a=true)(e:gg n b=true)(h:∀z,z∈c↔(if z∈a then z∉b else z∈b)):gg n c=true:=by
 rw[dF]at d e ⊢;intro r f;have i:=d r f;have j:=e r f;rw[WY a b c h];lia
theorem NA(k:Nat)(z:Str):∀ts p,(bq (bh k ts p) z).length=ts.count z
 |[],p=>rfl
 |t :: r,p=>by
  have a:=NA k z r<|p+1;have e:bh k (t :: r) p=(t,(k,p)):: bh k r (p+1):=by unfold bh;rfl
  rw[e];unfold bq at a ⊢;rw[Cn,Dj]
  by_cases h:t=z
  ·grind
  ·grind
def ND(a b:List<|Str×bi)(z:Str):bq (a++b) z=bq a z++bq b z:=by
 unfold bq;rw[Cf,Ai]
def zi(h:e∈bq (bh k ts p) z):e.1=k:=by
 unfold bq at h;obtain⟨x,a,rfl⟩:=Ag.mp h;obtain⟨y,e⟩:=x;exact(bV.mp (Ao.mp a).1).1
theorem WZ(ps:Ñ)(f:Nat->Str)(z:Str):∀m k,(∀i r,m[i]?=some r->f (k+i)=r.1)->((bq (eR k m) z).filter λe=>decide (f e.1∈ps)).length=(ag<|m.filter λr=>decide (r.1∈ps)).count z
 |[],k,_=>rfl
 |r :: m,k,h=>by
  have d:=WZ ps f z m (k+1) λi s j=>by
   have:=h (i+1) s (by simpa using j);rw[<-this]
   congr 1
   lia
  have e:eR k (r :: m)=bh k r.2 0++eR (k+1) m:=rfl;have c:f k=r.1:=h 0 r rfl;rw[e,ND,Cf,Ah,d,Cn]
  by_cases a:r.1∈ps
  ·rw[BL<|BW a];have:ag (r :: m.filter λr=>decide (r.1∈ps))=r.2++ag (m.filter λr=>decide (r.1∈ps)):=by unfold ag;rfl
   rw[this,Dw,Fc.mpr (λe b=>by rw[zi b,c];exact BW a),NA]
  ·rw[C λq=>a<|BZ q];have:(bq (bh k r.2 0) z).filter (λe=>decide (f e.1∈ps))=[]:=El.mpr λe b q=>by
    rw[zi b,c]at q;exact a<|BZ q
   rw[this];simp
def W0(T:ao n)(ps:Ñ)(z:Str):gj n ps z↔(ag<|n.filter λr=>decide (r.1∈ps)).count z%2=1:=by
 have e:=WZ ps (aB n) z n 0 λi r h=>by
  rw[Es];rw[aB,h];rfl
 rw[<-e];show gj n ps z↔((pos n z).filter λe=>decide (aB n e.1∈ps)).length%2=1
 by_cases c:z∈ag n
 ·obtain⟨a,d⟩:∃a,a∈pos n z:=by
   cases b:pos n z with
   |nil=>cases (dD.mp c) b
   |cons a r=>exact⟨a,Ac ..⟩
  obtain⟨x,y,b,l,m⟩:=sf T<|aJ.mp d;have f:pM n (z,aB n x.1,aB n y.1):=⟨x,y,b,rfl,rfl⟩;rw[show gj n ps z↔_ from HP T f,b]
  by_cases j:aB n x.1∈ps<;>by_cases k:aB n y.1∈ps<;>simp[j,k]
 ·rw[CJ λh=>c<|dD.mpr h];exact⟨λh=>absurd (sM h) c,λh=>by cases h⟩
theorem NI{a:Ñ}(c:a.Nodup):∀l:Ñ,(l.filter λz=>a.contains z).length=(a.map λz=>l.count z).sum
 |[]=>by
  have:∀a:Ñ,(a.map λz=>([]:Ñ).count z).sum=0:=λa=>by
   induction a with
   |nil=>rfl
   |cons x r b=>rw[Be,Ff,b];rfl
  rw[this];rfl
 |y :: l=>by
  have b:=NI c l;have key:∀a:Ñ,(a.map λz=>(y :: l).count z).sum=(a.map λz=>l.count z).sum+a.count y:=λa=>by
   induction a with
   |nil=>rfl
   |cons x r b=>
    rw[Be,Ff,b,Be,Ff,Dj,Dj]
    by_cases h:y=x
    ·grind
    ·grind
  rw[key,Cn,<-b,c.count]
  by_cases h:y∈a
  ·grind
  ·grind
theorem W1{a:Ñ}:∀m:bc,(∀r∈m,(r.2.filter λz=>a.contains z).length%2=0)->((ag m).filter λz=>a.contains z).length%2=0
 |[],_=>rfl
 |r :: m,h=>by
  have c:=W1 m λs b=>h s<|Af _ b;have d:=h r<|Ac ..;have:ag (r :: m)=r.2++ag m:=by unfold ag;rfl
  rw[this,Cf,Ah];lia
theorem W2(b:Ñ)(g:Str->Nat)(h:∀z,z∈b↔g z%2=1):∀a:Ñ,(a.filter λz=>b.contains z).length%2=(a.map g).sum%2
 |[]=>rfl
 |z :: r=>by
  have c:=W2 b g h r;rw[Cn,Be,Ff]
  by_cases d:z∈b
  ·grind
  ·grind
def iY{n:bc}(T:ao n){a b ps:Ñ}(c:gg n a=true)(d:a.Nodup)(e:∀z,z∈b↔gj n ps z):(a.filter λz=>b.contains z).length%2=0:=by
 rw[W2 b (λz=>(ag<|n.filter λr=>decide (r.1∈ps)).count z) (λz=>(e z).trans<|W0 T ps z) a,<-NI d];exact W1 _ λr f=>dF.mp c r (Ao.mp f).1
def L5{a b:Ñ}(c:a.Nodup)(d:b.Nodup):(a.filter λz=>b.contains z).length=(b.filter λz=>a.contains z).length:=by
 refine((Dk (c.filter _)<|d.filter _).mpr λz=>?_).length_eq;rw[Ao,Ao,Bu,Bu];exact⟨λh=>⟨h.2,h.1⟩,λh=>⟨h.2,h.1⟩⟩
def NM(T:ao n){ss:Ñ}(b:ss.Nodup)(c:∀z∈ss,z∈ag n):2*ss.length<=(ag n).length:=by
 have h:=NI b<|ag n;have e:∀l:Ñ,(∀z∈l,z∈ag n)->(l.map λz=>(ag n).count z).sum=2*l.length:=λl=>by
  induction l with
  |nil=>intro _;rfl
  |cons x r d=>
   intro a;rw[Be,Ff,d λz f=>a z<|Af _ f,T x<|a x<|Ac ..,Au];lia
 rw[e ss c]at h;rw[<-h];exact Db _ _
structure oA(n:bc)(cs:Ñ):Prop where
 qR:cz cs
 cut:∃ps,∀z,z∈cs↔gj n ps z
def nr(T:ao n)(u:oA n a)(v:oA n b)(w:cz c)(h:∀z,z∈c↔(if z∈a then z∉b else z∈b)):oA n c:=by
 obtain⟨i,p⟩:=u.cut;obtain⟨j,s⟩:=v.cut;have t:∀x,x∈n.map (·.1)->(decide (x∈(n.map (·.1)).filter λx=>decide (x∈i) != decide (x∈j))=(decide (x∈i) != decide (x∈j))):=λx y=>by
  rw[Ct,CN,Ao];exact⟨λq=>q.2,λq=>⟨y,q⟩⟩
 refine⟨w,(n.map (·.1)).filter λx=>decide (x∈i) != decide (x∈j),λz=>?_⟩;rw[h z]
 by_cases o:z∈ag n
 ·obtain⟨e,m⟩:∃e,e∈pos n z:=by
   cases A:pos n z with
   |nil=>cases (dD.mp o) A
   |cons a r=>exact⟨a,Ac ..⟩
  have m:=aJ.mp m;rw[pP T m,t _<|jR<|dB m,t _<|jR<|sN T m];have d:=(p z).trans<|pP T m;have f:=(s z).trans<|pP T m
  by_cases k:z∈a<;>by_cases l:z∈b
  ·have d:=d.mp k;have f:=f.mp l;rw[BL k];refine⟨λq=>absurd l q,λq=>?_⟩
   revert d f q
   cases decide (aB n e.1∈i)<;>cases decide (aB n e.1∈j)<;>cases decide (aB n (other n e).1∈i)<;>cases decide (aB n (other n e).1∈j)<;>simp
  ·have d:=d.mp k;have f:=λq=>l<|f.mpr q;rw[BL k];refine⟨λ_=>?_,λ_=>l⟩
   revert d f
   cases decide (aB n e.1∈i)<;>cases decide (aB n e.1∈j)<;>cases decide (aB n (other n e).1∈i)<;>cases decide (aB n (other n e).1∈j)<;>simp
  ·have d:=λq=>k<|d.mpr q;have f:=f.mp l;rw[C k];refine⟨λ_=>?_,λ_=>l⟩
   revert d f
   cases decide (aB n e.1∈i)<;>cases decide (aB n e.1∈j)<;>cases decide (aB n (other n e).1∈i)<;>cases decide (aB n (other n e).1∈j)<;>simp
  ·have d:=λq=>k<|d.mpr q;have f:=λq=>l<|f.mpr q;rw[C k];refine⟨λq=>absurd q l,λq=>?_⟩
   revert d f q
   cases decide (aB n e.1∈i)<;>cases decide (aB n e.1∈j)<;>cases decide (aB n (other n e).1∈i)<;>cases decide (aB n (other n e).1∈j)<;>simp
 ·have B:=λq=>o<|sM<|(s z).mp q;rw[C (λq=>o<|sM<|(p z).mp q)];exact⟨λq=>absurd q B,λq=>absurd (sM q) o⟩
def UV{x y:Str}(h:x≠y):x.cps.toList<y.cps.toList\/y.cps.toList<x.cps.toList:=by
 by_cases q:x.cps.toList<y.cps.toList
 ·exact .inl q
 ·obtain q|q:=Hf.mp (List.not_lt.mp q)
  ·exact .inr q
  ·exact absurd (bG.iw q).symm h
theorem W3(x:Str):∀c:Ñ,cz c->∃b,cz b/\∀y,y∈b↔y=x\/y∈c
 |[],_=>⟨[x],Gs _ _,λy=>by simp⟩
 |z :: r,h=>by
  have h:=Cz.mp h
  by_cases e:x=z
  ·grind
  ·obtain q|q:=UV e
   ·refine⟨x :: z :: r,Cz.mpr ⟨λy a=>?_,Cz.mpr h⟩,λy=>Ak⟩
    obtain rfl|a:=Ak.mp a
    ·exact q
    ·exact He q<|h.1 y a
   ·obtain⟨b,f,d⟩:=W3 x r h.2;refine⟨z :: b,Cz.mpr ⟨λy a=>?_,f⟩,λy=>?_⟩
    ·obtain rfl|a:=(d y).mp a
     ·exact q
     ·exact h.1 y a
    ·rw[Ak,d y,Ak];exact⟨λk=>by obtain k|k|k:=k<;>simp[k],λk=>by obtain k|k|k:=k<;>simp[k]⟩
theorem pQ:∀l:Ñ,∃a,cz a/\∀x,x∈a↔x∈l
 |[]=>⟨[],List.Pairwise.nil,λ_=>VG⟩
 |x :: r=>by
  obtain⟨a,c,d⟩:=pQ r;obtain⟨e,f,b⟩:=W3 x a c;exact⟨e,f,λy=>by rw[b y,d y,Ak]⟩
def NU(T:ao n)(t:0<n.length)(h:oA n l):∃b,bt n l b:=by
 obtain⟨ps,i⟩:=h.cut
 by_cases j:bw n∈ps
 ·obtain⟨b,f,a⟩:=pQ ((n.map (·.1)).filter λx=>!decide (x∈ps));have a:∀x,x∈b↔x∈n.map (·.1)/\x∉ps:=λx=>by
   rw[a x,Ao,KY,HJ]
  refine⟨b,f,λx d=>((a x).mp d).1,λq=>((a _).mp q).2 j,λz=>(i z).trans<|q1o T (λx d=>?_) z⟩;rw[a x];exact⟨λq=>q.2,λq=>⟨d,q⟩⟩
 ·obtain⟨b,f,a⟩:=pQ ((n.map (·.1)).filter λx=>decide (x∈ps));have a:∀x,x∈b↔x∈n.map (·.1)/\x∈ps:=λx=>by
   rw[a x,Ao,CN]
  refine⟨b,f,λx d=>((a x).mp d).1,λq=>j ((a _).mp q).2,λz=>(i z).trans ?_⟩;have k:∀{e:bi},aH n e=some z->(gj n ps z↔gj n b z):=λ{e}c=>by
   rw[pP T c,pP T c];have m:=a<|aB n (other n e).1;have o:=jR<|dB c;have p:=jR<|sN T c;have r:decide (aB n e.1∈b)=decide (aB n e.1∈ps):=by rw[Ct,CN,CN,a<|aB n e.1];exact⟨λq=>q.2,λq=>⟨o,q⟩⟩
   have s:decide (aB n (other n e).1∈b)=decide (aB n (other n e).1∈ps):=by rw[Ct,CN,CN,m];exact⟨λq=>q.2,λq=>⟨p,q⟩⟩
   rw[r,s]
  constructor
  ·intro q;obtain⟨e,c,_⟩:=id q;exact(k c).mp q
  ·intro q;obtain⟨e,c,_⟩:=id q;exact(k c).mpr q
def HF(n:bc):Prop:=cC n/\Fl n
def ze{nm:Str}:HF [(nm,[])]:=⟨lb _,x0j⟩
def ni(T:ao n)(F:gh n)(b:z∉ag n)(a:gX n c)(d:(ag<|ins n c z++[(pt,[z])]).Perm<|z :: z :: ag n)(P:HF n):HF (ins n c z++[(pt,[z])]):=
 ⟨tz (Nv P.1)<|q7s a.1,Zl T F b a d P.2⟩
def iT(T:ao n)(F:gh n)(a:z∉ag n)(b:gX n k1)(c:gX n k2)(d:(ag<|ins (ins n k1 z) k2 z).Perm<|z :: z :: ag n)(ord:k2=k1\/sh k1 k2=k2)(same:(∃k,it (step n) k k1=k2)\/∃k,it (step n) k k2=k1)(P:HF n):HF (ins (ins n k1 z) k2 z):=
 ⟨Nv<|Nv P.1,q9k T F a b c d ord same P.2⟩
def So(b:j<n.length)(e:i<max 1 (row n j).length)(T0:ao d)(pt:(ag n++ag c).Perm<|ag d)
  (f:(ag (n.eraseIdx j)++ag (c++[(n[j].1,(row n j).drop i++(row n j).take i)])).Perm<|ag d) (P:HF<|n++c):HF (n.eraseIdx j++(c++[(n[j].1,(row n j).drop i++(row n j).take i)])):=by
 refine⟨WT (λr k=>?_) (λx a=>?_) P.1,Nk b e T0 pt f P.2⟩
 ·obtain a|a:=Al.mp k
  ·obtain q|q:=(bG.bZ n j b).symm.mem_iff.mp a |> Ak.mp
   ·refine⟨(n[j].1,(row n j).drop i++(row n j).take i),Ar _<|Ar _<|Ae.mpr rfl,by rw[q],λt l=>?_⟩;refine(ME (row n j) i).mem_iff.mpr ?_;rwa[pI b,<-q]
   ·exact⟨r,As _ q,rfl,λt h=>h⟩
  ·exact⟨r,Ar _<|As _ a,rfl,λt h=>h⟩
 ·obtain a|a:=Al.mp a
  ·exact⟨x,As _<|Fs a,rfl⟩
  ·obtain a|a:=Al.mp a
   ·exact⟨x,Ar _ a,rfl⟩
   ·rw[Ae]at a;exact⟨n[j],As _<|Bq b,by rw[a]⟩
theorem w8(s:Str->Bool):∀l:Ñ,au (l.map s)=decide ((l.filter s).length%2=1)
 |[]=>rfl
 |x :: l=>by
  show(s x ^^ au (l.map s))=_;rw[w8 s l,Cn];cases h:s x
  ·rw[C (by decide),Gf]
  ·grind
def W4(h:f9 n s)(b:∀z∈ag n,ss.contains z=s z):gg n ss=true:=dF.mpr λr a=>by
 obtain⟨i,c,rfl⟩:=Bv.mp a;have:=h i;rw[w8,pI c]at this;rw[Gw λz d=>b z<|Dd.mpr ⟨n[i],a,d⟩];have:=JC this;lia
theorem kd:∀l:List α,au (l.map λ_=>false)=false
 |[]=>rfl
 |_ :: l=>by show(false ^^ au _)=false;rw[kd l];rfl
theorem NV(x:Nat)(e:bi):∀m,au ((range m).map λp=>decide ((x,p)=e))=decide (x=e.1/\e.2<m)
 |0=>by simp[au]
 |m+1=>by
  rw[Cu,Ai,oh,NV x e m];show(decide (x=e.1/\e.2<m) ^^ (decide ((x,m)=e) ^^ false))=_;rw[Fv];obtain⟨a,b⟩:=e
  by_cases h:x=a
  ·grind
  ·grind
def HQ(T:ao n)(h:aH n e=some t)(x:Nat):au ((row n x).map λy=>decide (y=t))=(decide (x=e.1) ^^ decide (x=(other n e).1)):=by
 have o:=cS T h;rw[WN n x (λy=>decide (y=t)) (λa=>decide (a=e) ^^ decide (a=other n e)) λp z b=>?_]
 ·rw[iF (λp=>decide ((x,p)=e)) λp=>decide ((x,p)=other n e),NV,NV];have f:=iy h;have i:=iy o.1
  congr 1
  ·exact decide_eq_decide.mpr ⟨λq=>q.1,λq=>⟨q,by rwa[q]⟩⟩
  ·exact decide_eq_decide.mpr ⟨λq=>q.1,λq=>⟨q,by rwa[q]⟩⟩
 ·have b:aH n (x,p)=some z:=b
  by_cases q:z=t
  ·subst q
   obtain k|k:=(kc T h).mp b
   ·rw[k,BW rfl,BW rfl,BR<|CG o.2.2];rfl
   ·rw[k,BW rfl,BW rfl,BR o.2.2];rfl
  ·have c:((x,p):bi)≠e:=λk=>by rw[k,h]at b;exact q (Option.some.inj b).symm
   have d:((x,p):bi)≠other n e:=λk=>by rw[k,o.1]at b;exact q (Option.some.inj b).symm
   rw[BR q,BR c,BR d];rfl
end Nt
namespace G8
open PySem L2 Nt bv
inductive oB(vs:List V)(H:Hp)(Q:VK)(_:XK):Prop
 |mk (R:Addr)(as:Ï)(n:bc)(b:Int)(z pt:Str)(_:vs=[.ref R,.int b,.str z,.str pt])(_:aq H R as n)(_:ao n)(_:gh n)(_:z∉ag n)(_:n.length<=100)(_:(ag n).length<=100)(_:∀i uY n' H',aq H' R uY n'->uH H H' (R :: as.map (·.2))->(∀a∈uY,a∈as\/H a.2=none)->(ag n').Perm (z :: z :: ag n)->(n'.map (·.1)=n.map (·.1)\/n'.map (·.1)=n.map (·.1)++[pt])->gh n'->(HF n->HF n')->Q (.int i) H')
abbrev NP:Ñ:=["_law_rows","_law_big_here","_law_tie","_law_point","_law_corners","_law_r","_law_place","_law_one","_law_kind","_law_face_here","_law_other_here","_law_spot"]
def sO:ak NP ["_law_rows","_law_big_here","_law_tie","_law_point"] (aW uQ):=cg
def W5{ts:List Addr}{j:Nat}(h:ts[j]?=some t):gS (ts.map V.ref) (j:Int)=some (.ref t):=wm<|by rw[Aj,h];rfl
theorem RI(F:bA K "_law_put" "_law_put" uQ f fd)(T:Txt mg)
  (GS:aT P w K mg base 3 "_law_seats" ["_law_rows"] fz)
  (GF:aT P w K mg base 3 "_law_face" ["_law_rows","_law_seats_here","_law_end"] j9):
  aG P w K mg base bF 4 f fd ["_law_rows","_law_big_here","_law_tie","_law_point"] oB:=by
 refine F.gc sO λb0 H vs Q E hr h=>?_;obtain⟨R,as,n,b,z,pt,rfl,hR,hT,hF,hz,hn,ã,q⟩:=h;have nd:=sO.nd;have bI:=hR.len;refine aX 4 nd<|eQ<|aA ⟨Z0,λlc W6=>?_⟩;have g0:=aM W6<|.lst [];refine nF T.range (cL eX T.len DP<|ai<|U 0<|aA ⟨R,_,rfl,.inl<|av.of<|g0 _ _ hR.lst,_,rfl,by omega,by rw[Aa];omega,?_⟩);rw[Aa,bI,Bt];refine nG (λr σ H3=>E4 λts s u1 u2=>A7 (aj H H3) (H3 lc=some (.lst<|ts.map V.ref)) (Pd H3 ts s) (∀c∈s,gX n c) (0<r->s≠[]) (s.length<=101*r)<|σ=[some<|.ref R,some<|.int b,some<|.str z,some<|.str pt,some<|.ref lc,u1,u2,none,none,none,none,none]) ⟨[],[],_,_,g0,ay,.nil,λc hc=>(nomatch hc),λh=>absurd h (by decide),Aq _,rfl⟩ ?_ ?_
 ·rintro r σ H3 hi ⟨ts,s,u1,u2,sH,el,ep,hc,bp,M,rfl⟩;rw[Ed];apply a9 5 nd;obtain⟨a,ea,cZ,et,Ø,er⟩:=(hR.same sH).at hi;have k8:=lS n r;refine nF T.range<|cL (Tv rfl) T.max VH<|ai<|aF<|ai<|cL eX T.len DP<|ai<|bn cw<|bn dZ<|U 0<|U 5 ⟨R,_,_,.ref a.1,rfl,rfl,av.of<|sH _ _ hR.lst,cZ,aF ⟨a.1,_,_,.ref a.2,rfl,rfl,aU.of et,rfl,aA ⟨a.2,_,rfl,.inl<|av.of Ø,?_⟩⟩⟩;rw[Aa];have em:(if((row n r).length:Int)>1 then((row n r).length:Int)else 1)=((max 1 (row n r).length:Nat):Int):=by
   split<;>omega
  refine aA ⟨1,_,rfl,((max 1 (row n r).length:Nat):Int),by rw[em],by omega,by omega,?_⟩;rw[Bt];refine nG (λp σ H4=>E3 λts s u2=>A7 (aj H H4) (H4 lc=some (.lst<|ts.map V.ref)) (Pd H4 ts s) (∀c∈s,gX n c) (0<r+p->s≠[]) (s.length<=101*r+p)<|σ=[some<|.ref R,some<|.int b,some<|.str z,some<|.str pt,some<|.ref lc,some<|.int (r:Int),u2,none,none,none,none,none]) ⟨ts,s,_,sH,el,ep,hc,bp,M,rfl⟩ ?_ ?_
  ·rintro p σ H4 hp ⟨ts,s,u2,sH,el,ep,hc,bp,M,rfl⟩;rw[Ed];refine a9 6 nd<|ik<|mH<|U 4 ⟨lc,rfl,⟨_,el⟩,dk<|ai<|U 5<|ai<|U 6<|aA ⟨Z2,λt ht=>?_⟩⟩;have uG:=bz el ht;have s2:=aM ht<|Tp (r,p);have NW:=ep.length;refine⟨ts.map V.ref,by rwa[ax uG],by rw[Aa];exact bR (by omega),?_⟩;refine a8 ⟨ts++[t],s++[(r,p)],_,dR (sH.trans s2) W6,by rw[ay,Ai];rfl,?_,λc h=>?_,λ_=>by simp,by rw[Ah];simp;omega,rfl⟩
   ·refine Pd.append (ep.keep λx e h=>?_)<|.cons ?_ .nil
    ·rw[ax<|yN h el];exact s2 _ _ h
    ·rw[ax uG.symm,ay]
   ·obtain h|h:=Al.mp h
    ·exact hc c h
    ·rw[Ae]at h;subst h;exact⟨hi,hp⟩
  ·rintro σ H4 ⟨ts,s,u2,sH,el,ep,hc,bp,M,rfl⟩;refine a8 ⟨ts,s,_,_,sH,el,ep,hc,λ_=>bp (by omega),by omega,rfl⟩
 rintro σ H3 ⟨ts,s,u1,u2,sH,el,ep,hc,bp,M,rfl⟩;have yt:=Ds.mpr hF.some;have p9:=bp yt;have fV:0<s.length:=Ds.mpr p9;have NW:=ep.length;have m0:0<=b%(s.length:Int):=Ce _ (by omega);have m1:b%(s.length:Int)<s.length:=Cj _ (by omega);obtain⟨j,hj⟩:∃j:Nat,b%(s.length:Int)=j:=⟨(b%(s.length:Int)).toNat,by omega⟩;have qK:j<s.length:=by omega
 have HR:s[j]?=some s[j]:=Ab qK;obtain⟨G,pR,e1⟩:=ep.at HR;have kE:gX n s[j]:=hc _<|Bq qK;generalize s[j]=B at e1 kE;refine aX 7 nd<|bn dZ<|U 4<|bb di<|U 1<|cL eX T.len DP<|ai<|U 4<|aA ⟨lc,_,rfl,.inl<|av.of el,?_⟩;rw[Aa,NW];refine⟨_,_,rfl,rfl,by omega,lc,_,_,.ref G,rfl,rfl,av.of el,by rw[hj];exact W5 pR,?_⟩;refine aX 1 nd<|bb kG<|U 1<|cL eX T.len DP<|ai<|U 4<|aA ⟨lc,_,rfl,.inl<|av.of el,?_⟩;rw[Aa,NW];refine⟨_,_,rfl,rfl,⟨by omega,by omega⟩,?_⟩;generalize b/(s.length:Int)=b2;refine aX 8 nd (bb di<|U 1<|aF ⟨_,_,rfl,rfl,(by show(0:Int)<3;decide),?_⟩);refine aX 1 nd (bb kG<|U 1<|aF ⟨_,_,rfl,rfl,⟨by decide,by decide⟩,?_⟩);generalize b2/3=b3;have mK:=hR.same sH;obtain⟨a,ea,cZ,Ù,W7,ä⟩:=mK.at kE.1;have W8:∀(m:bc),(ag m).length<=200->∀i,(row m i).length<=200:=λm h i=>Cd (lS m i) h;have å:B.2<=(row n B.1).length:=by
  have:=kE.2;omega
 refine fk<|cA fQ<|U 8<|aF ⟨rfl,_,rfl,?_⟩;refine jh (λ_=>?_) λ_=>a8 ?_
 ·
  have rl:=lS n B.1;refine ik<|FO DG RN RP Vu<|bn cw<|bn dZ<|U 0<|bn cw<|U 7<|aF ⟨G,_,_,.int (B.1:Int),rfl,rfl,aU.of e1,rfl,R,_,_,.ref a.1,rfl,rfl,av.of mK.lst,cZ,aF ⟨a.1,_,_,.ref a.2,rfl,rfl,aU.of Ù,rfl,Or.inl ⟨rfl,_,av.of W7⟩,?_⟩⟩;refine bn cw (U 7<|aF ⟨G,_,_,.int (B.2:Int),rfl,rfl,aU.of e1,rfl,U 2 ⟨a.2,_,_,_,rfl,rfl,W7,by omega,by rwa[Bt,Aa],by rw[Aa];exact bR (by omega),?_⟩⟩);rw[Bt,VY];have R4:=mK.ins (z:=z) ea kE.1;refine ik<|mH<|U 0 ⟨R,rfl,⟨_,R4.lst⟩,dk<|ai<|U 3<|ai<|eQ<|ai<|U 2<|aA ⟨Z1,λl1 jK=>?_⟩⟩;refine aA ⟨Z2,λN fq=>?_⟩;have D:=aM jK<|Ls [z];have I:=aM fq<|.tup [.str pt,.ref l1];have R6:=(R4.same D).same I;refine⟨_,R6.lst,by rw[Aa];exact bR (by omega),?_⟩;have Ú:H3 l1=none:=by
   by_cases q1:l1=a.2
   ·rw[q1,ay]at jK;cases jK
   ·rwa[ax q1]at jK
  have Û:l1∉as.map (·.2):=λhm=>by
   obtain⟨x,A,e⟩:=Ag.mp hm;exact R4.fresh jK A e.symm
  have Ü:l1≠R:=λe=>by rw[e,R4.lst]at jK;cases jK
  have R7:=R6.more (t:=N) (l:=l1) (pt:=pt) (zs:=[z]) ay (I _ _ ay) Û Ü;have tp:(ag<|ins n B z++[(pt,[z])]).Perm (z :: z :: ag n):=by
   rw[ag,Di];show(ag (ins n B z)++[z]).Perm _;exact(Cq).trans<|(pH n B z kE.1).cons z
  refine bQ<|U 1<|q _ _ _ _ R7 (λx o A oD=>?_) (λx A=>?_) tp (.inr ?_) ?_ λhP=>ni hT hF hz kE tp hP
  ·have x1:x≠R:=λe=>oD (by rw[e];exact Ac);have O:x≠a.2:=λe=>oD (Af _<|by rw[e];exact Ag.mpr ⟨a,An ea,rfl⟩);rw[ax x1];refine I _ _<|D _ _ ?_;rw[ax O];exact sH _ _ A
  ·obtain A|A:=Al.mp A
   ·exact .inl A
   ·rw[Ae]at A;subst A;exact .inr<|sH.free Ú
  ·rw[Ai,MA];rfl
  ·refine .inr ⟨by simp,λi hi=>?_⟩;have Ý:=(MB (z:=z) hF kE.1 hF.either).1;rw[Ah]at hi;simp at hi
   obtain h|h:=Dv i (ins n B z).length
   ·have:=Ý i h;unfold row at this ⊢;rwa[Aw h]
   ·rw[row,Ay h,show i-(ins n B z).length=0 by omega];simp
 ·
  refine aX 9 nd<|eQ<|ai<|U 7<|aA ⟨Z1,λlf W9=>?_⟩;have s4:=aM W9<|.lst [.ref G];have æ:=sH.trans s4;have oE:=mK.same s4;obtain⟨a0,NX,uZ,zj,sP,W'⟩:=oE.at yt;have Þ:∀x∈as,lf≠x.2:=λx A=>mK.fresh W9 A;refine Vx (λk H'=>aj (upd H3 lf<|.lst [.ref G]) H'/\(k=true->row n 0≠[])) (λÖ H'=>E3 λ(lf:Addr)(pL:List Addr)(Y:List Nt.bi)=>A8 (aj H3 H') (∀x∈as,lf≠x.2) (H' lf=some (.lst<|pL.map V.ref)) (Pd H' pL Y) (0<Y.length) (Y.length<=1000) (∀c∈Y,gX n c/\∃k,it (step n) k B=c)<|Ö=[some<|.ref R,some<|.int b3,some<|.str z,some<|.str pt,some<|.ref lc,u1,u2,some<|.ref G,some<|.int<|b2%3,some<|.ref lf,none,none]) ?_ ?_ (λH5⟨D,_⟩=>a8 ⟨lf,[G],[B],s4.trans D,Þ,D _ _ ay,.cons (D _ _<|s4 _ _ e1) .nil,Fx,by show 1<=1000;decide,λc jS=>by rw[Ae]at jS;rw[jS];exact⟨kE,0,rfl⟩,rfl⟩) ?_
  ·refine cA (yI hr.j6)<|bn cw<|bn dZ<|U 0<|aF ⟨R,_,_,.ref a0.1,rfl,rfl,av.of oE.lst,uZ,aF ⟨a0.1,_,_,.ref a0.2,rfl,rfl,aU.of zj,rfl,eQ<|aA ⟨Z0,λp hp=>?_⟩⟩⟩;have D:=aM hp<|.lst []
   by_cases h0:row n 0=[]
   ·refine⟨1,_,by decide,Mr (k:=0) (xs:=[]) (ys:=[]) (λ_=>true) (av.of<|by rw[D _ _ sP,h0];rfl) (av.of ay) rfl (λj x y A _=>by simp at A),_,rfl,D,λh=>by cases h⟩
   ·refine⟨1,_,by decide,Mt (k:=1) (av.of<|D _ _ sP) (av.of (xs:=[]) ay) (by rw[Aa];intro h;exact h0<|Ci.mp h),_,rfl,D,λ_=>h0⟩
  ·rintro H4 ⟨NY,h0⟩;have oE:=oE.same NY;have HL:=hF.df (h0 rfl) kE;have sQ:=kQ n;refine aX 9 nd (bC GF hr<|ai<|U 0<|ai<|bC GS hr<|ai<|U 0<|aA ⟨R,as,n,rfl,oE,by lia,by lia,λd ks H5 D n5 S5=>?_⟩);refine ai (U 7<|aA ⟨R,d,G,as,n,ks,B,rfl,oE.same D,S5,hT,D _ _<|NY _ _<|s4 _ _ e1,HL,by lia,λl6 ß à H6 I n6 e6 p6 f6=>?_⟩);exact a8 ⟨l6,ß,à,s4.trans<|NY.trans<|D.trans I,λx A=>(oE.same D).fresh n6 A,e6,p6,f6.pos,by have:=f6.len;lia,λc jS=>⟨k9m<|f6.ends hT HL c jS,Nl f6 jS⟩,rfl⟩
  ·rintro Ö H5 ⟨lf,pL,Y,D,á,N0,L4,ç,è,N2,rfl⟩;have zp:=L4.length;have n0:0<=b3%(Y.length:Int):=Ce _ (by lia);have n1:b3%(Y.length:Int)<Y.length:=Cj _ (by lia);obtain⟨j2,fH⟩:∃j:Nat,b3%(Y.length:Int)=j:=⟨(b3%(Y.length:Int)).toNat,by lia⟩;have zq:j2<Y.length:=by lia
   have N3:Y[j2]?=some Y[j2]:=Ab zq;obtain⟨N,HU,e2⟩:=L4.at N3;obtain⟨va,ke⟩:=N2 _<|Bq zq;generalize Y[j2]=c2 at e2 va ke;have ul:=D _ _ e1;refine aX 10 nd<|bn dZ<|U 9<|bb di<|U 1<|cL eX T.len DP<|ai<|U 9<|aA ⟨lf,_,rfl,.inl<|av.of N0,?_⟩;rw[Aa,zp];refine⟨_,_,rfl,rfl,by lia,lf,_,_,.ref N,rfl,rfl,av.of N0,fH▸(W5 HU),?_⟩;have w9:=mK.same D;refine jH<|k7d T.sorted<|eQ<|ai<|U 7<|ai<|U 10<|aA ⟨Z2,λl2 j3=>?_⟩;have I:=aM j3<|.lst [.ref G,.ref N];refine⟨l2,G,N,(B.1:Int),(B.2:Int),(c2.1:Int),(c2.2:Int),rfl,ay,I _ _ ul,I _ _ e2,λrr Xa=>?_⟩;have rn:∀x∈as,rr≠x.2:=λx A=>(w9.same I).fresh Xa A;obtain⟨x1,O,J,L,jO,f1,f2,q1,q2,N4,zu⟩:∃x1 O J L,(if lexLt ((B.1:Int),(B.2:Int)) ((c2.1:Int),(c2.2:Int))=true then [V.ref N,.ref G]else [.ref G,.ref N])=[.ref x1,.ref O]/\(upd H5 l2<|.lst [.ref G,.ref N]) x1=some (Tp J)/\(upd H5 l2<|.lst [.ref G,.ref N]) O=some (Tp L)/\gX n J/\gX n L/\(L=J\/sh J L=L)/\((∃k,it (step n) k J=L)\/∃k,it (step n) k L=J):=by
    cases Xb:lexLt ((B.1:Int),(B.2:Int)) ((c2.1:Int),(c2.2:Int)) with
    |true=>exact⟨N,G,c2,B,rfl,I _ _ e2,I _ _ ul,va,kE,.inr<|q35 Xb,.inr ke⟩
    |false=>exact⟨G,N,B,c2,rfl,I _ _ ul,I _ _ e2,kE,va,nn Xb,.inl ke⟩
   rw[jO];have s7:=aM Xa<|.lst [.ref x1,.ref O];have f1:=s7 _ _ f1;have f2:=s7 _ _ f2;have I:=I.trans s7;have fr:=ay (H:=upd H5 l2<|.lst [.ref G,.ref N]) (a:=rr) (o:= .lst [.ref x1,.ref O]);generalize upd (upd H5 l2<|.lst [.ref G,.ref N]) rr (.lst [.ref x1,.ref O])=H6 at f1 f2 I fr ⊢;have zC:aj H H6:=sH.trans<|D.trans I;have sR:=w9.same I;have zD:uH H H6 (R :: as.map (·.2)):=λx o A _=>zC _ _ A;refine⟨rr,rfl,⟨_,av.of fr⟩,jI (xs:=[.ref x1,.ref O]) (λi σ H7=>E2 λ(m:bc)(u:Option V)=>A8 (aq H7 R as m) (uH H H7 (R :: as.map (·.2))) (H7 rr=some (.lst [.ref x1,.ref O])) (H7 lf=some (.lst<|pL.map V.ref)) (H7 x1=some (Tp J)) (H7 O=some (Tp L)) ((i=0/\m=n)\/(i=1/\m=ins n J z)\/(i=2/\m=ins (ins n J z) L z))<|σ=[some<|.ref R,some<|.int b3,some<|.str z,some<|.str pt,some<|.ref lc,u1,u2,some<|.ref G,some<|.int<|b2%3,some<|.ref lf,some<|.ref N,u]) ⟨n,_,sR,zD,fr,I _ _ N0,f1,f2,.inl ⟨rfl,rfl⟩,rfl⟩ ?_ ?_ ?_⟩
   ·rintro i σ H7 _ ⟨m,u,_,_,N5,_⟩;exact av.of N5
   ·rintro i v σ H7 hv ⟨m,u,vb,zE,N5,Xc,g1,g2,hm,rfl⟩;have â:=(pH n J z q1.1).length_eq;rw[Au]at â;obtain⟨y,k,rfl,hy,hk,eU,é⟩:∃y k,v=.ref y/\H7 y=some (Tp k)/\gX m k/\((i+1=0/\ins m k z=n)\/(i+1=1/\ins m k z=ins n J z)\/(i+1=2/\ins m k z=ins (ins n J z) L z))/\(ag m).length<=200:=by
     obtain⟨rfl,rfl⟩|⟨rfl,rfl⟩|⟨rfl,rfl⟩:=hm
     ·cases hv;exact⟨x1,J,rfl,g1,q1,.inr<|.inl ⟨rfl,rfl⟩,by omega⟩
     ·cases hv;exact⟨O,L,rfl,g2,F3 q2 q1.1,.inr<|.inr ⟨rfl,rfl⟩,by omega⟩
     ·simp at hv
    apply a9 11 nd;obtain⟨a',Xd,N6,N7,qS,ê⟩:=vb.at hk.1;have rl:=lS m k.1;have xS:k.2<=(row m k.1).length:=by
     have:=hk.2;omega
    refine ik<|FO DG RN RP Vu<|bn cw<|bn dZ<|U 0<|bn cw<|U 11<|aF ⟨y,_,_,.int (k.1:Int),rfl,rfl,aU.of hy,rfl,R,_,_,.ref a'.1,rfl,rfl,av.of vb.lst,N6,aF ⟨a'.1,_,_,.ref a'.2,rfl,rfl,aU.of N7,rfl,Or.inl ⟨rfl,_,av.of qS⟩,?_⟩⟩;refine bn cw (U 11<|aF ⟨y,_,_,.int (k.2:Int),rfl,rfl,aU.of hy,rfl,U 2 ⟨a'.2,_,_,_,rfl,rfl,qS,by omega,by rwa[Bt,Aa],by rw[Aa];exact bR (by omega),?_⟩⟩);rw[Bt,VY];have am:a'∈as:=An Xd;refine a8 ⟨ins m k z,_,vb.ins Xd hk.1,λx o A oD=>?_,by rwa[ax<|rn a' am],by rwa[ax<|á a' am],by rwa[ax<|yN g1 qS],by rwa[ax<|yN g2 qS],eU,rfl⟩;have O:x≠a'.2:=λe=>oD (Af _<|by rw[e];exact Ag.mpr ⟨a',am,rfl⟩);rw[ax O];exact zE x o A oD
   ·rintro σ H7 ⟨m,u,vb,zE,N5,Xc,g1,g2,hm,rfl⟩;have em:m=ins (ins n J z) L z:=by
     obtain⟨h,_⟩|⟨h,_⟩|⟨_,h⟩:=hm
     ·exact absurd h<|by show ¬(2=0);decide
     ·exact absurd h<|by show ¬(2=1);decide
     ·exact h
    refine bQ<|bb kG<|U 1<|cL eX T.len DP<|ai<|U 9<|aA ⟨lf,_,rfl,.inl<|av.of Xc,?_⟩;rw[Aa,zp];refine⟨_,_,rfl,rfl,⟨by lia,by lia⟩,?_⟩;have fi:=MB (z:=z) hF q1.1 hF.either;have F2:gh (ins n J z):= .inr ⟨fi.2,fi.1⟩;have Xe:=MB (z:=z) F2 (F3 (z:=z) q2 q1.1).1 F2.either;subst em;exact q _ as _ H7 vb zE (λx A=> .inl A) ((pH _ L z (F3 (z:=z) q2 q1.1).1).trans<|(pH n J z q1.1).cons z) (.inl<|by rw[MA,MA]) (.inr ⟨Xe.2,Xe.1⟩) λhP=>iT hT hF hz q1 q2 ((pH _ L z (F3 (z:=z) q2 q1.1).1).trans<|(pH n J z q1.1).cons z) N4 zu hP
inductive oF(vs:List V)(H:Hp)(Q:VK)(_:XK):Prop
 |mk (b m sm:Int)(_:vs=[.int b,.int m,.int sm])(_:0<=m)(_:m<=35)(_:∀L as n H',aj H H'->H L=none->aq H' L as n->ao n->(n.map (·.1)).Nodup->gh n->HF n->(ag n).length<=2*m.toNat->2*(b%(m+1)).toNat=(ag n).length->n.length<=m.toNat+1->(∀a∈as,H a.2=none)->Q (.ref L) H')
abbrev NB:Ñ:=["_law_big_here","_law_most","_law_stem","_law_many","_law_ties_here","_law_points","_law_rows","_law_k","_law_told","_law_row","_law_size"]
def sS:ak NB ["_law_big_here","_law_most","_law_stem"] (aW uR):=cg
def C8(h:H d=some (.lst xs)):qg K "list" (.ref d) H:=Or.inl ⟨rfl,xs,av.of h⟩
def jR(h:i<m):gS ((namesOf b m).map V.str) (i:Int)=some (.str<|a7 b i):=yM<|k7n h
theorem iU(F:bA K "_law_net_by" "_law_net_by" uR f fd)(T:Txt mg)
  (GN:aT P w K mg base 4 "_law_names" ["_law_stem","_law_many"] iD)
  (GP:aT P w K mg base 4 "_law_put" ["_law_rows","_law_big_here","_law_tie","_law_point"] oB):
  aG P w K mg base bF 5 f fd ["_law_big_here","_law_most","_law_stem"] oF:=by
 refine F.gc sS λb0 H vs Q E A h=>?_;obtain⟨b,m,v,rfl,m0,á,q⟩:=h;have nd:=sS.nd;have k0:0<=b%(m+1):=Ce _ (by omega);have k1:b%(m+1)<m+1:=Cj _ (by omega);obtain⟨O,Xf⟩:∃k:Nat,b%(m+1)=k:=⟨(b%(m+1)).toNat,by omega⟩;have â:O<=m.toNat:=by omega
 refine aX 3 nd<|bb di<|U 0<|bb gR<|U 1<|aF ⟨_,_,rfl,rfl,?_⟩;refine⟨_,_,rfl,rfl,(by show 0<m+1;omega),?_⟩;refine aX 0 nd<|bb kG<|U 0<|bb gR<|U 1<|aF ⟨_,_,rfl,rfl,?_⟩;refine⟨_,_,rfl,rfl,(by show x9 b (m+1);exact⟨by omega,by omega⟩),?_⟩;rw[Xf];generalize b/(m+1)=b1;refine aX 4 nd (bC GN A<|ai<|U 2<|ai<|U 3<|aA ⟨v,(O:Int),rfl,by omega,by omega,λlt H1 s1 n1 e1=>?_⟩);rw[Bt]at e1;refine aX 5 nd (bC GN A<|ai<|bn dZ<|eQ<|ai<|bb gR<|bb kG<|U 2<|aF ⟨_,_,rfl,rfl,⟨by decide,by decide⟩,aF ⟨_,_,rfl,rfl,ai<|U 2<|aA ⟨Z2,λp N=>?_⟩⟩⟩);refine qt Vw T.y4 VF (ai<|qp fQ<|bb di<|U 2<|aF ⟨_,_,rfl,rfl,(by show(0:Int)<4;decide),aF ⟨rfl,aA ⟨_,rfl,?_⟩⟩⟩);have s2:=aM N<|.lst [.int<|v/3+1,.int v];obtain⟨I,ex⟩:∃I:Int,gS [V.int<|v/3+1,.int v] (if decide (V.int (v%4)=V.int 1)=true then 1 else 0)=some (.int I):=by
  cases decide (V.int (v%4)=V.int 1) with
  |true=>exact⟨v,rfl⟩
  |false=>exact⟨v/3+1,rfl⟩
 refine⟨p,_,_,.int I,rfl,rfl,av.of ay,ex,?_⟩;refine ai (bb gR<|U 3<|aF ⟨_,_,rfl,rfl,aA ⟨I,(O:Int)+1,rfl,by omega,by omega,λlp Y s3 n3 e3=>?_⟩⟩);have em:((O:Int)+1).toNat=O+1:=by omega
 rw[em]at e3;have xa:=s1.trans<|s2.trans s3;have e1:=s3 _ _<|s2 _ _ e1;refine aX 6 nd<|eQ<|ai<|dk<|ai<|bn dZ<|U 5<|aF ⟨lp,_,_,.str<|a7 I 0,rfl,rfl,av.of e3,jR<|Gu _,ai<|eQ<|aA ⟨Z0,λl1 jK=>?_⟩⟩;refine aA ⟨Z2,λD N8=>aA ⟨Z1,λR HV=>?_⟩⟩;have s4:=aM jK<|Ls [];have s5:=aM N8<|.tup [.str<|a7 I 0,.ref l1];have s6:=aM HV<|.lst [.ref D];have Ø:aq (upd (upd (upd Y l1<|.lst []) D<|.tup [.str<|a7 I 0,.ref l1]) R<|.lst [.ref D]) R [(D,l1)] [(a7 I 0,[])]:=by
  refine⟨rfl,ay,λi a r h1 h2=>?_,by simp⟩;cases i with
  |zero=>
   cases h1;cases h2;exact⟨s6 _ _ ay,s6 _ _<|s5 _ _ ay⟩
  |succ i=>simp at h1
 have fR:=s4.free<|s5.free HV;refine nF T.range (U 3 ⟨(O:Int),rfl,by omega,by omega,?_⟩);rw[Bt];refine nG (λk σ H3=>E4 λas n b u=>A9 (aq H3 R as n) (aj Y H3) (∀a∈as,Y a.2=none) (gh n) (HF n) ((ag n).Perm<|dbl<|namesOf v k) (n.map (·.1)=namesOf I n.length) (n.length<=k+1)<|σ=[some<|.int b,some<|.int m,some<|.int v,some<|.int (O:Int),some<|.ref lt,some<|.ref lp,some<|.ref R,u,none,none,none]) ⟨_,_,b1,_,Ø,s4.trans<|s5.trans s6,λa J=>by rw[Ae]at J;rwa[J],.inl ⟨_,rfl⟩,ze,List.Perm.refl _,rfl,Aq _,rfl⟩ ?_ ?_
 ·rintro k σ H3 hk ⟨as,n,b,u,d,B,mG,hF,HZ,N,N9,Ö,rfl⟩;rw[Ed];apply a9 7 nd;have bI:=d.len;have tl:=N.length_eq;rw[MD,Mz]at tl;have nz:a7 v k∉ag n:=λh=>by
   have h1:=kR.mp<|N.mem_iff.mp h;have h2:=F0 (b:=v) (m:=k+1) (by omega);rw[F1,Bj]at h2;exact h2.2.2 _ h1 _ (Ae.mpr rfl) rfl
  have G:0<n.length:=Ds.mpr hF.some;refine aX 0 nd<|bC GP A<|ai<|U 6<|ai<|U 0<|ai<|bn dZ<|U 4<|U 7 ⟨lt,_,_,.str<|a7 v k,rfl,rfl,av.of<|B _ _ e1,jR hk,?_⟩;refine ai<|bn dZ<|U 5<|cL eX T.len DP<|ai<|U 6<|aA ⟨R,_,rfl,.inl<|av.of d.lst,?_⟩;rw[Aa,bI];refine⟨lp,_,_,.str<|a7 I n.length,rfl,rfl,av.of<|B _ _ e3,jR (by omega),?_⟩;refine aA ⟨R,as,n,b,a7 v k,a7 I n.length,rfl,d,VZ (F0<|by omega) N,hF,nz,by omega,by omega,λi uY n' H' Ia kp Oa lW zF Ù Ob=>?_⟩;have Ú:aj Y H':=λx o c=>by
   refine kp x o (B _ _ c) λhm=>?_
   obtain h|h:=Ak.mp hm
   ·rw[h,fR]at c;cases c
   ·obtain⟨y,hy,e⟩:=Ag.mp h;rw[<-e,mG y hy]at c;cases c
  refine a8 ⟨uY,n',i,_,Ia,Ú,λy hy=>?_,Ù,Ob HZ,?_,?_,?_,rfl⟩
  ·obtain h|h:=Oa y hy
   ·exact mG y h
   ·exact B.free h
  ·apply lW.trans;rw[F1,iH];refine List.Perm.trans ?_ Cq;exact((N.cons _).cons _)
  ·obtain h|h:=zF
   ·have M:=BX List.length h;rw[Aa,Aa]at M;rwa[h,M]
   ·have M:=BX List.length h;rw[Aa,Ah,Aa]at M;have rW:n'.length=n.length+1:=M;rw[h,rW,F1,N9]
  ·obtain h|h:=zF
   ·have M:=BX List.length h;rw[Aa,Aa]at M;omega
   ·have M:=BX List.length h;rw[Aa,Ah,Aa]at M;have rW:n'.length=n.length+1:=M;omega
 rintro σ H3 ⟨Û,G,b,u,d,B,mG,hF,ã,N,N9,Ö,rfl⟩;have tl:=N.length_eq;rw[MD,Mz]at tl;have Xg:ao G:=VZ (F0<|by omega) N;have Ü:(G.map (·.1)).Nodup:=by rw[N9];exact F0<|by omega
 refine aX 8 nd<|eQ<|aA ⟨Z0,λL hL=>?_⟩;have s7:=aM hL<|.lst [];have Xh:R≠L:=bz d.lst hL;have fL:Y L=none:=B.free hL;have Ib:aq (upd H3 L<|.lst []) L [] []:=⟨rfl,ay,λi a r h1=>by simp at h1,by simp⟩;refine uC (λk σ H4=>E7 λ(as sU:Ï)(n s:bc)(b:Int)(u9 Xi:Option V)=>mF (k=n.length) (aq H4 R as n) (aq H4 L sU s) (aj Y H4) (∀a∈as,a.2≠L) (∀a∈sU,a.2≠R) (∀a∈sU,Y a.2=none) (n.length+s.length=G.length) ((ag n++ag s).Perm<|ag G) ((n.map (·.1)++s.map (·.1)).Perm (G.map (·.1))) (NE G->NE n/\NE s) (HF<|n++s)<|σ=[some<|.int b,some<|.int m,some<|.int v,some<|.int (O:Int),some<|.ref lt,some<|.ref lp,some<|.ref R,u,some<|.ref L,u9,Xi])
  (m0:=G.length) ⟨Û,[],G,[],b,_,_,rfl,d.same s7,Ib,B.trans s7,λa J=>(d.fresh hL J).symm,λa J=>(nomatch J),λa J=>(nomatch J),rfl,by simp[ag],by simp,λh=>⟨h,λr A=>(nomatch A)⟩,by rwa[Bd],rfl⟩ ?_
 rintro k σ H4 ⟨as,sU,n,s,b,u9,Xi,rfl,d,xc,B,aL,aR,Xj,zG,pt,pn,bp,HZ,rfl⟩;have bI:=d.len;have Oc:=xc.len;have ä:(ag n).length<=70:=by
  have:=pt.length_eq;rw[Ah]at this;omega
 refine cA (yI A.j6)<|U 6<|eQ<|aA ⟨Z0,λp lH=>?_⟩;have s8:=aM lH<|.lst []
 by_cases h0:n=[]
 ·subst h0;have ea:as=[]:=Ci.mp (by simpa using bI);subst ea;refine⟨1,_,by decide,Mr (k:=0) (xs:=[]) (ys:=[]) (λ_=>true) (av.of<|s8 _ _ d.lst) (av.of ay) rfl (λj x y c _=>by simp at c),_,rfl,bU<|bQ<|U 8 ?_⟩;have i4:(ag s).Perm (ag G):=pt;have l2:s.length=G.length:=by simpa using zG
  refine q L sU s _ (xa.trans<|B.trans s8) (xa.free fL) (xc.same s8) (λz hz=>?_) (pn.nodup_iff.mpr Ü) ?_ HZ (by rw[i4.length_eq];lia) (by rw[i4.length_eq,Xf];lia) (by lia) λa J=>xa.free<|Xj a J
  ·rw[i4.count_eq];exact Xg z<|i4.mem_iff.mp hz
  ·obtain⟨nm,h⟩|h:=hF.ne
   ·subst h;have t0:ag s=[]:=List.Perm.eq_nil i4
    match s,l2,t0 with
    |[(å,zs)],_,t0=>
     have:zs=[]:=by simpa[ag]using t0
     subst this;exact .inl ⟨_,rfl⟩
   ·refine q7i (bp h).2 λe=>?_;rw[e]at l2;exact hF.some<|Ci.mp l2.symm
 ·have np:0<n.length:=Ds.mpr h0;refine⟨1,_,by decide,Mt (k:=1) (av.of<|s8 _ _ d.lst) (av.of (xs:=[]) ay) (by rw[Aa,bI];exact De np),_,rfl,bK ?_⟩;have d:=d.same s8;have xc:=xc.same s8;have B:=B.trans s8;generalize upd H4 p (.lst [])=H5 at d xc B ⊢;have r0:0<=b%(n.length:Int):=Ce _ (by lia);have r1:b%(n.length:Int)<n.length:=Cj _ (by lia);obtain⟨j,hj⟩:∃k:Nat,b%(n.length:Int)=k:=⟨(b%(n.length:Int)).toNat,by lia⟩;have vd:j<n.length:=by lia
  obtain⟨a,ea,cZ,et,el,er⟩:=d.at vd;refine aX 9 nd<|yJ DG MP NK FV<|U 6 ⟨C8 d.lst,bb di<|U 0<|cL eX T.len DP<|ai<|U 6<|aA ⟨R,_,rfl,.inl<|av.of d.lst,?_⟩⟩;rw[Aa,bI];refine⟨_,_,rfl,rfl,by lia,R,_,_,j,.ref a.1,rfl,rfl,d.lst,by rw[hj];lia,by rw[hj];lia,?_,?_,?_⟩
  ·rw[hj,Aa,bI];unfold seqIndex?;have c1:¬((j:Int)<0):=by lia
   simp only[c1,CW];have c2:(decide (0<=(j:Int)) && decide ((j:Int)<(n.length:Int)))=true:=by
    rw[Bx,CP,CP];lia
   rw[BL c2,Bt]
  ·rw[Aj,ea];rfl
  have R6:=d.erase vd;have Od:∀x∈as,x.2≠R:=λx c e=>by
   obtain⟨zs,e2⟩:=d.lists c;have h3:=d.lst;rw[<-e,e2]at h3;have h4:=HO.lst.inj<|Option.some.inj h3;cases as with
   |nil=>cases c
   |cons b' bs=>
    cases zs with
    |nil=>simp at h4
    |cons y r=>simp at h4
  have L6:=xc.upd (o:= .lst<|(as.map λa=>V.ref a.1).eraseIdx j) d.lst Xh.symm aR;have zH:(upd H5 R<|.lst<|(as.map λa=>V.ref a.1).eraseIdx j) a.1=some (.tup [.str n[j].1,.ref a.2]):=by rwa[ax<|cm et d.lst λe=>nomatch e]
  have Ic:(upd H5 R<|.lst<|(as.map λa=>V.ref a.1).eraseIdx j) a.2=some (Ls<|row n j):=by rwa[ax<|Od a (An ea)]
  have zC:aj Y (upd H5 R<|.lst<|(as.map λa=>V.ref a.1).eraseIdx j):=dR B fR;generalize upd H5 R (.lst<|(as.map λa=>V.ref a.1).eraseIdx j)=H6 at R6 L6 zH Ic zC ⊢;have ve:(n.eraseIdx j).length=n.length-1:=by rw[Dm,BL vd]
  refine aX 0 nd<|bb kG<|U 0<|bb gR<|cL eX T.len DP<|ai<|U 6<|aA ⟨R,_,rfl,.inl<|av.of R6.lst,aF ⟨_,_,rfl,rfl,?_⟩⟩;rw[Aa,R6.len,ve];refine⟨_,_,rfl,rfl,⟨by omega,by omega⟩,?_⟩;have æ:=lS n j;refine aX 10 nd<|cL (Tv rfl) T.max VH<|ai<|aF<|ai<|cL eX T.len DP<|ai<|bn cw<|U 9<|aF ⟨a.1,_,_,.ref a.2,rfl,rfl,aU.of zH,rfl,aA ⟨a.2,_,rfl,.inl<|av.of Ic,?_⟩⟩;rw[Aa];refine aA ⟨1,_,rfl,?_⟩;have Ý:(if((row n j).length:Int)>1 then((row n j).length:Int)else 1)=((max 1 (row n j).length:Nat):Int):=by
   split<;>omega
  rw[Ý];generalize b/((n.length-1:Nat)+1:Int)=b2;have z0:0<=b2%((max 1 (row n j).length:Nat):Int):=Ce _ (by omega);obtain⟨i,hi⟩:∃k:Nat,b2%((max 1 (row n j).length:Nat):Int)=k:=⟨(b2%((max 1 (row n j).length:Nat):Int)).toNat,by omega⟩;refine ik<|mH<|U 8 ⟨L,rfl,⟨_,L6.lst⟩,dk<|ai<|bn cw<|U 9<|aF ⟨a.1,_,_,.str n[j].1,rfl,rfl,aU.of zH,rfl,?_⟩⟩;refine ai (bb EG<|EL EF<|bn cw<|U 9<|aF ⟨a.1,_,_,.ref a.2,rfl,rfl,aU.of zH,rfl,EV<|bb di<|U 0<|U 10 ⟨b2,((max 1 (row n j).length:Nat):Int),rfl,rfl,by omega,_,rfl,ER ⟨a.2,_,rfl,av.of Ic,λp1 Ie=>?_⟩⟩⟩);rw[hi,V1];have D:=aM Ie<|Ls<|(row n j).drop i;refine EL EF (bn cw<|U 9<|aF ⟨a.1,_,_,.ref a.2,rfl,rfl,aU.of<|D _ _ zH,rfl,ER<|EV<|bb di<|U 0<|U 10 ⟨b2,((max 1 (row n j).length:Nat):Int),rfl,rfl,by omega,_,rfl,a.2,_,rfl,av.of<|D _ _ Ic,λp2 lH=>?_⟩⟩);rw[hi,V2];have t2:=aM lH<|Ls<|(row n j).take i;refine⟨p1,p2,_,_,rfl,rfl,t2 _ _ ay,ay,?_,λp3 vf=>?_⟩
  ·rw[Aa,Aa,Cy,Bm];exact wE<|by omega
  rw[<-Ai];have t3:=aM vf<|Ls<|(row n j).drop i++(row n j).take i;refine aA ⟨Z2,λt4 Þ=>?_⟩;have s4:=aM Þ<|.tup [.str n[j].1,.ref p3];have vg:=D.trans<|t2.trans<|t3.trans s4;have L7:=L6.same vg;have R7:=R6.same vg;have ß:p3≠L:=λe=>by rw[e,(D.trans t2) _ _ L6.lst]at vf;cases vf
  have ç:p3≠R:=λe=>by rw[e,(D.trans t2) _ _ R6.lst]at vf;cases vf
  have à:p3∉sU.map (·.2):=λhm=>by
   obtain⟨y,hy,e⟩:=Ag.mp hm;exact(L6.same<|D.trans t2).fresh vf hy e.symm
  have L8:=L7.more (t:=t4) (l:=p3) (pt:=n[j].1) (zs:=(row n j).drop i++(row n j).take i) ay (s4 _ _ ay) à ß;refine⟨_,L7.lst,by rw[Aa,Oc];exact bR (by omega),?_⟩;have Xk:∀x∈as.eraseIdx j,x.2≠L:=λx c=>aL x<|Fs c;have R8:=R7.upd (o:= .lst<|sU.map (λa=>V.ref a.1)++[.ref t4]) L7.lst Xh Xk;refine aX 0 nd (bb kG<|U 0<|U 10 ⟨b2,((max 1 (row n j).length:Nat):Int),rfl,rfl,⟨by omega,by omega⟩,?_⟩);have pe:=V0 n j vd;have ne:=gz n j vd;have Xl:(ag (n.eraseIdx j)++ag (s++[(n[j].1,(row n j).drop i++(row n j).take i)])).Perm (ag G):=by
   refine List.Perm.trans ?_ pt;unfold ag;rw[Di];show(ag (n.eraseIdx j)++(ag s++(((row n j).drop i++(row n j).take i)++[]))).Perm _;rw[Bd,er];have w1:(n[j].2.drop i++n[j].2.take i).Perm n[j].2:=ME _ _;refine((w1.append_left _).append_left _).trans ?_;have w2:(ag n++ag s).Perm ((n[j].2++ag (n.eraseIdx j))++ag s):=pe.append_right _;refine List.Perm.trans ?_ w2.symm;rw[Ap];refine List.Perm.trans ?_<|Cq (l₁:=ag (n.eraseIdx j)++ag s);rw[Ap]
  refine a8 ⟨n.length-1,by omega,as.eraseIdx j,sU++[(t4,p3)],n.eraseIdx j,s++[(n[j].1,(row n j).drop i++(row n j).take i)],_,_,_,ve.symm,R8,L8,dR (zC.trans vg) fL,Xk,λx c=>?_,λx c=>?_,?_,Xl,?_,λh=>⟨λr A=>?_,λr A=>?_⟩,So vd (by have:=Cj b2 (show(0:Int)<((max 1 (row n j).length:Nat):Int) by omega);rw[hi]at this;exact Int.ofNat_lt.mp this) Xg pt Xl HZ,rfl⟩
  ·obtain c|c:=Al.mp c
   ·exact aR x c
   ·rw[Ae]at c;rwa[c]
  ·obtain c|c:=Al.mp c
   ·exact Xj x c
   ·rw[Ae]at c;rw[c];exact zC.free<|D.free<|t2.free vf
  ·rw[Ah,ve];simp;omega
  ·refine List.Perm.trans ?_ pn;rw[Ai];show((n.eraseIdx j).map (·.1)++(s.map (·.1)++[n[j].1])).Perm _;refine List.Perm.trans ?_ (ne.append_right _).symm;rw[<-Ap];exact Cq
  ·exact(bp h).1 r<|Fs A
  ·obtain A|A:=Al.mp A
   ·exact(bp h).2 r A
   ·rw[Ae]at A;rw[A];intro e;have w1:=(ME (row n j) i).length_eq;have e':(row n j).drop i++(row n j).take i=[]:=e;rw[e']at w1;have:=(bp h).1 n[j]<|Bq vd;rw[er]at w1;exact this<|Ci.mp w1.symm
inductive kg(vs:List V)(H:Hp)(Q:VK)(_:XK):Prop
 |mk (R:Addr)(as:Ï)(n:bc)(_:vs=[.ref R])(_:aq H R as n)(_:n.length<=1000)(_:∀L uY H',aj H H'->H L=none->(∀a∈uY,H a.1=none/\H a.2=none)->aq H' L uY n->Q (.ref L) H')
theorem fI(s:aj H H')(h:H' l=none):H l=none:=by
 cases e:H l with
 |none=>rfl
 |some v=>rw[s _ _ e]at h;cases h
abbrev NC:Ñ:=["_law_rows"]
abbrev Xm:Ñ:=["_law_rows","_law_row"]
def oH:ak NC ["_law_rows"] (aW Ht):=cg
def Oe:Xm.Nodup:=by decide +kernel
def q6j(F:bA K "_law_copy" "_law_copy" Ht f fd)(T:Txt mg):aG P w K mg base bF 1 f fd ["_law_rows"] kg:=by
 refine F.gc oH λb0 H vs Q E hr h=>?_;obtain⟨R,as,n,rfl,L,hn,q⟩:=h;have bI:=L.len;refine bQ<|kL (aW Ht) NC Xm 1 (gJ bB)<|U 0 ⟨R,rfl,⟨_,av.of L.lst⟩,λD Y=>?_⟩;refine mI (xs:=as.map λa=>V.ref a.1) (λi p m=>(∃ v,p=[some<|.ref R]++[v])/\∃ k:Ï,k.length=i/\m D=some (.lst<|k.map λa=> .ref a.1) /\
  (∀(j:Nat)a r,k[j]?=some a->n[j]?=some r->m a.1=some (.tup [.str r.1,.ref a.2])/\m a.2=some (Ls r.2))/\(k.map (·.2)).Nodup/\(∀a∈k,a.2≠D/\H a.1=none/\H a.2=none/\∃zs,m a.2=some (Ls zs))/\aj H m)
  ⟨⟨none,rfl⟩,[],rfl,ay,λj a r h=>by simp at h,Co,λa h=>by simp at h,aM Y _⟩ ?_ ?_ ?_
 ·rintro i p m _ ⟨_,k,_,_,_,_,_,s⟩;exact av.of<|s _ _ L.lst
 ·rintro i x p m hx ⟨⟨v,rfl⟩,k,wG,A,Og,zI,G,s⟩;have hi:i<n.length:=by
   have:=(Ad.mp hx).1;rw[Aa]at this;lia
  obtain⟨a,ea,cZ,et,el,er⟩:=(L.same s).at hi;rw[Aj,ea]at hx;cases hx;intro cl C' u y ex;apply a9 1 Oe;intro cl C' u y ex;apply j5;rw[BL rfl];intro cl C' u y ex;refine dk<|ai<|bn cw<|U 1<|aF ⟨a.1,_,_,.str n[i].1,rfl,rfl,aU.of et,rfl,?_⟩;refine ai<|qt T8 T.nY LK<|ai<|bn cw<|U 1<|aF ⟨a.1,_,_,.ref a.2,rfl,rfl,aU.of et,rfl,?_⟩;refine aA ⟨a.2,_,rfl,.inl<|av.of el,λl B=>aA ⟨Z2,λt ht=>?_⟩⟩;have jJ:=fI s B;have Ig:t≠l:=λe=>by rw[e,ay]at ht;cases ht
  have I:m t=none:=by rwa[ax Ig]at ht
  have Ih:=fI s I;have M:l≠D:=λe=>by rw[e]at B;rw[B]at A;cases A
  have vh:t≠D:=λe=>by rw[e]at I;rw[I]at A;cases A
  refine⟨k.map λa=> .ref a.1,?_,?_,⟨_,rfl⟩,k++[(t,l)],by rw[Ah,wG];rfl,?_,?_,?_,?_,?_⟩
  ·rwa[ax<|CG vh,ax<|CG M]
  ·rw[Aa];exact bR<|by lia
  ·rw[ay,Ai];rfl
  ·intro j b r d pN
   by_cases hj:j<k.length
   ·rw[Aw hj]at d;obtain⟨J,N⟩:=Og j b r d pN;have n1:=cm J A λz=>nomatch z;refine⟨?_,?_⟩
    ·rwa[ax n1,ax<|bz J I,ax<|bz J B]
    ·rwa[ax ((G b<|An d).1),ax<|bz N I,ax<|bz N B]
   ·rw[Ay<|by lia]at d;have fH:j-k.length=0:=by
     have:=(Ad.mp d).1;simp at this;lia
    have Ii:j=i:=by lia
    rw[fH]at d;cases d;rw[Ii,Ab hi]at pN;cases pN;refine⟨?_,?_⟩
    ·rw[ax vh,ay]
    ·rw[ax M,ax<|CG Ig,ay,er]
  ·rw[Ai];refine pC zI λhm=>?_;obtain⟨b,d,e⟩:=Ag.mp hm;obtain⟨_,_,_,zs,q⟩:=G b d;rw[e,B]at q;cases q
  ·intro b d
   obtain d|d:=Al.mp d
   ·obtain⟨J,N,q3,zs,q4⟩:=G b d;refine⟨J,N,q3,zs,?_⟩;rwa[ax J,ax<|bz q4 I,ax<|bz q4 B]
   ·rw[Ae.mp d];refine⟨M,Ih,jJ,row n i,?_⟩;rw[ax M,ax<|CG Ig,ay]
  ·intro c o O;rw[ax<|bz O Y,ax<|bz O Ih,ax<|bz O jJ];exact s _ _ O
 ·rintro p m ⟨_,k,wG,A,Og,zI,G,s⟩;rw[Aa]at wG;exact q D k m s Y (λa ha=>⟨(G a ha).2.1,(G a ha).2.2.1⟩) ⟨by lia,A,Og,zI⟩
abbrev Tn(p:Str)(j:Int):HO:= .tup [.str p,.int j]
inductive gm(vs:List V)(H:Hp)(Q:VK)(_:XK):Prop
 |mk (t l:Addr)(p:Str)(zs:Ñ)(_:vs=[.ref t])(_:H t=some (.tup [.str p,.ref l]))(_:H l=some (Ls zs))(_:zs.length<=1000)(_:∀(L:Addr) (ts:List Addr) (H':Hp),aj H H'->H L=none->H' L=some (.lst<|ts.map V.ref)->ts.length=zs.length->(∀(j:Nat) t,ts[j]?=some t->H' t=some (Tn p j))->Q (.ref L) H')
def YF(Pv:Nat->St->Hp->Prop)(l:Pv 0 o H)
  (q : ∀ i a H', i < n → Pv i a H' → Ln X N' scope r (.int<|lo + i) a H' λc s => Lp X N' scope d c s λb j =>
   if b=true then Lj X N' scope f c j λv k=>∃ys,k A=some (.lst ys)/\ys.length<sizeLine/\Pv (i+1) c (upd k A<|.lst<|ys++[v])else Pv (i+1) c j)
  (hd:∀a H',Pv n a H'->after H'):rO X N' scope r d f (wg lo n) A after o H:=by
 refine⟨λi m a H'=>m=n-i/\i<=n/\Pv i a H',⟨_,rfl,By _,l⟩,?_⟩;rintro i m a H' ⟨rfl,u,p⟩
 by_cases h:i<n
 ·refine .inr ⟨h,Pv<|i+1,λa H' t=>⟨n-(i+1),by lia,rfl,h,t⟩,λx w y=>?_⟩;obtain⟨e,y⟩:=y;subst e y;exact q i a _ h p
 ·have e:i=n:=by lia
  subst e;exact .inl ⟨Aq _,hd a H' p⟩
abbrev Xn:Ñ:=["row","point","ties"]
abbrev Xp:Ñ:=["row","point","ties","place"]
def oI:ak Xn ["row"] (aW F'):=cg
def SW:Xp.Nodup:=by decide +kernel
theorem uz(F:bA K "ends_round" "ends_round" F' f M)(T:Txt mg):aG P w K mg base bF 1 f M ["row"] gm:=by
 refine F.gc oI λb0 H vs Q E hr h=>?_;obtain⟨t,l,p,zs,rfl,N,O,hz,q⟩:=h;have nd:=oI.nd;refine yq<|U 0<|iA rfl (aU.of N) (a9 1 nd<|a9 2 nd ?_);refine bQ<|kL (aW F') Xn Xp 1 (Ti rfl T.range lP (ud _ [] _ rfl)) ?_;refine ai (cL eX T.len DP<|ai<|U 2<|aA ⟨l,_,rfl,.inl<|av.of O,aA ⟨_,rfl,by lia,by rw[Aa];lia,λD x=>?_⟩⟩);rw[Aa,Bt];refine YF (λi d k=>(∃v,d=[some<|.ref t,some<|.str p,some<|.ref l]++[v])/\∃ts:List Addr,ts.length=i/\k D=some (.lst<|ts.map V.ref)/\(∀(j:Nat)t,ts[j]?=some t->k t=some (Tn p j))/\aj H k)
  ⟨⟨none,rfl⟩,[],rfl,ay,λj t h=>by simp at h,aM x _⟩ ?_ ?_
 ·rintro i d k hi ⟨⟨v,rfl⟩,ts,y,n,A,r⟩;rw[Ed];intro G I a b J;apply a9 3 SW;intro G I a b J;apply j5;rw[BL rfl];intro G I a b J;refine dk<|ai<|U 1<|ai<|U 3<|aA ⟨Z2,λu s=>?_⟩;have L:u≠D:=λe=>by rw[e,n]at s;cases s
  refine⟨ts.map V.ref,by rwa[ax<|CG L],by rw[Aa];exact bR (by omega),⟨_,rfl⟩,ts++[u],by rw[Ah,y];rfl,by rw[ay,Ai];rfl,?_,?_⟩
  ·intro j Y m
   by_cases hj:j<ts.length
   ·rw[Aw hj]at m;have e:=A j Y m;have n1:=cm e n λz=>nomatch z;rwa[ax n1,ax<|bz e s]
   ·rw[Ay<|by omega]at m;have fH:j-ts.length=0:=by
     have:=(Ad.mp m).1;simp at this;omega
    rw[fH]at m;cases m;have:j=i:=by omega
    rw[this,ax L,ay]
  ·intro c o B;rw[ax<|bz B x,ax<|bz B (fI r s)];exact r _ _ B
 ·rintro d k ⟨_,ts,y,n,A,r⟩;exact q D ts k r x n y A
inductive kh(g:Int->Int)(vs:List V)(H:Hp)(Q:VK)(_:XK):Prop
 |mk (e:Addr)(p:Str)(j m:Int)(_:vs=[.ref e,.int m])(_:H e=some (Tn p j))(_:0<m)(_:∀t H',aj H H'->H' t=some (Tn p<|g j%m)->Q (.ref t) H')
abbrev Xq:Ñ:=["end","many","point","place"]
def oJ:ak Xq ["end","many"] (aW MS):=cg
def jy:ak Xq ["end","many"] (aW MT):=cg
def q7f(F:bA K "turned_left" "turned_left" MS f a)(T:Txt mg):aG P w K mg base bF 1 f a ["end","many"] (kh λj=>j+1):=by
 refine F.gc oJ λi H k Q E l h=>?_;obtain⟨e,p,j,m,rfl,b,c,q⟩:=h;have nd:=oJ.nd;refine yq<|U 0<|iA rfl (aU.of b) (a9 2 nd<|a9 3 nd ?_);refine bQ (dk<|ai<|U 2<|ai<|bb di<|bb gR<|U 3<|aF ⟨_,_,rfl,rfl,U 1 ⟨_,_,rfl,rfl,(by show 0<m;exact c),aA ⟨Z2,λt d=>?_⟩⟩⟩);exact q t _ (aM d _) ay
def k9x(F:bA K "turned_right" "turned_right" MT f a)(T:Txt mg):aG P w K mg base bF 1 f a ["end","many"] (kh λj=>j-1):=by
 refine F.gc jy λi H k Q E l h=>?_;obtain⟨e,p,j,m,rfl,b,c,q⟩:=h;have nd:=jy.nd;refine yq<|U 0<|iA rfl (aU.of b) (a9 2 nd<|a9 3 nd ?_);refine bQ (dk<|ai<|U 2<|ai<|bb di<|bb Ks<|U 3<|aF ⟨_,_,rfl,rfl,U 1 ⟨_,_,rfl,rfl,(by show 0<m;exact c),aA ⟨Z2,λt d=>?_⟩⟩⟩);exact q t _ (aM d _) ay
theorem Me:∀{acc:List (Key×V)},((acc++kvs).map (·.1)).Nodup->kvs.foldl (λa p=>putK a p.1 p.2) acc=acc++kvs:=by
 induction kvs with
 |nil=>intro acc _;simp
 |cons p r b=>
  intro acc h;have c:az acc p.1=none:=by
   cases e:az acc p.1 with
   |none=>rfl
   |some v=>
    rw[Ai,Be]at h;exact absurd rfl ((Bj.mp h).2.2 _ (Uq e) _ Ac)
  rw[Dq,Uj _ c,b (by rwa[Ap]),Ap];rfl
theorem Xr:∀{kvs:List (Key×V)}{i:Nat}{p:Key×V},(kvs.map (·.1)).Nodup->kvs[i]?=some p->az kvs p.1=some p.2
 |[],_,_,_,h=>by simp at h
 |q :: r,0,p,_,h=>by
  cases h;exact jG rfl
 |q :: r,i+1,p,a,h=>by
  rw[Be,Bb]at a;have b:r[i]?=some p:=by simpa using h
  rw[ji λe=>a.1<|by rw[e];exact Ag.mpr ⟨p,An b,rfl⟩];exact Xr a.2 b
def ki(n:bc)(as:Ï):List (Key×V):=List.zipWith (λr a=>(Sum.inr r.1,V.ref a.2)) n as
theorem Xs:∀n as,as.length=n.length->(ki n as).map (·.1)=(n.map (·.1)).map Sum.inr
 |[],[],_=>rfl
 |[],_ :: _,h=>by simp at h
 |_ :: _,[],h=>by simp at h
 |r :: n,a :: as,h=>by
  have:=Xs n as (by simpa using h);show Sum.inr r.1 :: (ki n as).map (·.1)=_;rw[this];rfl
def Xt{i:Nat}(b:n[i]?=some r)(c:as[i]?=some a):(ki n as)[i]?=some (Sum.inr r.1,.ref a.2):=by
 rw[ki,VJ,b,c]
def k92{l:Ñ}(h:l.Nodup):(l.map (Sum.inr:Str->Key)).Nodup:=by
 rw[Cg,Ez];exact(Cg.mp h).imp λh q=>h<|Sum.inr.inj q
noncomputable def nameAt(n:bc)(r:Nat):Str:=((n[r]?).map (·.1)).getD ⟨#[]⟩
def key(n:bc)(e:Nt.bi):List Key:=[Sum.inr<|nameAt n e.1,Sum.inl (e.2:Int)]
abbrev TN(n:bc)(e:Nt.bi):HO:=Tn (nameAt n e.1) (e.2:Int)
def xh(h:r<n.length):nameAt n r=n[r].1:=by rw[nameAt,Ab h];rfl
def xi(d:(n.map (·.1)).Nodup)(e:a.1<n.length)(f:b.1<n.length)(h:key n a=key n b):a=b:=by
 unfold key at h
 injection h with i c
 injection c with c _
 have j:=Sum.inr.inj i;have o:=Sum.inl.inj c;rw[xh e,xh f]at j;have k:a.1=b.1:=by
  have l:a.1<(n.map (·.1)).length:=by rwa[Aa]
  have m:b.1<(n.map (·.1)).length:=by rwa[Aa]
  refine(Fg (h₀:=l) (h₁:=m) d).mp ?_;rwa[Cp,Cp]
 exact FZ k<|by lia
def vi(b:r<n.length)(c:(row n r)[p]?=some z):∃a,bg n=(bg (n.take r)++bh r ((row n r).take p) 0)++(z,(r,p)):: a:=by
 have d:bg n=bg (n.take<|r+1)++eR (0+(n.take<|r+1).length) (n.drop<|r+1):=by
  have:=Mx (n.take<|r+1) (n.drop<|r+1) 0;rwa[Da]at this
 have e:bh r (row n r) 0=bh r ((row n r).take<|p+1) 0++bh r ((row n r).drop<|p+1) (0+((row n r).take<|p+1).length):=by
  unfold bh;rw[<-Ai,<-List.zipIdx_append,Da]
 rw[d,sg b,e,qH c];refine⟨bh r ((row n r).drop<|p+1) (0+((row n r).take<|p+1).length)++eR (0+(n.take<|r+1).length) (n.drop<|r+1),?_⟩;simp
def Xu[DecidableEq κ](kvs:List<|κ×V)(k:κ)(v:V):(putK kvs k v).map (·.1)=if k∈kvs.map (·.1)then kvs.map (·.1)else kvs.map (·.1)++[k]:=by
 have e:(kvs.any λa=>decide (a.1=k))=decide (k∈kvs.map (·.1)):=by grind
 rw[putK,e]
 by_cases h:k∈kvs.map (·.1)
 ·rw[BL<|BW h,BL h,Bi];refine At λp _=>?_;show(if p.1=k then(p.1,v)else p).1=p.1
  split<;>rfl
 ·grind
def jz[DecidableEq κ]{k j:κ}:j∈(putK kvs k v).map (·.1)↔j∈kvs.map (·.1)\/j=k:=by
 rw[Xu]
 split
 ·grind
 ·rw[Al,Ae]
def Xv{κ:Type}[DecidableEq κ]{kvs:List (κ×V)}{k:κ}(h:(kvs.map (·.1)).Nodup):((putK kvs k v).map (·.1)).Nodup:=by
 rw[Xu]
 split
 ·exact h
 ·grind
structure lX(n:bc)(done:List<|Str×Nt.bi)(H:Hp)(kM:List<|Key×V)(kO:List<|List Key×V):Prop where
 m0:∀z,bq done z=[]->az kM (Sum.inr z)=none
 m1:∀z a rest,bq done z=a :: rest->∃t,az kM (Sum.inr z)=some (.ref t)/\H t=some (TN n a)
 o:∀z a b rest,bq done z=a :: b :: rest->(∃u,az kO (key n a)=some (.ref u)/\H u=some (TN n b))/\∃u,az kO (key n b)=some (.ref u)/\H u=some (TN n a)
 sub:∀p∈done,aH n p.2=some p.1
 ga:kM.length<=done.length
 iG:kO.length<=2*done.length
 ks:∀k∈kO.map (·.1),∃p∈done,k=key n p.2
 nd:(kO.map (·.1)).Nodup
def lX.keep(I:lX n done H kM kO)(k:∀t p j,H t=some (Tn p j)->H' t=some (Tn p j)):lX n done H' kM kO where
 m0:=I.m0
 m1:=λz a rest h=>let ⟨t,e1,e2⟩:=I.m1 z a rest h;⟨t,e1,k _ _ _ e2⟩
 o:=λz a b rest h=>let ⟨⟨u,e1,e2⟩,⟨v,e3,e4⟩⟩:=I.o z a b rest h;⟨⟨u,e1,k _ _ _ e2⟩,⟨v,e3,k _ _ _ e4⟩⟩
 sub:=I.sub
 ga:=I.ga
 iG:=I.iG
 ks:=I.ks
 nd:=I.nd
def zJ(h:a∈bq done z):(z,a)∈done:=by
 unfold bq at h;obtain⟨⟨y,b⟩,c,rfl⟩:=Ag.mp h;obtain⟨d,e⟩:=Ao.mp c;have:y=z:=BZ e;subst this;exact d
def lX.new(I:lX n done H kM kO)(ht:H t=some (TN n e))(hz:aH n e=some z)(h0:bq done z=[]):
  lX n (done++[(z,e)]) H (putK kM (Sum.inr z)<|.ref t) kO where
 m0:=λy hy=>by
  rw[dQ]at hy;obtain⟨h1,h2⟩:=Ek.mp hy;have bp:¬ z=y:=λq=>by rw[BL q]at h2;cases h2
  rw[cR,C λq=>bp (Sum.inr.inj q).symm];exact I.m0 y h1
 m1:=λy a rest hy=>by
  rw[dQ]at hy
  by_cases q:z=y
  ·subst q;rw[h0,BL rfl]at hy;cases hy;exact⟨t,by rw[cR,BL rfl],ht⟩
  ·rw[C q,Bd]at hy;obtain⟨u,e1,e2⟩:=I.m1 y a rest hy;exact⟨u,by rwa[cR,C λp=>q (Sum.inr.inj p).symm],e2⟩
 o:=λy a b rest hy=>by
  rw[dQ]at hy
  by_cases q:z=y
  ·grind
  ·rw[C q,Bd]at hy;exact I.o y a b rest hy
 sub:=λp hp=>by
  obtain h|h:=Al.mp hp
  ·exact I.sub p h
  ·rwa[Ae.mp h]
 ga:=by
  have:=jm kM (Sum.inr z)<|.ref t;have:=I.ga;rw[Ah,Dh];lia
 iG:=by
  have:=I.iG;rw[Ah,Dh];lia
 ks:=λk hk=>let ⟨p,hp,e⟩:=I.ks k hk;⟨p,As _ hp,e⟩
 nd:=I.nd
theorem lX.old(hN:(n.map (·.1)).Nodup)(I:lX n done H kM kO)(ht:H te=some (TN n e))(hm:H tm=some (TN n a))(hz:aH n e=some z)(h1:bq done z=[a])(hae:a≠e):
  lX n (done++[(z,e)]) H kM (putK (putK kO (key n e)<|.ref tm) (key n a)<|.ref te) where
 m0:=λy hy=>by
  rw[dQ]at hy;exact I.m0 y (Ek.mp hy).1
 m1:=λy c rest hy=>by
  rw[dQ]at hy
  by_cases q:z=y
  ·subst q;rw[h1,BL rfl]at hy;cases hy;exact I.m1 z a [] h1
  ·rw[C q,Bd]at hy;exact I.m1 y c rest hy
 o:=λy c b rest hy=>by
  rw[dQ]at hy;have ta:=I.sub (z,a)<|zJ<|h1▸(Ae.mpr rfl)
  by_cases q:z=y
  ·subst q;rw[h1,BL rfl]at hy;cases hy;refine⟨⟨te,by rw[cR,BL rfl],ht⟩,⟨tm,?_,hm⟩⟩;rw[cR,C λp=>hae (xi hN (dB hz) (dB ta) p).symm,cR,BL rfl]
  ·rw[C q,Bd]at hy;have tc:=I.sub (y,c) (zJ<|hy▸Ac);have tb:=I.sub (y,b) (zJ<|hy▸(Af _ Ac));have ne:∀x:Nt.bi,aH n x=some y->¬ key n x=key n a/\¬ key n x=key n e:=λx hx=>by
    refine⟨λp=>?_,λp=>?_⟩
    ·have:=xi hN (dB hx) (dB ta) p;rw[this,ta]at hx;exact q<|Option.some.inj hx
    ·have:=xi hN (dB hx) (dB hz) p;rw[this,hz]at hx;exact q<|Option.some.inj hx
   obtain⟨⟨u,e1,e2⟩,⟨v,e3,e4⟩⟩:=I.o y c b rest hy;refine⟨⟨u,?_,e2⟩,⟨v,?_,e4⟩⟩
   ·rwa[cR,C (ne c tc).1,cR,C (ne c tc).2]
   ·rwa[cR,C (ne b tb).1,cR,C (ne b tb).2]
 sub:=λp hp=>by
  obtain h|h:=Al.mp hp
  ·exact I.sub p h
  ·rwa[Ae.mp h]
 ga:=by
  have:=I.ga;rw[Ah,Dh];lia
 iG:=by
  have h1:=jm (putK kO (key n e)<|.ref tm) (key n a)<|.ref te;have h2:=jm kO (key n e)<|.ref tm;have:=I.iG;rw[Ah,Dh];omega
 ks:=λk hk=>by
  obtain hk|rfl:=jz.mp hk
  ·obtain hk|rfl:=jz.mp hk
   ·obtain⟨p,hp,e⟩:=I.ks k hk;exact⟨p,As _ hp,e⟩
   ·exact⟨(z,e),Ar _<|Ae.mpr rfl,rfl⟩
  ·exact⟨(z,a),As _ (zJ<|by rw[h1];exact Ae.mpr rfl),rfl⟩
 nd:=Xv<|Xv I.nd
def lX.whole(T:ao n)(I:lX n (bg n) H m h)(i:e∈ends n):∃u,az h (key n e)=some (.ref u)/\H u=some (TN n<|other n e):=by
 obtain⟨z,c⟩:=af.mp i;obtain⟨a,b,d,f,j⟩:=sf T c;have k:aH n a=some z:=aJ.mp (by rw[d];simp);have l:aH n b=some z:=aJ.mp (by rw[d];simp);obtain⟨o,p⟩:=I.o z a b [] d
 obtain rfl|rfl:=j
 ·have:b=other n e:=((kc T c).mp l).resolve_left<|CG f;rwa[<-this]
 ·have:a=other n e:=((kc T c).mp k).resolve_left f;rwa[<-this]
inductive oK(vs:List V)(H:Hp)(Q:VK)(_:XK):Prop
 |mk (R:Addr)(as:Ï)(n:bc)(_:vs=[.ref R])(_:aq H R as n)(_:(n.map (·.1)).Nodup)(_:ao n)(_:n.length<=1000)(_:(ag n).length<=1000)(_:∀d kvs H',aj H H'->H d=none->H' d=some (.dT kvs)->(∀e∈ends n,∃u,az kvs (key n e)=some (.ref u)/\H' u=some (TN n<|other n e))->(kvs.map (·.1)).Nodup->(∀k∈kvs.map (·.1),∃e∈ends n,k=key n e)->kvs.length<=2000->Q (.ref d) H')
def q3h(j:xs.length=ys.length)(Pv:Nat->St->Hp->Prop)(l:Pv 0 c H)(n:∀i c H,i<=xs.length->Pv i c H->av X.K H a xs/\av X.K H b ys)
  (o:∀i x y T c H,xs[i]?=some x->ys[i]?=some y->Pv i c H->H T=none->Eg X q (.ref T) c (upd H T<|.tup [x,y]) λd r=>fg X body {D with nx:=Pv<|i+1,ct:=Pv<|i+1,bk:=after} d r) (hd:∀c H,Pv xs.length c H->after c H):ue X q body (F4 X.K a b) D after c H:=by
 refine⟨λi m c H=>m=xs.length-i/\i<=xs.length/\Pv i c H,⟨xs.length,by simp,By _,l⟩,?_⟩;rintro i m c H ⟨rfl,s,p⟩;obtain⟨f,h⟩:=n i c H s p
 by_cases k:i<xs.length
 ·refine .inr ⟨⟨xs,ys,xs[i],ys[i],f,h,Ab k,Ab<|by lia⟩,Pv<|i+1,λt u w=>⟨xs.length-(i+1),by lia,rfl,k,w⟩,λv u y=>?_⟩;obtain⟨T,x,y,z,rfl,rfl,A,B⟩:=y;exact o i x y T c _ (A xs f) (B ys h) p z
 ·have e:i=xs.length:=by lia
  subst e;exact .inl ⟨⟨xs,ys,f,h,.inl<|Aq _⟩,hd c H p⟩
abbrev NOE:Ñ:=["rows","met","others","row","end","tie"]
def zK:ak NOE ["rows"] (aW MU):=cg
def Xw{H:Hp}(h:H t=some (.tup xs))(g:H d=some (.dK kvs)):t≠d:=cm h g λz=>nomatch z
def vj{H:Hp}(h:H t=some (.tup xs))(g:H d=some (.dT kvs)):t≠d:=cm h g λz=>nomatch z
theorem mh(F:bA K "other_ends" "other_ends" MU f fd)(T:Txt mg)
  (GE:aT P w K mg base 1 "ends_round" ["row"] gm):
  aG P w K mg base bF 2 f fd ["rows"] oK:=by
 refine F.gc zK λb0 H vs Q E hr h=>?_;obtain⟨R,as,n,rfl,hR,hN,hT,hn,ht,q⟩:=h;have nd:=zK.nd;have bI:=hR.len;have Y:=hr.u1;refine aX 1 nd<|yK λi zL=>?_;refine aX 2 nd<|Vy λc Oi=>?_;have zM:c≠i:=λe=>by rw[e,ay]at Oi;cases Oi
 have vk:H c=none:=by rwa[ax zM]at Oi
 have em:(upd (upd H i<|.dK []) c<|.dT []) i=some (.dK []):=by rw[ax<|CG zM,ay]
 have eo:(upd (upd H i<|.dK []) c<|.dT []) c=some (.dT []):=ay;have s0:aj H (upd (upd H i<|.dK []) c<|.dT []):=λb o h=>by rwa[ax<|bz h vk,ax<|bz h zL]
 generalize upd (upd H i<|.dK []) c (.dT [])=H1 at em eo s0 ⊢;refine jH<|U 0 ⟨R,rfl,⟨_,av.of<|s0 _ _ hR.lst⟩,jI (xs:=as.map λa=>V.ref a.1) (λr σ G=>E5 λl d u1 v A=>A5 (aj H G) (G i=some (.dK l)) (G c=some (.dT d)) (lX n (bg<|n.take r) G l d)<|σ=[some<|.ref R,some<|.ref i,some<|.ref c,u1,v,A])
  ⟨[],[],_,_,_,s0,em,eo,⟨λ_ _=>rfl,λz a m h=>(by cases h),λz a b m h=>(by cases h),λp h=>(by cases h),By _,By _,λk h=>(by cases h),Co⟩,rfl⟩ ?_ ?_ ?_⟩
 ·rintro r σ G _ ⟨l,d,u1,v,A,sm,_⟩;exact av.of<|sm _ _ hR.lst
 ·rintro r x σ G hx ⟨l,d,u1,v,A,sm,Xx,Oj,I,rfl⟩;have hi:r<n.length:=by
   have:=(Ad.mp hx).1;rw[Aa]at this;omega
  obtain⟨a,ea,cZ,et,el,er⟩:=(hR.same sm).at hi;rw[Aj,ea]at hx;cases hx;have k8:(row n r).length<=1000:=Cd (lS n r) ht;have Ø:nameAt n r=n[r].1:=xh hi;apply a9 3 nd;refine EW (Wa rfl T.zip (ta:=yp _ _) lP) ?_;refine ai<|bC GE hr<|ai<|U 3<|aA ⟨a.1,a.2,n[r].1,row n r,rfl,et,el,k8,λL ts H5 N n5 e5 l5 t5=>?_⟩;refine ai<|bn cw<|U 3<|aF ⟨a.1,_,_,.ref a.2,rfl,rfl,aU.of<|N _ _ et,rfl,aA ⟨L,a.2,rfl,⟨_,av.of e5⟩,⟨_,av.of<|N _ _ el⟩,?_⟩⟩;have Ij:=N _ _ Xx;have Ik:=N _ _ Oj;have xj:=N _ _ el;refine q3h (xs:=ts.map V.ref) (ys:=(row n r).map V.str) (by rw[Aa,Aa,l5]) (λp B s=>E4 λl d v A=>A5 (∀b o,b≠i->b≠c->H5 b=some o->s b=some o) (s i=some (.dK l)) (s c=some (.dT d)) (lX n (bg (n.take r)++bh r ((row n r).take p) 0) s l d)<|B=[some<|.ref R,some<|.ref i,some<|.ref c,some<|.ref a.1,v,A])
   ⟨l,d,_,_,λb o _ _ h=>h,Ij,Ik,?_,rfl⟩ ?_ ?_ ?_
  ·have:bh r ((row n r).take 0) 0=[]:=by simp[bh]
   rw[this,Bd];exact I.keep λt p j h=>N _ _ h
  ·rintro p B s _ ⟨l,d,v,A,O,_,_,_,rfl⟩;exact⟨av.of (O _ _ (cm e5 Ij λz=>nomatch z) (cm e5 Ik λz=>nomatch z) e5),av.of<|O _ _ (cm xj Ij λz=>nomatch z) (cm xj Ik λz=>nomatch z) xj⟩
  ·rintro p x y Tt B s hx hy ⟨l,d,v,A,O,Il,Im,I6,rfl⟩ oM;rw[Aj,Ba]at hx hy;obtain⟨J,sV,rfl⟩:=hx;obtain⟨z,hz,rfl⟩:=hy;have qT:=t5 p J sV;have Io:s J=some (Tn n[r].1 p):=O _ _ (Xw qT Ij) (vj qT Ik) qT;have mO:aH n (r,p)=some z:=hz;obtain⟨m,eG⟩:=vi hi hz;have Ö:(bg (n.take r)++bh r ((row n r).take p) 0).length<1000:=by
    have D:(bg n).length=(ag n).length:=by
     have:=BX List.length<|nU n 0;rwa[Aa]at this
    have u:=BX List.length eG;rw[Ah,Au]at u;omega
   have eU:bg (n.take r)++bh r ((row n r).take<|p+1) 0=(bg (n.take r)++bh r ((row n r).take p) 0)++[(z,(r,p))]:=by
    rw[qH hz,Ap]
   have oO:∀b,b∈bq (bg (n.take r)++bh r ((row n r).take p) 0) z->b≠(r,p):=λb hb e=>by
    have hm:=zJ hb;have qv:=nV n;unfold ends at qv;rw[eG,Ai,Be]at qv;exact(Bj.mp qv).2.2 _ (Ag.mpr ⟨_,hm,rfl⟩) _ Ac e
   have zN:(bq (bg (n.take r)++bh r ((row n r).take p) 0) z).length<=1:=by
    have D:(pos n z).length=2:=by rw[qG];exact hT z<|dP mO
    have u:pos n z=bq (bg (n.take r)++bh r ((row n r).take p) 0) z++bq ((z,(r,p)):: m) z:=by
     show bq (bg n) z=_;rw[eG];unfold bq;rw[Cf,Ai]
    have h3:1<=(bq ((z,(r,p)):: m) z).length:=by
     unfold bq;rw[Cn,BL<|by simp];simp
    rw[u,Ah]at D;omega
   generalize bg (n.take r)++bh r ((row n r).take p) 0=done at I6 Ö eU oO zN;rw[eU];have Ú:Tt≠i:=λe=>by rw[e,Il]at oM;cases oM
   have Û:Tt≠c:=λe=>by rw[e,Im]at oM;cases oM
   have s7:=aM oM<|.tup [.ref J,.str z];have Ol:∀b o,b≠i->b≠c->H5 b=some o->(upd s Tt<|.tup [.ref J,.str z]) b=some o:=λb o D u h=>s7 _ _<|O b o D u h;have zO:=s7 _ _ Il;have zR:=s7 _ _ Im;have M:=I6.keep (H':=upd s Tt<|.tup [.ref J,.str z]) λt p j h=>s7 _ _ h;have vp:=s7 _ _ Io;refine iA rfl (aU.of ay) (a9 4 nd<|a9 5 nd ?_);generalize upd s Tt (.tup [.ref J,.str z])=H7 at Ol zO zR M vp;have vq:H7 J=some (TN n (r,p)):=by
    show H7 J=some (Tn (nameAt n r) p);rwa[Ø]
   have hM:l.length<sizeLine:=bR (by have:=M.ga;omega);have hO:d.length<sizeLine:=bR (by have:=M.iG;omega);refine fk<|Vz Y<|U 5<|U 1 ⟨i,_,rfl,bf.k (k:=Sum.inr z) zO,?_⟩
   match mR:bq done z with
   |[]=>
    rw[M.m0 z mR];show if false=true then _ else _;rw[C Av];refine qF Y<|U 4<|U 1<|U 5 ⟨i,_,rfl,bO.k (k:=Sum.inr z) zO hM,a8<|a8 ⟨_,d,_,_,λb o D u h=>?_,ay,?_,?_,rfl⟩⟩
    ·rw[ax D];exact Ol b o D u h
    ·rwa[ax zM]
    ·exact(M.new vq mO mR).keep λt p j h=>by rwa[ax<|Xw h zO]
   |b :: more=>
    have zS:more=[]:=by
     rw[mR,Au]at zN;exact Ci.mp<|by omega
    subst zS;obtain⟨tm,vm,Xy⟩:=M.m1 z b [] mR;rw[vm];show if true=true then _ else _;rw[BL rfl];have pZ:b≠(r,p):=oO b (by rw[mR];exact Ae.mpr rfl);refine qF Y (i0 Y<|U 1<|U 5 ⟨i,.ref tm,rfl,by rw[<-vm];exact bf.k (k:=Sum.inr z) zO,U 2<|U 4 ⟨c,_,rfl,bO.t (k:=key n (r,p)) zR vq hO,?_⟩⟩);have Ü:=jm d (key n (r,p))<|.ref tm;have Ý:=M.iG;have Ù:(upd H7 c<|.dT<|putK d (key n (r,p))<|.ref tm) i=some (.dK l):=by rwa[ax<|CG zM]
    have Om:(upd H7 c<|.dT<|putK d (key n (r,p))<|.ref tm) tm=some (TN n b):=by rwa[ax<|vj Xy zR]
    refine qF Y<|U 4<|U 2<|i0 Y<|U 1<|U 5 ⟨i,.ref tm,rfl,by rw[<-vm];exact bf.k (k:=Sum.inr z) Ù,c,_,rfl,bO.t (k:=key n b) ay Om (bR<|by omega),a8<|a8 ⟨l,_,_,_,λb o D u h=>?_,?_,ay,?_,rfl⟩⟩
    ·rw[ax u,ax u];exact Ol b o D u h
    ·rwa[ax<|CG zM]
    ·exact(M.old hN vq Xy mO mR pZ).keep λt p j h=>by rwa[ax<|vj h zR,ax<|vj h zR]
  ·rintro B s ⟨l,d,v,A,O,Il,Im,I6,rfl⟩;refine a8 ⟨l,d,_,_,_,λb o h=>?_,Il,Im,?_,rfl⟩
   ·exact O b o (bz h zL) (bz h vk)<|N _ _<|sm _ _ h
   ·rw[Aa,l5,Bn]at I6;rwa[sg hi]
 ·rintro σ G ⟨l,d,u1,v,A,sm,Xx,Oj,I,rfl⟩;rw[Aa,bI,Bn]at I;have lO:=I.iG;have ls:(bg n).length=(ag n).length:=by rw[<-nU n 0,Aa];rfl
  exact bQ<|U 2<|q c d G sm vk Oj (λe he=>I.whole hT he) I.nd (λk hk=>let ⟨p,hp,e⟩:=I.ks k hk;⟨p.2,Ag.mpr ⟨p,hp,rfl⟩,e⟩)<|by lia
def qU(n:bc)(H:Hp)(us:List Addr)(done:List<|Str×Nt.bi):Prop:=us.length=done.length/\∀(j:Nat)u p,us[j]?=some u->done[j]?=some p->H u=some (TN n p.2)
def qU.keep(h:qU n H us done)(k:∀t p j,H t=some (Tn p j)->H' t=some (Tn p j)):qU n H' us done:=⟨h.1,λj u p a b=>k _ _ _<|h.2 j u p a b⟩
def qU.snoc(h:qU n H us done)(k:∀t p j,H t=some (Tn p j)->H' t=some (Tn p j))(b:H' u=some (TN n p.2)):qU n H' (us++[u]) (done++[p]):=by
 obtain⟨a,c⟩:=h;refine⟨by rw[Ah,Ah,a];rfl,λj v x d e=>?_⟩
 by_cases f:j<us.length
 ·grind
 ·grind
def zT(Pv:Nat->St->Hp->Prop)(k:Pv 0 l H)(n:∀i c H',i<=xs.length->Pv i c H'->av X.K H' a xs)
  (o:∀i x c H',xs[i]?=some x->Pv i c H'->Eg X r x c H' λd s=>Ei X f d s λb h=>if b=true then pD X inner d h (Pv<|i+1)else Pv (i+1) d h)
  (hd:∀c H',Pv xs.length c H'->after c H'):kK X r f inner (tT X.K a) after l H:=by
 refine⟨λi m c H'=>m=xs.length-i/\i<=xs.length/\Pv i c H',⟨_,rfl,By _,k⟩,?_⟩;rintro i m c H' ⟨rfl,t,p⟩;have q:=n i c H' t p
 by_cases j:i<xs.length
 ·refine .inr ⟨⟨xs,xs[i],q,by simp[j]⟩,Pv<|i+1,λc H' u=>⟨xs.length-(i+1),by lia,rfl,j,u⟩,λx v y=>?_⟩;obtain⟨e,y⟩:=y;subst e;exact o i x c _ (y xs q) p
 ·have e:i=xs.length:=by lia
  subst e;exact .inl ⟨⟨xs,q,Aq _⟩,hd c H' p⟩
def ee(k:xs.length=ys.length)(Pv:Nat->St->Hp->Prop)(o:Pv 0 q H)(r:∀i c H',i<=xs.length->Pv i c H'->av X.K H' a xs/\av X.K H' b ys)
  (s:∀i x y T c H',xs[i]?=some x->ys[i]?=some y->Pv i c H'->H' T=none->Eg X t (.ref T) c (upd H' T<|.tup [x,y]) λd u=>Ei X f d u λb l=>if b=true then pD X inner d l (Pv<|i+1)else Pv (i+1) d l)
  (hd:∀c H',Pv xs.length c H'->after c H'):kK X t f inner (F4 X.K a b) after q H:=by
 refine⟨λi m c H'=>m=xs.length-i/\i<=xs.length/\Pv i c H',⟨_,rfl,By _,o⟩,?_⟩;rintro i m c H' ⟨rfl,w,p⟩;obtain⟨h,j⟩:=r i c H' w p
 by_cases n:i<xs.length
 ·refine .inr ⟨⟨xs,ys,xs[i],ys[i],h,j,Ab n,Ab<|by lia⟩,Pv<|i+1,λc H' z=>⟨xs.length-(i+1),by lia,rfl,n,z⟩,λv E y=>?_⟩;obtain⟨T,x,y,A,rfl,rfl,B,D⟩:=y;exact s i x y T c _ (B xs h) (D ys j) p A
 ·have e:i=xs.length:=by lia
  subst e;exact .inl ⟨⟨xs,ys,h,j,.inl<|Aq _⟩,hd c H' p⟩
inductive oP(vs:List V)(H:Hp)(Q:VK)(_:XK):Prop
 |mk (R:Addr)(as:Ï)(n:bc)(_:vs=[.ref R])(_:aq H R as n)(_:n.length<=1000)(_:(ag n).length<=1000)(_:∀L ts H',aj H H'->H L=none->H' L=some (.lst<|ts.map V.ref)->qU n H' ts (bg n)->Q (.ref L) H')
abbrev Xz:Ñ:=["rows"]
abbrev XA:Ñ:=["rows","row","end"]
def lg:ak Xz ["rows"] (aW GA):=cg
def XB:XA.Nodup:=by decide +kernel
theorem p5(F:bA K "ends_in_order" "ends_in_order" GA f fd)(T:Txt mg)
  (GE:aT P w K mg base 1 "ends_round" ["row"] gm):
  aG P w K mg base bF 2 f fd ["rows"] oP:=by
 refine F.gc lg λb0 H vs Q E hr h=>?_;obtain⟨R,as,n,rfl,A,hn,ht,q⟩:=h;have bI:=A.len;refine bQ<|q3b (aW GA) Xz XA 2 (gJ bB)<|U 0 ⟨R,rfl,⟨_,av.of A.lst⟩,λD O cl c Ö Ø ex=>?_⟩;refine zT (xs:=as.map λa=>V.ref a.1) (λr d i=>(∃v1 l,d=[some<|.ref R]++[v1,l])/\∃ts:List Addr,aj H i/\i D=some (.lst<|ts.map V.ref)/\qU n i ts (bg<|n.take r)) ⟨⟨none,none,rfl⟩,[],aM O _,ay,⟨rfl,λj u p h=>(by cases h)⟩⟩ ?_ ?_ ?_
 ·rintro r d i _ ⟨_,ts,m,_⟩;exact av.of<|m _ _ A.lst
 ·rintro r x d i s ⟨⟨v1,l,rfl⟩,ts,m,y,B⟩;have G:r<n.length:=by
   have:=(Ad.mp s).1;rw[Aa]at this;omega
  obtain⟨a,ea,cZ,et,el,er⟩:=(A.same m).at G;rw[Aj,ea]at s;cases s;have k8:=Cd (lS n r) ht;refine a9 1 XB<|j5 ?_;rw[BL rfl];refine q2w rfl rfl (gJ bB) (bC GE hr<|ai<|U 1<|aA ⟨a.1,a.2,n[r].1,row n r,rfl,et,el,k8,λL us H5 I n5 e5 l5 t5=>⟨L,rfl,⟨_,av.of e5⟩,?_⟩⟩);have Oo:L≠D:=λe=>by rw[e,y]at n5;cases n5
  refine zT (xs:=us.map V.ref) (λp d k=>(∃l,d=[some<|.ref R]++[some<|.ref a.1,l])/\∃ts:List Addr,(∀b o,b≠D->H5 b=some o->k b=some o)/\k D=some (.lst<|ts.map V.ref)/\qU n k ts (bg (n.take r)++bh r ((row n r).take p) 0))
   ⟨⟨_,rfl⟩,ts,λb o _ h=>h,I _ _ y,by simpa[bh]using B.keep (H':=H5) λt p j h=>I _ _ h⟩ ?_ ?_ ?_
  ·rintro p d k _ ⟨_,ts,v,_⟩;exact av.of<|v _ _ Oo e5
  ·rintro p x d k s ⟨⟨l,rfl⟩,ts,v,J,M⟩;rw[Aj,Ba]at s;obtain⟨N,sV,rfl⟩:=s;have hp:p<(row n r).length:=by have:=(Ad.mp sV).1;omega
   have Y:(row n r)[p]?=some (row n r)[p]:=Ab hp;generalize (row n r)[p]=z at Y;have qT:=t5 p N sV;have Iq:N≠D:=cm qT (I _ _ y) λz=>nomatch z;have Io:=v _ _ Iq qT;obtain⟨Ù,eG⟩:=vi G Y;have Ú:ts.length<1000:=by
    have h1:(bg n).length=(ag n).length:=by
     have:=BX List.length<|nU n 0;rwa[Aa]at this
    have h2:=BX List.length eG;rw[Ah,Au]at h2;have:=M.1;omega
   apply a9 2 XB;apply j5;rw[BL rfl];refine UO (U 2 ⟨ts.map V.ref,J,by rw[Aa];exact bR (by omega),⟨_,rfl⟩,ts++[N],λb o hb h=>by rw[ax hb];exact v b o hb h,by rw[ay,Ai];rfl,?_⟩);rw[qH Y,<-Ap];refine M.snoc (λt p j h=>by rwa[ax<|cm h J λz=>nomatch z]) ?_;rw[ax Iq];show k N=some (Tn (nameAt n r) p);rwa[xh G]
  ·rintro d k ⟨⟨l,rfl⟩,ts,v,J,M⟩;refine⟨⟨_,_,rfl⟩,ts,λb o h=>v b o (bz h O)<|I _ _<|m _ _ h,J,?_⟩;rwa[Aa,l5,Bn,<-sg G]at M
 ·rintro d i ⟨_,ts,m,y,B⟩;rw[Aa,bI,Bn]at B;exact q D ts i m O y B
theorem Mo:∀i u v,[V.str p,.int j][i]?=some u->[V.str c,.int d][i]?=some v->uB X H 0 u v (if i=0 then dv (.str p) (.str c)else dv (.int j) (.int d))
 |0,u,v,a,b=>by
  cases a;cases b;exact FL rfl rfl
 |1,u,v,a,b=>by
  cases a;cases b;exact FL rfl rfl
 |i+2,u,v,a,b=>by simp at a
def x3a(p a:Str)(j b:Int):(dv (.str p) (.str a) && dv (.int j) (.int b))=decide (p=a/\j=b):=by
 show((p == a) && (j == b))=_
 by_cases h:p=a<;>by_cases c:j=b<;>simp[h,c]
def x2e(c:H s=some (Tn p j))(d:H t=some (Tn a b)):wI X H 1 (.ref s) (.ref t) (decide (p=a/\j=b)):=by
 have:=Vs (X:=X) (λi=>if i=0 then dv (.str p) (.str a)else dv (.int j) (.int b)) (aU.of c) (aU.of d) rfl Mo;rw[show([V.str p,.int j].length)=2 from rfl,zd]at this;simp only[DQ]at this;rwa[C (by decide),x3a p a j b]at this
inductive qV(vs:List V)(H:Hp)(Q:VK)(_:XK):Prop
 |mk (R:Addr)(as:Ï)(n:bc)(_:vs=[.ref R])(_:aq H R as n)(_:(n.map (·.1)).Nodup)(_:n.length<=1000)(_:(ag n).length<=1000)(_:∀d kvs H',aj H H'->H d=none->H' d=some (.dT kvs)->(∀e z,aH n e=some z->az kvs (key n e)=some (.str z))->Q (.ref d) H')
section
abbrev XD:Ñ:=["rows"]
abbrev XE:Ñ:=["rows","row","end","tie"]
def Oq:ak XD ["rows"] (aW GI):=cg
def Ot:XE.Nodup:=by decide +kernel
theorem zf(F:bA K "ties_by_end" "ties_by_end" GI f fd)(T:Txt mg)
  (GE:aT P w K mg base 1 "ends_round" ["row"] gm):
  aG P w K mg base bF 2 f fd ["rows"] qV:=by
 refine F.gc Oq λb0 H vs Q E hr h=>?_;obtain⟨R,as,n,rfl,B,hN,hn,ht,q⟩:=h;have bI:=B.len;have hu:=hr.u1;refine bQ<|k6u (aW GI) XD XE 3 (gJ bB)<|U 0 ⟨R,rfl,⟨_,av.of B.lst⟩,λD hD cl c Ö Ø ex=>?_⟩;refine zT (xs:=as.map λa=>V.ref a.1) (λr d l=>(∃v1 m s,d=[some<|.ref R]++[v1,m,s])/\∃kvs:List<|List Key×V,aj H l/\l D=some (.dT kvs)/\kvs.length<=(bg<|n.take r).length/\∀p∈bg (n.take r),aH n p.2=some p.1/\az kvs (key n p.2)=some (.str p.1)) ⟨⟨none,none,none,rfl⟩,[],aM hD _,ay,By _,λp h=>(by cases h)⟩ ?_ ?_ ?_
 ·rintro r d l _ ⟨_,kvs,t,_⟩;exact av.of<|t _ _ B.lst
 ·rintro r x d l i ⟨⟨v1,m,s,rfl⟩,kvs,t,eD,XG,G⟩;have I:r<n.length:=by
   have:=(Ad.mp i).1;rw[Aa]at this;omega
  obtain⟨a,ea,cZ,et,el,er⟩:=(B.same t).at I;rw[Aj,ea]at i;cases i;have k8:=Cd (lS n r) ht;refine a9 1 Ot<|j5 ?_;rw[BL rfl];refine nk rfl rfl (Wa rfl T.zip lP) ?_;refine ai<|bC GE hr<|ai<|U 1<|aA ⟨a.1,a.2,n[r].1,row n r,rfl,et,el,k8,λL us H5 v n5 e5 l5 t5=>?_⟩;refine ai<|bn cw<|U 1<|aF ⟨a.1,_,_,.ref a.2,rfl,rfl,aU.of<|v _ _ et,rfl,aA ⟨L,a.2,rfl,⟨_,av.of e5⟩,⟨_,av.of<|v _ _ el⟩,?_⟩⟩;have J:=v _ _ eD;have xj:=v _ _ el;refine ee (xs:=us.map V.ref) (ys:=(row n r).map V.str) (by rw[Aa,Aa,l5]) (λp d u=>(∃m s,d=[some<|.ref R]++[some<|.ref a.1,m,s])/\∃kvs:List<|List Key×V,(∀b o,b≠D->H5 b=some o->u b=some o)/\u D=some (.dT kvs)/\kvs.length<=(bg (n.take r)++bh r ((row n r).take p) 0).length/\∀x∈bg (n.take r)++bh r ((row n r).take p) 0,aH n x.2=some x.1/\az kvs (key n x.2)=some (.str x.1))
   ⟨⟨_,_,rfl⟩,kvs,λb o _ h=>h,J,by simpa[bh]using XG,by simpa[bh]using G⟩ ?_ ?_ ?_
  ·rintro p d u _ ⟨_,kvs,j,_⟩;exact⟨av.of (j _ _ (cm e5 J λz=>nomatch z) e5),av.of<|j _ _ (cm xj J λz=>nomatch z) xj⟩
  ·rintro p x y Tt d u i hy ⟨⟨m,s,rfl⟩,kvs,j,M,vt,N⟩ oM;rw[Aj,Ba]at i hy;obtain⟨A,sV,rfl⟩:=i;obtain⟨z,O,rfl⟩:=hy;have qT:=t5 p A sV;have Iq:A≠D:=cm qT J λz=>nomatch z;have Io:=j _ _ Iq qT;have mO:aH n (r,p)=some z:=O;obtain⟨Ù,eG⟩:=vi I O;have Ú:(bg (n.take r)++bh r ((row n r).take p) 0).length<1000:=by
    have h1:(bg n).length=(ag n).length:=by
     have:=BX List.length<|nU n 0;rwa[Aa]at this
    have h2:=BX List.length eG;rw[Ah,Au]at h2;omega
   have Û:Tt≠D:=λe=>by rw[e,M]at oM;cases oM
   have s7:=aM oM<|.tup [.ref A,.str z];refine iA rfl (aU.of ay) (a9 2 Ot<|a9 3 Ot ?_);apply j5;rw[BL rfl];have vp:(upd u Tt<|.tup [.ref A,.str z]) A=some (.tup<|(key n (r,p)).map kV):=by
    rw[s7 _ _ Io];show some (Tn n[r].1 (p:Int))=some (Tn (nameAt n r) (p:Int));rw[xh I]
   refine Wb hu<|U 2<|U 3 ⟨_,bO.t (k:=key n (r,p)) (s7 _ _ M) vp (bR<|by omega),⟨_,_,rfl⟩,_,λb o hb h=>?_,ay,?_,?_⟩
   ·rw[ax hb];exact s7 _ _<|j b o hb h
   ·rw[qH O,<-Ap,Ah];have:=jm kvs (key n (r,p))<|.str z;show _<=_+1;omega
   ·rw[qH O,<-Ap];intro x i
    obtain h|h:=Al.mp i
    ·obtain⟨Y,q2⟩:=N x h;refine⟨Y,?_⟩;rw[cR]
     by_cases hk:key n x.2=key n (r,p)
     ·rw[BL hk];have:=xi hN (dB Y) (dB mO) hk;rw[this,mO]at Y;rw[Option.some.inj Y]
     ·rwa[C hk]
    ·rw[Ae.mp h];exact⟨mO,by rw[cR,BL rfl]⟩
  ·rintro d u ⟨⟨m,s,rfl⟩,kvs,j,M,vt,N⟩;rw[Aa,l5,Bn,<-sg I]at vt N;exact⟨⟨_,_,_,rfl⟩,kvs,λb o h=>j b o (bz h hD)<|v _ _<|t _ _ h,M,vt,N⟩
 ·rintro d l ⟨_,kvs,t,eD,XG,G⟩;rw[Aa,bI,Bn]at G;exact q D kvs l t hD eD λe z he=>(G (z,e)<|aY.mpr he).2
theorem XH[DecidableEq κ]:∀{kvs:List (κ×V)}{i:Nat}{p:κ×V},(kvs.map (·.1)).Nodup->kvs[i]?=some p->az kvs p.1=some p.2
 |[],_,_,_,h=>by simp at h
 |q :: r,0,p,_,h=>by
  cases h;exact jG rfl
 |q :: r,i+1,p,a,h=>by
  rw[Be,Bb]at a;have b:r[i]?=some p:=by simpa using h
  rw[ji λe=>a.1<|by rw[e];exact Ag.mpr ⟨p,An b,rfl⟩];exact XH a.2 b
def q90{l:List κ}(h:l.Nodup){i j:Nat}(b:l[i]?=some a)(d:l[j]?=some a):i=j:=by
 have e:=(Ad.mp b).1;have f:=(Ad.mp d).1;have k:=(Ad.mp b).2;have m:=(Ad.mp d).2
 obtain c|c|c:=Fq i j
 ·cases (Bs.mp h i j e f c) (k.trans m.symm)
 ·exact c
 ·cases (Bs.mp h j i f e c) (m.trans k.symm)
inductive kj(c:Int)(vs:List V)(H:Hp)(Q:VK)(_:XK):Prop
 |mk (R:Addr)(as:Ï)(n:bc)(_:vs=[.ref R])(_:aq H R as n)(_:(n.map (·.1)).Nodup)(_:ao n)(_:n.length<=1000)(_:(ag n).length<=1000)(_:∀d kvs H',aj H H'->H d=none->H' d=some (.dT kvs)->(∀e∈ends n,∃u,az kvs (key n e)=some (.ref u)/\H' u=some (TN n<|go c n e))->Q (.ref d) H')
abbrev qX:Ñ:=["rows","lists"]
abbrev vw:Ñ:=["rows","lists","end","other"]
def XI:vw.Nodup:=by decide +kernel
theorem XJ(h:(x = "left_steps"/\y = "turned_left"/\st=GU)\/(x = "right_steps"/\y = "turned_right"/\st=GV))(F:bA K x x st f fd)(T:Txt mg)
  (GO:aT P w K mg base 2 "other_ends" ["rows"] oK) (GT:aT P w K mg base 2 y ["end","many"]<|kh λj=>j+c):
  aG P w K mg base bF 3 f fd ["rows"] (kj c):=by
 obtain⟨rfl,rfl,rfl⟩|⟨rfl,rfl,rfl⟩:=h
 all_goals
  refine F.gb (N:=qX) cg (λvs H Q E h=>?_) λb0 H vs Q E hr h=>?_
  ·obtain⟨R,as,n,rfl,_⟩:=h;rfl
  obtain⟨R,as,n,rfl,G,hN,hT,hn,ht,q⟩:=h;have nd:qX.Nodup:=by decide +kernel
  have bI:=G.len;have hu:=hr.u1;have keys:=Xs n as bI;have knd:((ki n as).map (·.1)).Nodup:=keys▸(k92 hN)
  have vx:(ki n as).length=n.length:=by have:=BX List.length keys;simpa using this
  refine aX 1 nd (qt (V7 rfl) T.sj UG (ai (U 0 (aA ⟨R,as.map (·.1),ki n as,rfl,?_,?_,?_,?_,λdl gK=>?_⟩))))
  ·rw[Bi];exact G.lst
  ·rw[Aa,vx,bI]
  ·rw[Aa];exact bR<|by lia
  ·intro j t kv Y h2;rw[Aj,Ba]at Y;obtain⟨a,ea,rfl⟩:=Y;have hj:j<n.length:=by have:=(Ad.mp ea).1;lia
   have e:=Xt (Ab hj) ea;rw[h2]at e;cases e;exact(G.tup j a n[j] ea<|Ab hj).1
  have ef:(ki n as).foldl (λa p=>putK a p.1 p.2) []=ki n as:=by
   rw[Me (by rw[Ga];exact knd),Ga]
  rw[ef];have s1:=aM gK<|.dK<|ki n as;have el:(upd H dl<|.dK<|ki n as) dl=some (.dK<|ki n as):=ay;generalize upd H dl (.dK<|ki n as)=H1 at s1 el
  first|refine bQ (Wc (aW GU) qX vw 2 (Wh bB) ?_)|refine bQ<|Wc (aW GV) qX vw 2 (Wh bB) ?_
  refine bC GO hr<|ai<|U 0<|aA ⟨R,as,n,rfl,G.same s1,hN,hT,hn,ht,λd kvs s s2 uW ed val zU Ö XM=>?_⟩;refine⟨d,kvs,rfl,ed,λo D I cl l Ý Þ ex=>?_⟩;have ß:D≠d:=λe=>by rw[e,ay]at I;cases I
  have Ø:=fI s1 uW;have M:aj H (upd s d<|.dX o<|.dT kvs):=dR (s1.trans s2) Ø;have kB:∀b o',b≠d->s b=some o'->(upd s d<|.dX o<|.dT kvs) b=some o':=λb o' hb h=>by rwa[ax hb]
  have tB:∀ b p j,s b=some (Tn p j)->(upd s d<|.dX o<|.dT kvs) b=some (Tn p j):=λb p j h=>kB b _ (vj h ed) h;have XN:(upd s d<|.dX o<|.dT kvs) d=some (.dX o<|.dT kvs):=ay;have XO:(upd s d<|.dX o<|.dT kvs) dl=some (.dK<|ki n as):=kB _ _ (λe=>by rw[e,uW]at el;cases el)<|s2 _ _ el;have Ou:=G.same M;generalize upd s d (.dX o<|.dT kvs)=HB at I M tB XN XO Ou;have Ov:=fI M I;refine fu (λi m A=>(∃ v1 v2,m=[some<|.ref R,some<|.ref dl]++[v1,v2])/\∃ B:List<|List Key×V,A D=some (.dT B)/\B.length<=i/\aj HB A /\
   (∀j k x e,j<i->kvs[j]?=some (k,x)->e∈ends n->k=key n e->∃u,az B (key n e)=some (.ref u)/\A u=some (TN n<|go c n e)))
   ⟨⟨none,none,rfl⟩,[],ay,Aq _,aM I _,λj k x e h=>absurd h<|Ep _⟩ ?_ ?_ ?_
  ·rintro i m A _ ⟨_,_,_,_,v,_⟩;exact v _ _ XN
  ·rintro i k x b Tt m A z ⟨⟨v1,v2,rfl⟩,B,O,l2,v,all⟩ hb oM;have hi:i<kvs.length:=(Ad.mp z).1;obtain⟨e,J,rfl⟩:=Ö k<|Ag.mpr ⟨_,An z,rfl⟩;obtain⟨u,hv,MM⟩:=val e J;have XQ:az kvs (key n e)=some x:=XH zU z;rw[hv]at XQ;cases XQ;have FE:=cE hT J;obtain⟨zo,XR⟩:=af.mp FE;have k8:=dB XR;have sQ:=iy XR;have Ù:nameAt n (other n e).1=n[(other n e).1].1:=xh k8;have r:=aM oM<|.tup [.ref b,.ref u];have XS:=r _ _<|v _ _<|tB _ _ _ MM;refine iA rfl (aU.of ay) (a9 2 XI<|a9 3 XI ?_);apply j5;rw[BL rfl];have XT:as[(other n e).1]?=some (as[(other n e).1]'(by omega)):=Ab (by omega);have zV:n[(other n e).1]?=some n[(other n e).1]:=Ab k8;have ev:az (ki n as) (Sum.inr<|nameAt n (other n e).1)=some (.ref (as[(other n e).1]'(by omega)).2):=by rw[Ù];exact Xr knd<|Xt zV XT
   have vy:=(G.tup _ _ _ XT zV).2;have zW:row n (other n e).1=n[(other n e).1].2:=pI k8;refine Wb hu<|U 2<|bC GT hr<|ai<|U 3<|ai<|cL eX T.len DP<|ai<|i0 hu<|U 1<|bn cw<|U 3<|aF ⟨u,_,_,.str<|nameAt n (other n e).1,rfl,rfl,aU.of XS,rfl,?_⟩;refine⟨dl,.ref (as[(other n e).1]'(by omega)).2,rfl,by rw[<-ev];exact bf.k (k:=Sum.inr<|nameAt n (other n e).1)<|r _ _<|v _ _ XO,aA ⟨_,_,rfl,.inl<|av.of<|r _ _<|v _ _<|M _ _ vy,aA ⟨u,_,_,_,rfl,XS,?_,λt2 H4 L HU=>?_⟩⟩⟩
   ·rw[Aa,<-zW];omega
   rw[Aa,<-zW]at HU;have Ow:H4 t2=some (TN n<|go c n e):=by
    rw[HU];have:=wR (c:=c) FE;show some (Tn _ _)=some (Tn _ (((go c n e).2:Nat):Int));rw[go,this];rfl
   have zI:=L _ _<|r _ _ hb;refine⟨_,bO.t (k:=key n e) (L _ _<|r _ _ O) zI (bR<|by omega),⟨_,_,rfl⟩,_,ay,?_,dR ((v.trans r).trans L) I,λj k' x' e' hj kJ wD um=>?_⟩
   ·have:=jm B (key n e)<|.ref t2;omega
   ·subst um
    by_cases Ii:j=i
    ·subst Ii;rw[z]at kJ;have Ú:key n e=key n e':=BX Prod.fst<|Option.some.inj kJ;obtain⟨z1,F6⟩:=af.mp J;obtain⟨z2,F7⟩:=af.mp wD;have:=xi hN (dB F6) (dB F7) Ú;subst this;exact⟨t2,by rw[cR,BL rfl],by rwa[ax<|vj Ow<|L _ _<|r _ _ O]⟩
    ·obtain⟨u3,Û,Ü⟩:=all j _ x' e' (by omega) kJ wD rfl;refine⟨u3,?_,?_⟩
     ·rw[cR,C,Û];intro hk;have Y:(kvs.map (·.1))[j]?=some (key n e'):=by rw[Aj,kJ];rfl
      have h2:(kvs.map (·.1))[i]?=some (key n e'):=by rw[Aj,z,hk];rfl
      exact Ii<|q90 zU Y h2
     ·have q4:=L _ _<|r _ _ Ü;rwa[ax<|vj q4<|L _ _<|r _ _ O]
  ·rintro m A ⟨_,B,O,_,v,all⟩;refine q D B A (M.trans v) Ov O λe J=>?_;obtain⟨u,hv,_⟩:=val e J;obtain⟨i,hi⟩:∃i:Nat,(kvs.map (·.1))[i]?=some (key n e):=Bp<|Uq hv;rw[Aj,Ba]at hi;obtain⟨⟨k,x⟩,z,hk⟩:=hi;exact all i k x e (Ad.mp z).1 z J hk
def AG(F:bA K "left_steps" "left_steps" GU f a)(T:Txt mg)(b:aT P w K mg base 2 "other_ends" ["rows"] oK)(GT:aT P w K mg base 2 "turned_left" ["end","many"]<|kh λj=>j+1):aG P w K mg base bF 3 f a ["rows"] (kj 1):=XJ (.inl ⟨rfl,rfl,rfl⟩) F T b GT
def dA(F:bA K "right_steps" "right_steps" GV f a)(T:Txt mg)(b:aT P w K mg base 2 "other_ends" ["rows"] oK)(GT:aT P w K mg base 2 "turned_right" ["end","many"]<|kh λj=>j-1):aG P w K mg base bF 3 f a ["rows"] (kj (-1)):=XJ (.inr ⟨rfl,rfl,rfl⟩) F T b GT
def gM(n:bc)(H:Hp)(ts:List Addr)(a:List Nt.bi):Prop:=ts.length=a.length/\∀(j:Nat)t e,ts[j]?=some t->a[j]?=some e->H t=some (TN n e)
def gM.keep(h:gM n H ts a)(k:∀t p j,H t=some (Tn p j)->H' t=some (Tn p j)):gM n H' ts a:=⟨h.1,λj t e b c=>k _ _ _<|h.2 j t e b c⟩
def gM.same(h:gM n H ts a)(s:aj H H'):gM n H' ts a:=h.keep λ_ _ _ q=>s _ _ q
theorem gM.append(h:gM n H ts c)(g:gM n H us d):gM n H (ts++us) (c++d):=by
 refine⟨by rw[Ah,Ah,h.1,g.1],λj t e b a=>?_⟩;have f:=h.1
 by_cases i:j<ts.length
 ·rw[Aw i]at b;rw[Aw<|by omega]at a;exact h.2 j t e b a
 ·rw[Ay<|by omega]at b a;rw[<-f]at a;exact g.2 _ t e b a
theorem gM.two(f:H t=some (TN n a))(h:H u=some (TN n b)):gM n H [t,u] [a,b]:=⟨rfl,λj x e c d=>by
 match j with
 |0=>cases c;cases d;exact f
 |1=>cases c;cases d;exact h
 |j+2=>simp at c⟩
def xX(c:(n.map (·.1)).Nodup)(d:a∈ends n)(f:b∈ends n):decide (nameAt n a.1=nameAt n b.1/\(a.2:Int)=(b.2:Int))=decide (a=b):=by
 obtain⟨j,h⟩:=af.mp d;obtain⟨k,i⟩:=af.mp f;refine decide_eq_decide.mpr ⟨λ⟨p,q⟩=>xi c (dB h) (dB i) (by unfold key;rw[p,q]),λe=>by rw[e];exact⟨rfl,rfl⟩⟩
def Ox(h:H d=some (.lst xs)):qg K "list" (.ref d) H:=Or.inl ⟨rfl,xs,av.of h⟩
def bL(n:bc)(H:Hp)(d:Addr)(c:Int):Prop:=∃kvs,H d=some (.dT kvs)/\∀e∈ends n,∃u,az kvs (key n e)=some (.ref u)/\H u=some (TN n<|go c n e)
def bL.same(h:bL n H d c)(s:aj H H'):bL n H' d c:=let ⟨kvs,f,i⟩:=h;⟨kvs,s _ _ f,λe j=>let ⟨u,a,b⟩:=i e j;⟨u,a,s _ _ b⟩⟩
def bL.get(h:bL n H d c)(f:e∈ends n)(i:H t=some (TN n e)):∃u,bf H d (.ref t) (some<|.ref u)/\H u=some (TN n<|go c n e):=by
 obtain⟨kvs,j,k⟩:=h;obtain⟨u,a,b⟩:=k e f;exact⟨u,a▸(bf.t j i),b⟩
inductive vA(vs:List V)(H:Hp)(Q:VK)(_:XK):Prop
 |mk (dl dr t:Addr)(n:bc)(e:Nt.bi)(_:vs=[.ref dl,.ref dr,.ref t])(_:bL n H dl 1)(_:bL n H dr (-1))(_:(n.map (·.1)).Nodup)(_:ao n)(_:(ag n).length<=1000)(_:e∈ends n)(_:H t=some (TN n e))(_:∀l ts k H',aj H H'->H l=none->H' l=some (.lst<|ts.map V.ref)->gM n H' ts (wk n e k)->kU n e k->k<=(ends n).length->Q (.ref l) H')
abbrev PP:Ñ:=["lefts","rights","first","walker","end"]
def zX:ak PP ["lefts","rights","first"] (aW uO):=cg
def Oy(ts:List Addr)(a b:Addr):ts.map V.ref++[V.ref a,V.ref b]=(ts++[a]).map V.ref++[V.ref b]:=by rw[Ai,Ap];rfl
theorem x4b(F:bA K "walker_from" "walker_from" uO f fd)(T:Txt mg):aG P w K mg base bF 1 f fd ["lefts","rights","first"] vA:=by
 refine F.gc zX λb0 H vs Q E hr h=>?_;obtain⟨dl,I,t,n,e,rfl,hL,XU,hN,v,gY,x,J,q⟩:=h;have nd:=zX.nd;have sQ:=kQ n;have D:=hr.u1;obtain⟨k,k0,k1,k2⟩:=yL (λa y=>pK v y) (λa y b hb=>wW v y hb) x;obtain⟨o,g1,e1⟩:=hL.get x J;refine aX 3 nd<|eQ<|ai<|U 2<|ai<|i0 D<|U 0<|U 2 ⟨dl,.ref o,rfl,g1,aA ⟨Z2,λl L=>?_⟩⟩;have s:=aM L<|.lst [.ref t,.ref o];have M:(upd H l<|.lst [.ref t,.ref o]) l=some (.lst<|[t,o].map V.ref):=ay;generalize upd H l (.lst [.ref t,.ref o])=H1 at s M;obtain⟨u2,g2,e2⟩:=(XU.same s).get (fw v x)<|s _ _ e1;refine aX 4 nd<|i0 D<|U 1<|bn dZ<|U 3<|ui tW<|aF ⟨1,rfl,l,_,_,.ref o,rfl,rfl,av.of M,rfl,I,.ref u2,rfl,g2,?_⟩;refine uC (λm σ d=>E3 λj ts u=>A9 (m=k-j) (0<j) (j<=k) (aj H d) (d l=some (.lst<|ts.map V.ref)) (gM n d ts<|wk n e j) (d u=some (TN n<|it (two n) j e)) (∀i,0<i->i<j->it (two n) i e≠e)<|σ=[some<|.ref dl,some<|.ref I,some<|.ref t,some<|.ref l,some<|.ref u])
  (m0:=k-1) ⟨1,[t,o],u2,rfl,Fx,k0,s,M,gM.two (s _ _ J)<|s _ _ e1,e2,λi h1 h2=>by omega,rfl⟩ ?_
 rintro m σ d ⟨j,ts,u,rfl,j0,j1,G,A,r,N,hf,rfl⟩;have O:=lR (λa y=>pK v y) x j;refine cA (yI hr.j6) (U 4<|U 2 ⟨1,_,by decide,x2e N<|G _ _ J,_,rfl,?_⟩);rw[xX hN O x];have tl:=r.1;rw[uK]at tl
 by_cases c:it (two n) j e=e
 ·rw[BW c];exact bU<|bQ<|U 3<|q l ts j d G L A r ⟨j0,c,hf⟩<|by lia
 ·rw[BR c];have jk:j<k:=by
   obtain h|h:=Dv j k
   ·exact h
   ·have:j=k:=by lia
    subst this;cases c k2
  obtain⟨v1,g3,e3⟩:=(hL.same G).get O N;refine bK<|ik<|yJ DG PySem.F.slot_list_extend PySem.F.type_list_extend my<|U 3 ⟨Ox A,eQ<|ai<|U 4<|ai<|i0 D<|U 0<|U 4 ⟨dl,.ref v1,rfl,g3,aA ⟨Z2,λp hp=>?_⟩⟩⟩;have Y:=aM hp<|.lst [.ref u,.ref v1];have Ö:l≠p:=bz A hp;refine⟨l,p,ts.map V.ref,[.ref u,.ref v1],rfl,rfl,Y _ _ A,ay,wE (by rw[Aa];show _+2<=100000;lia),?_⟩;have OA:aj H (upd (upd d p<|.lst [.ref u,.ref v1]) l<|.lst<|ts.map V.ref++[.ref u,.ref v1]):=dR (G.trans Y) L;have OB:(upd (upd d p<|.lst [.ref u,.ref v1]) l<|.lst<|ts.map V.ref++[.ref u,.ref v1]) l=some (.lst<|(ts++[u,v1]).map V.ref):=by rw[ay,Ai];rfl
  have B:∀b p' j',d b=some (Tn p' j')->(upd (upd d p<|.lst [.ref u,.ref v1]) l<|.lst<|ts.map V.ref++[.ref u,.ref v1]) b=some (Tn p' j'):=λb p' j' h=>by
   rw[ax<|cm h A λz=>nomatch z];exact Y _ _ h
  generalize upd (upd d p<|.lst [.ref u,.ref v1]) l (.lst<|ts.map V.ref++[.ref u,.ref v1])=H3 at OA OB B;obtain⟨v2,g4,e4⟩:=(XU.same OA).get (fw v O)<|B _ _ _ e3;refine aX 4 nd<|i0 D<|U 1<|bn dZ<|U 3<|ui tW<|aF ⟨1,rfl,l,_,_,.ref v1,rfl,rfl,av.of OB,?_,I,.ref v2,rfl,g4,?_⟩
  ·rw[Ai];show gS (ts.map V.ref++[V.ref u,V.ref v1]) (-1)=_;rw[Oy];exact q3k _ _
  refine a8 ⟨k-(j+1),by lia,j+1,ts++[u,v1],v2,rfl,Gu _,jk,OA,OB,(r.keep B).append<|gM.two (B _ _ _ N)<|B _ _ _ e3,e4,λi h1 h2=>?_,rfl⟩
  by_cases gV:i=j
  ·subst gV;exact c
  ·exact hf i h1<|by lia
open bG
theorem XW(f:α->c):∀xs:List α,ah (xs.map f)=(ah xs).map f
 |[]=>rfl
 |[a]=>rfl
 |a :: b :: r=>by
  show f a :: ah (r.map f)=f a :: (ah r).map f;rw[XW f r]
def gM.ah(h:gM n H ts c):gM n H (L2.ah ts) (L2.ah c):=by
 refine⟨by rw[yW,yW,h.1],λj t e a b=>?_⟩;rw[uJ]at a b;exact h.2 _ t e a b
def sW{H:Hp}(h:H a=some o)(g:H d=some (bu P w d zs))(b:∀c,o ≠ .ext c):a≠d:=λe=>by
 rw[e,g]at h;exact b _ (Option.some.inj h).symm
structure mS(n:bc)(H:Hp)(L:Addr)(ls:List Addr)(ws:List<|List Nt.bi):Prop where
 lst:H L=some (.lst<|ls.map V.ref)
 len:ls.length=ws.length
 eZ:ls.Nodup
 out:L∉ls
 at':∀(j:Nat)l w,ls[j]?=some l->ws[j]?=some w->∃ts,H l=some (.lst<|ts.map V.ref)/\gM n H ts w
def mS.same(h:mS n H L c ws)(s:aj H H'):mS n H' L c ws:=
 ⟨s _ _ h.lst,h.len,h.eZ,h.out,λj l w d e=>let ⟨ts,a,b⟩:=h.at' j l w d e;⟨ts,s _ _ a,b.same s⟩⟩
def mS.keep(h:mS n H L c ws)(e:H' L=H L)(f:∀l∈c,∀o,H l=some o->H' l=some o)(i:∀t p j,H t=some (Tn p j)->H' t=some (Tn p j)):mS n H' L c ws:=
 ⟨e▸h.lst,h.len,h.eZ,h.out,λj l w d k=>let ⟨ts,a,b⟩:=h.at' j l w d k;⟨ts,f l (An d) _ a,b.keep i⟩⟩
def mS.snoc(h:mS n H L c ws)(k:H' L=some (.lst<|c.map V.ref++[.ref l]))(m:∀l∈c,∀o,H l=some o->H' l=some o)(q:∀t p j,H t=some (Tn p j)->H' t=some (Tn p j))
  (r:H' l=some (.lst<|ts.map V.ref)) (s:gM n H' ts v) (u:l∉c) (w:L≠l):mS n H' L (c++[l]) (ws++[v]):=by
 refine⟨by rw[k,Ai];rfl,by rw[Ah,Ah,h.len];rfl,pC h.eZ u,λd=>?_,λj a x b e=>?_⟩
 ·obtain d|d:=Al.mp d
  ·exact h.out d
  ·exact w<|Ae.mp d
 ·have f:=h.len
  by_cases y:j<c.length
  ·rw[Aw y]at b;rw[Aw<|by lia]at e;obtain⟨us,z,A⟩:=h.at' j a x b e;exact⟨us,m a (An b) _ z,A.keep q⟩
  ·rw[Ay<|by lia]at b e;have i:j-c.length=0:=by
    have:=(Ad.mp b).1;simp at this;lia
   rw[i]at b;rw[<-f,i]at e;cases b;cases e;exact⟨ts,r,s⟩
inductive oQ(vs:List V)(H:Hp)(Q:VK)(_:XK):Prop
 |mk (R:Addr)(as:Ï)(n:bc)(_:vs=[.ref R])(_:aq H R as n)(_:(n.map (·.1)).Nodup)(_:ao n)(_:n.length<=1000)(_:(ag n).length<=400)(_:∀(L:Addr) (ls:List Addr) (H':Hp),aj H H'->H L=none->mS n H' L ls (dE n (ends n) [])->(∀l∈ls,H l=none)->Q (.ref L) H')
def q6g{i:Nat}(h:(bg n)[i]?=some p):(ends n)[i]?=some p.2:=by rw[ends,Aj,h];rfl
abbrev nP:Ñ:=["rows","lefts","rights","names","told","walkers","first","walker","end"]
def zZ:ak nP ["rows"] (aW uN):=cg
set_option tactic.hygienic true in
theorem i1(F:bA K "walkers_of" "walkers_of" uN f fd)(T:Txt mg)
  (GL:aT P w K mg base 3 "left_steps" ["rows"]<|kj 1)
  (GR:aT P w K mg base 3 "right_steps" ["rows"]<|kj (-1))
  (GN:aT P w K mg base 3 "ties_by_end" ["rows"] qV)
  (GO:aT P w K mg base 3 "ends_in_order" ["rows"] oP)
  (GW:aT P w K mg base 3 "walker_from" ["lefts","rights","first"] vA):
  aG P w K mg base bF 4 f fd ["rows"] oQ:=by
 refine F.gc zZ λb0 H vs Q E hr h=>?_;obtain⟨R,as,n,rfl,hR,hN,hT,hn,gY,q⟩:=h;have nd:=zZ.nd;have sQ:=kQ n;have hu:=hr.u1;refine aX 1 nd (bC GL hr<|ai<|U 0<|aA ⟨R,as,n,rfl,hR,hN,hT,hn,by lia,λdl kl H1 s1 n1 e1 v1=>?_⟩);refine aX 2 nd (bC GR hr<|ai<|U 0<|aA ⟨R,as,n,rfl,hR.same s1,hN,hT,hn,by lia,λdr kr H2 s2 n2 e2 v2=>?_⟩);refine aX 3 nd (bC GN hr<|ai<|U 0<|aA ⟨R,as,n,rfl,hR.same<|s1.trans s2,hN,hn,by lia,λdn kn H3 s3 n3 e3 v3=>?_⟩);refine aX 4 nd<|q8n T.uT λD hD=>?_;refine aX 5 nd<|eQ<|aA ⟨Z0,λL hL=>?_⟩;have Ø:=bL.same ⟨kr,e2,v2⟩ s3;have vB:=(s1.trans s2).trans s3;have Iu:L≠D:=λe=>by rw[e,ay]at hL;cases hL
 have Ù:H3 L=none:=by rwa[ax Iu]at hL
 have Ov:=fI vB hD;have Ib:=fI vB Ù;have sB:aj H3 (upd (upd H3 D<|bu P w D []) L<|.lst []):=(aM hD _).trans<|aM hL _;have XY:(upd (upd H3 D<|bu P w D []) L<|.lst []) D=some (bu P w D []):=by rw[ax<|CG Iu,ay]
 have OC:(upd (upd H3 D<|bu P w D []) L<|.lst []) L=some (.lst []):=ay;have OG:=vB.trans sB;have z6:=(bL.same ⟨kl,e1,v1⟩<|s2.trans s3).same sB;have z7:=Ø.same sB;have XZ:=sB _ _ e3;show fg _ _ _ [some<|.ref R,some<|.ref dl,some<|.ref dr,some<|.ref dn,some<|.ref D,some<|.ref L,none,none,none] (upd (upd H3 D<|bu P w D []) L<|.lst []);generalize upd (upd H3 D<|bu P w D []) L (.lst [])=HB at sB XY OC OG z6 z7 XZ;refine jH (bC GO hr<|ai<|U 0<|aA ⟨R,as,n,rfl,hR.same OG,hn,by lia,λv us I s5 n5 e5 OH=>⟨v,rfl,⟨_,av.of e5⟩,?_⟩⟩);have X0:=OG.trans s5;have pS:=s5 _ _ XY;have Iv:=s5 _ _ OC;have OL:=z7.same s5;have OM:=s5 _ _ XZ;have Ú:v≠L:=λe=>by rw[e,OC]at n5;cases n5
 have vC:us.length=(ends n).length:=by rw[OH.1];rw[ends,Aa]
 refine jI (xs:=us.map V.ref) (λi Y J=>E7 λ(zs A:Ñ)(B:List Addr)(G:List<|List Nt.bi)(u1 u2 u3:Option V)=>pq (∀b o,b≠D->b≠L->I b=some o->J b=some o) (J D=some (bu P w D zs)) (zs.Nodup) (∀z∈zs,z∈ag n) (∀z,z∈zs↔z∈A) (mS n J L B G) (∀l∈B,I l=none) (B.length<=i) (dE n (ends n) []=G++dE n ((ends n).drop i) A)<|Y=[some<|.ref R,some<|.ref dl,some<|.ref dr,some<|.ref dn,some<|.ref D,some<|.ref L,u1,u2,u3])
  ⟨[],[],[],[],_,_,_,λb o _ _ h=>h,pS,Co,λz h=>by simp at h,λz=>by simp,⟨Iv,rfl,Co,by simp,λj l w h=>by simp at h⟩,λl h=>by simp at h,Aq _,rfl,rfl⟩ ?_ ?_ ?_
 ·rintro i Y J _ ⟨_,_,_,_,_,_,_,N,_⟩;exact av.of<|N _ _ (sW e5 pS λφ z=>nomatch z) Ú e5
 ·rintro i x Y J hx ⟨zs,A,B,G,u1,u2,u3,N,eD,zn,zt,zm,hW,hf,wF,z8,rfl⟩;have hi:i<us.length:=by
   have:=(Ad.mp hx).1;rwa[Aa]at this
  rw[Aj,Ab hi]at hx;cases hx;have OO:i<(bg n).length:=by have:=OH.1;omega
  have Iw:I us[i]=some (TN n (bg n)[i].2):=OH.2 i us[i] (bg n)[i] (Ab hi)<|Ab OO;have oR:=q6g<|Ab OO;have lY:aH n (bg n)[i].2=some (bg n)[i].1:=aY.mp (by have:=Bq OO;exact this);generalize (bg n)[i]=pr at Iw oR lY;obtain⟨z,e⟩:=pr;have Iw:I us[i]=some (TN n e):=Iw;have lY:aH n e=some z:=lY;have oR:(ends n)[i]?=some e:=oR;have he:e∈ends n:=An oR;have sX:(ends n).drop i=e :: (ends n).drop (i+1):=by
   have X1:i<(ends n).length:=by omega
   rw[Gj X1]
   congr 1
   have:=Ab X1;rw[oR]at this;exact(Option.some.inj this).symm
  have X2:∀{b p j},I b=some (Tn p j)->J b=some (Tn p j):=λ{b p j}h=>N _ _ (sW h pS λφ z=>nomatch z) (cm h Iv λz=>nomatch z) h;have g9:=X2 Iw;have OQ:J dn=some (.dT kn):=N _ _ (sW OM pS λφ z=>nomatch z) (cm OM Iv λz=>nomatch z) OM;have cU:∀{d c},bL n I d c->bL n J d c:=λ{d c}⟨kvs,a,b⟩=>⟨kvs,N _ _ (sW a pS λφ z=>nomatch z) (cm a Iv λz=>nomatch z) a,λe he=>let ⟨u,p,r⟩:=b e he;⟨u,p,X2 r⟩⟩;have Û:bf J dn (.ref us[i]) (some<|.str z):=by rw[<-v3 e z lY];exact bf.t (k:=key n e) OQ g9
  apply a9 6 nd;refine fk<|cA kA<|i0 hu<|U 3<|U 6 ⟨dn,.str z,rfl,Û,U 4 ⟨z,D,zs,rfl,rfl,eD,_,rfl,?_⟩⟩;refine jh (λc=>?_) λc=>?_
  ·have hz:z∉zs:=BZ c;have iJ:aw n e∉A:=by rw[cB lY];exact λh=>hz<|(zm z).mpr h
   refine aX 7 nd (bC GW hr<|ai<|U 1<|ai<|U 2<|ai<|U 6<|aA ⟨dl,dr,us[i],n,e,rfl,cU (z6.same s5),cU OL,hN,hT,by lia,he,g9,λl ts k H6 s6 n6 e6 Ü pr hk=>?_⟩);have Ý:walker n e=wk n e k:=by rw[walker,wX pr]
   have OT:=s6 _ _ hW.lst;have OU:L≠l:=bz hW.lst n6;have xg:D≠l:=bz eD n6;refine ik (mH<|U 5 ⟨L,rfl,⟨_,OT⟩,U 7 ⟨_,OT,by rw[Aa];exact bR (by omega),?_⟩⟩);have k7:∀b o,b≠L->H6 b=some o->(upd H6 L<|.lst<|B.map V.ref++[.ref l]) b=some o:=λb o hb h=>by rwa[ax hb]
   have X3:(upd H6 L<|.lst<|B.map V.ref++[.ref l]) L=some (.lst<|B.map V.ref++[.ref l]):=ay;generalize upd H6 L (.lst<|B.map V.ref++[.ref l])=H7 at k7 X3;have X4:∀t p j,H6 t=some (Tn p j)->H7 t=some (Tn p j):=λt p j h=>k7 _ _ (cm h OT λz=>nomatch z) h;have e7:=k7 _ _ (CG OU) e6;have Þ:=k7 _ _ (CG Iu) (s6 _ _ eD);have X5:=Ü.keep X4;have OV:l∉B:=λhm=>by
    obtain⟨j,hj⟩:=Bp hm;have Ö:=hW.len;have OW:j<G.length:=by have:=(Ad.mp hj).1;omega
    obtain⟨_,a,_⟩:=hW.at' j l G[j] hj<|Ab OW;rw[n6]at a;cases a
   have ß:mS n H7 L (B++[l]) (G++[wk n e k]):=hW.snoc X3 (λa ha o ho=>k7 _ _ (λq=>hW.out<|q ▸ ha)<|s6 _ _ ho) (λt p j h=>X4 _ _ _<|s6 _ _ h) e7 X5 OV OU;have ç:I l=none:=by
    cases q5:I l with
    |none=>rfl
    |some o=>rw[N _ _ (CG xg) (CG OU) q5]at n6;cases n6
   have à:∀a∈B++[l],I a=none:=λa ha=>by
    obtain ha|ha:=Al.mp ha
    ·exact hf a ha
    ·rwa[Ae.mp ha]
   have zE:∀b o,b≠D->b≠L->I b=some o->H7 b=some o:=λb o h1 h2 h=>k7 _ _ h2<|s6 _ _<|N b o h1 h2 h;have á:(B++[l]).length<=i+1:=by rw[Ah];show B.length+1<=_;omega
   have OX:dE n (ends n) []=(G++[wk n e k])++dE n ((ends n).drop<|i+1) (A++(ah<|wk n e k).map (aw n)):=by
    rw[z8,sX];show G++(if aw n e∈A then _ else _)=_;rw[C iJ,Ý,Ap];rfl
   have lZ:=MR hT he k;refine jH<|q3p<|U 7 ⟨l,_,rfl,av.of e7,λp hp=>⟨p,rfl,⟨_,av.of ay⟩,?_⟩⟩;rw[XW];have s8:=aM hp<|.lst<|(ah ts).map V.ref;have e8:(upd H7 p<|.lst<|(ah ts).map V.ref) p=some (.lst<|(ah ts).map V.ref):=ay;have sY:=s8 _ _ Þ;have xk:=ß.same s8;have Iy:=(X5.same s8).ah;have X6:∀b o,b≠D->b≠L->I b=some o->(upd H7 p<|.lst<|(ah ts).map V.ref) b=some o:=λb o h1 h2 h=>s8 _ _<|zE b o h1 h2 h;have OY:=s8 _ _ (k7 _ _ (cm OQ hW.lst λz=>nomatch z)<|s6 _ _ OQ);generalize upd H7 p (.lst<|(ah ts).map V.ref)=H8 at s8 e8 sY xk Iy X6 OY;have OZ:p≠D:=sW e8 sY λφ z=>nomatch z;refine jI (xs:=(ah ts).map V.ref) (λm Y H9=>E2 λ(M:Ñ)(u3:Option V)=>A6 (∀b o,b≠D->H8 b=some o->H9 b=some o) (H9 D=some (bu P w D M)) (M.Nodup) (∀z∈M,z∈ag n) (∀z,z∈M↔z∈A++((ah<|wk n e k).take m).map (aw n))<|Y=[some<|.ref R,some<|.ref dl,some<|.ref dr,some<|.ref dn,some<|.ref D,some<|.ref L,some<|.ref us[i],some<|.ref l,u3]) ⟨zs,_,λb o _ h=>h,sY,zn,zt,λz=>by rw[zm z];simp,rfl⟩ ?_ ?_ ?_
   ·rintro m Y H9 _ ⟨_,_,O,_⟩;exact av.of<|O _ _ OZ e8
   ·rintro m x Y H9 hx ⟨M,u3,O,Iz,z9,IA,IB,rfl⟩;have hm:m<(ah ts).length:=by
     have:=(Ad.mp hx).1;rwa[Aa]at this
    have l8:=Iy.1;rw[Aj,Ab hm]at hx;cases hx;have jS:m<(ah<|wk n e k).length:=by omega
    have O0:=Iy.2 m _ _ (Ab hm)<|Ab jS;have â:(ah<|wk n e k)[m]∈wk n e k:=by
     have h1:(ah<|wk n e k)[m]?=some (ah<|wk n e k)[m]:=Ab jS;rw[uJ]at h1;exact An h1
    have HR:=lZ _ â;obtain⟨y,hy⟩:=af.mp HR;have vD:(ah<|wk n e k).take (m+1)=(ah<|wk n e k).take m++[(ah<|wk n e k)[m]]:=by rw[Ck,Ab jS];rfl
    generalize (ah<|wk n e k)[m]=c at O0 HR hy vD;have ã:H9 (ah ts)[m]=some (TN n c):=O _ _ (sW O0 sY λφ z=>nomatch z) O0;have ä:H9 dn=some (.dT kn):=O _ _ (sW OY sY λφ z=>nomatch z) OY;have å:bf H9 dn (.ref (ah ts)[m]) (some<|.str y):=by rw[<-v3 c y hy];exact bf.t (k:=key n c) ä ã
    have zl:M.length<=(ag n).length:=aK z9 IA;refine a9 8 nd ?_;refine ik<|q6z<|U 4 ⟨D,rfl,⟨_,Iz⟩,i0 hu<|U 3<|U 8 ⟨dn,.str y,rfl,å,y,M,rfl,Iz,by omega,a8 ⟨added M y,_,λb o hb h=>?_,ay,?_,λz hz=>?_,λz=>?_,rfl⟩⟩⟩
    ·rw[ax hb];exact O b o hb h
    ·unfold added
     split
     ·exact z9
     ·rename_i æ;exact pC z9 æ
    ·obtain h|h:=(Md M y z).mp hz
     ·exact IA z h
     ·rw[h];exact dP hy
    ·rw[Md,IB z,vD,Ai,<-Ap,Al (s:=A++_)];show _\/z=y↔_\/z∈[aw n c];rw[cB hy,Ae]
   ·rintro Y H9 ⟨M,u3,O,Iz,z9,IA,IB,rfl⟩;have l8:=Iy.1;rw[Aa,l8,Bn]at IB;refine a8<|a8 ⟨M,A++(ah<|wk n e k).map (aw n),B++[l],G++[wk n e k],_,_,_,λb o h1 h2 h=>O _ _ h1<|X6 b o h1 h2 h,Iz,z9,IA,IB,?_,à,á,OX,rfl⟩;refine xk.keep ?_ (λa ha o ho=>O _ _ ?_ ho) λt p j h=>O _ _ (sW h sY λφ z=>nomatch z) h
    ·rw[xk.lst];exact O _ _ Iu xk.lst
    ·intro q;rw[q,sY]at ho;obtain⟨j,hj⟩:=Bp ha;have Ö:=xk.len;have OW:j<(G++[wk n e k]).length:=by have:=(Ad.mp hj).1;omega
     obtain⟨_,b,_⟩:=xk.at' j a _ hj<|Ab OW;rw[q,sY]at b;cases b
  ·refine a8 (a8 ⟨zs,A,B,G,_,_,_,N,eD,zn,zt,zm,hW,hf,by omega,?_,rfl⟩);rw[z8,sX];show G++(if aw n e∈A then _ else _)=_;rw[BL<|by rw[cB lY];exact(zm z).mp (Classical.not_not.mp<|JC<|Fo.mpr c)]
 ·rintro Y J ⟨zs,A,B,G,u1,u2,u3,N,eD,zn,zt,zm,hW,hf,wF,z8,rfl⟩;rw[Aa,vC,List.drop_length]at z8;have O1:dE n (ends n) []=G:=by rw[z8];show G++[]=G;rw[Bd]
  refine bQ (U 5<|q L B J (λb o h=>?_) Ib (by rwa[O1]) λl hl=>fI X0<|hf l hl);exact N _ _ (bz h Ov) (bz h Ib)<|X0 _ _ h
end
end G8
namespace sZ
open PySem PySem.W PyProof.Rows
structure gn(lt:Nat->Nat->Bool)(cmp:Nat->Nat->(Bool->Shared->Prop)->Shared->Prop)(J:Shared->Prop)(n:Nat):Prop where
 ask:∀i j C s,i<n->j<n->i≠j->J s->(∀s',J s'->C (lt i j) s')->cmp i j C s
 tot:∀i j,i<n->j<n->i≠j->lt i j=true\/lt j i=true
 asy:∀i j,lt i j=true->lt j i=false
 IC:∀i j k,lt i j=true->lt j k=true->lt i k=true
def g(p:Array Nat)(i:Nat):Nat:=p.getD i 0
structure Pm(p:Array Nat)(n:Nat):Prop where
 size:p.size=n
 lt:∀i,i<n->g p i<n
 inj:∀i j,i<n->j<n->g p i=g p j->i=j
def l7(h:p[i]?=some v):g p i=v:=by
 rw[g,Ej,h];rfl
def oS(h:p[i]?=q[j]?):g p i=g q j:=by
 unfold g;rw[Ej,Ej,h]
def X7(n:Nat):Pm (List.toArray<|range n) n:=by
 have e:∀i,i<n->g (List.toArray<|range n) i=i:=λi a=>l7 (by simp[a]);exact⟨by simp,λi a=>by rwa[e i a],λi j a b h=>by rwa[e i a,e j b]at h⟩
def Up(lt:Nat->Nat->Bool)(p:Array Nat)(m:Nat):Prop:=∀i j,i<j->j<m->lt (g p i) (g p j)=true
def Dn(lt:Nat->Nat->Bool)(p:Array Nat)(m:Nat):Prop:=∀i j,i<j->j<m->lt (g p j) (g p i)=true
def mz(p:Array Nat):Up lt p 1:=λi j a b=>by lia
def lQ(A:gn lt cmp J n)(e:1<=m)(h:Up lt p m)(a:lt (g p<|m-1) (g p m)=true):Up lt p (m+1):=λi j b f=>by
 by_cases c:j<m
 ·exact h i j b c
 ·have:j=m:=by lia
  subst this
  by_cases d:i=j-1
  ·rwa[d]
  ·exact A.IC _ _ _ (h i (j-1) (by lia)<|by lia) a
def q8s(A:gn lt cmp J n)(e:1<=m)(h:Dn lt p m)(a:lt (g p m) (g p<|m-1)=true):Dn lt p (m+1):=λi j b f=>by
 by_cases c:j<m
 ·exact h i j b c
 ·have:j=m:=by lia
  subst this
  by_cases d:i=j-1
  ·rwa[d]
  ·exact A.IC _ _ _ a<|h i (j-1) (by lia)<|by lia
def O2(A:gn lt cmp J n)(a:i<n)(b:j<n)(c:i≠j)(h:lt i j=false):lt j i=true:=by
 obtain q|q:=A.tot i j a b c
 ·rw[h]at q;cases q
 ·exact q
section
variable{lt:Nat->Nat->Bool}{cmp:Nat->Nat->(Bool->Shared->Prop)->Shared->Prop}{J:Shared->Prop}{n:Nat}
theorem O3(A:gn lt cmp J n)(P:Pm p n):∀f m Q s,1<=m->m+f<=n->Up lt p m->J s ->
  (∀k s',J s'->m<=k->k<=m+f->Up lt p k->(k<m+f->lt (g p k) (g p<|k-1)=true)->Q k s')->(kas_asc p f m).kasWp cmp Q s
 |0,m,Q,s,l,r,i,j,k=>k m s j (Aq _) (Aq _) i λh=>by lia
 |f+1,m,Q,s,l,r,i,j,k=>by
  have o:g p m≠g p (m-1):=λh=>by have:=P.inj m (m-1) (by lia) (by lia) h;lia
  refine A.ask _ _ _ _ (P.lt m<|by lia) (P.lt (m-1)<|by lia) o j λs' q=>?_;cases e:lt (p.getD m 0) (p.getD (m-1) 0) with
  |true=>exact k m s' q (Aq _) (by lia) i λ_=>e
  |false=>
   exact O3 A P f (m+1) Q s' (by omega) (by omega) (lQ A l i (O2 A (P.lt m<|by omega) (P.lt (m-1)<|by omega) o e)) q λt u v a b c d=>k t u v (by lia) (by lia) c λh=>d<|by lia
end
section
variable{lt:Nat->Nat->Bool}{cmp:Nat->Nat->(Bool->Shared->Prop)->Shared->Prop}{J:Shared->Prop}{n:Nat}
theorem X8(A:gn lt cmp J n)(P:Pm p n):∀f m Q s,1<=m->m+f<=n->Dn lt p m->J s ->
  (∀k s',J s'->m<=k->k<=m+f->Dn lt p k->Q (p,k,0) s')->(kas_desc f p m 0).kasWp cmp Q s
 |0,m,Q,s,l,q,hd,d,k=>k m s d (Aq _) (Aq _) hd
 |f+1,m,Q,s,l,q,hd,d,k=>by
  have i:g p m≠g p (m-1):=λh=>by have:=P.inj m (m-1) (by lia) (by lia) h;lia
  refine A.ask _ _ _ _ (P.lt m<|by lia) (P.lt (m-1)<|by lia) i d λs' o=>?_;cases e:lt (p.getD m 0) (p.getD (m-1) 0) with
  |true=>
   show(if true=true then(if 0>0 then _ else kas_desc f p (m+1) 0)else _:KasT _).kasWp cmp Q s';rw[BL rfl,C<|by lia];exact X8 A P f (m+1) Q s' (by lia) (by lia) (q8s A l hd e) o λr j t a b c=>k r j t (by lia) (by lia) c
  |false=>
   refine A.ask _ _ _ _ (P.lt (m-1)<|by lia) (P.lt m<|by lia) (CG i) o λj u=>?_;have v:lt (p.getD (m-1) 0) (p.getD m 0)=true:=O2 A (P.lt m<|by omega) (P.lt (m-1)<|by omega) i e;rw[v];exact k m j u (Aq _) (by lia) hd
end
def AF(h:m<=p.size):g (kas_rev p 0 m) k=if k<m then g p (m-1-k)else g p k:=by
 have e:=getElem?_mirror_all (i:=0) h k
 by_cases c:k<m
 ·rw[BL c];rw[BL ⟨By _,c⟩]at e;refine oS<|e.trans ?_
  congr 1
  lia
 ·rw[C c];rw[C λq=>c q.2]at e;exact oS e
def X9(P:Pm p n)(h:m<=n):Pm (kas_rev p 0 m) n:=by
 have b:m<=p.size:=by rwa[P.size]
 refine⟨by rw[kas_rev_size];exact P.size,λi a=>?_,λi j a e q=>?_⟩
 ·rw[AF b]
  split
  ·exact P.lt _<|by lia
  ·exact P.lt _ a
 ·rw[AF b,AF b]at q
  by_cases c:i<m<;>by_cases d:j<m
  ·rw[BL c,BL d]at q;have:=P.inj _ _ (by lia) (by lia) q;lia
  ·rw[BL c,C d]at q;have:=P.inj _ _ (by lia) e q;lia
  ·rw[C c,BL d]at q;have:=P.inj _ _ a (by lia) q;lia
  ·rw[C c,C d]at q;exact P.inj _ _ a e q
def x1g(P:Pm p n)(h:m<=n)(hd:Dn lt p m):Up lt (kas_rev p 0 m) m:=λi j c b=>by
 have a:m<=p.size:=by rwa[P.size]
 rw[AF a,AF a,BL (by lia),BL b];exact hd (m-1-j) (m-1-i) (by lia)<|by lia
def q27(A:gn lt cmp J n)(P:Pm p n)(e:1<=m)(d:m<=n)(hd:Dn lt p m)(f:J s)
  (k:∀r q s',J s'->1<=r->r<=n->Pm q n->Up lt q r->Q (r,q) s'):(kas_tail3 m n p).kasWp cmp Q s:=by
 rw[kas_tail3,JZ];exact O3 A (X9 P d) (n-m) m _ s e (by lia) (x1g P d hd) f λr s' j a b c _=>k r _ s' j (by lia) (by lia) (X9 P d) c
theorem rx(A:gn lt cmp J n)(P:Pm p n)(x:2<=n)(u:J s)
  (k:∀r q s',J s'->1<=r->r<=n->Pm q n->Up lt q r->Q (r,q) s'):(kas_count n p).kasWp cmp Q s:=by
 rw[kas_count,JZ];refine O3 A P (n-1) 1 _ s (Aq _) (by lia) (mz p) u λm s' a t y b v=>?_
 by_cases c:m=n
 ·subst c;rw[BL<|by simp];exact k m p s' a t (Aq _) P b
 ·rw[C<|by simpa using c]
  by_cases d:m>1
  ·rw[BL d];have w:g p 0≠g p (m-1):=λh=>by have:=P.inj 0 (m-1) (by lia) (by lia) h;lia
   refine A.ask _ _ _ _ (P.lt 0<|by lia) (P.lt (m-1)<|by lia) w a λf l=>?_;have e:lt (p.getD 0 0) (p.getD (m-1) 0)=true:=b 0 (m-1) (by omega) (by omega);rw[e];exact k m p f l t (by lia) P b
  ·rw[C d];have em:m=1:=by lia
   subst em;rw[kas_descPart,JZ];have z:=v (by lia);have o:Dn lt p 2:=λi j B D=>by
    have:i=0/\j=1:=by lia
    rwa[this.1,this.2]
   refine X8 A P (n-(1+1)) (1+1) _ s' (by lia) (by lia) o a λr f l E G hd=>?_;show(if(0:Nat)>0 then _ else kas_tail3 r n p:KasT _).kasWp cmp Q f;rw[C<|by lia];exact q27 A P (by lia) (by lia) hd l k
section
variable{lt:Nat->Nat->Bool}{cmp:Nat->Nat->(Bool->Shared->Prop)->Shared->Prop}{J:Shared->Prop}{n:Nat}
theorem O4(A:gn lt cmp J n)(P:Pm p n)(a:k<n)(b:Up lt p k):∀f l r Q s,r<=k->l<=r->r-l<=f->J s->(∀i,i<l->lt (g p i) (g p k)=true)->(∀i,r<=i->i<k->lt (g p k) (g p i)=true) ->
  (∀m s',J s'->m<=k->(∀i,i<m->lt (g p i) (g p k)=true)->(∀i,m<=i->i<k->lt (g p k) (g p i)=true)->Q m s')->(kas_place p k f l r).kasWp cmp Q s
 |0,l,r,Q,s,w,z,B,j,o,t,q=>q l s j (by lia) o λi u=>t i<|by lia
 |f+1,l,r,Q,s,w,z,B,j,o,t,q=>by
  unfold kas_place
  by_cases c:l>=r
  ·rw[BL c];exact q l s j (by lia) o λi u=>t i<|by lia
  ·rw[C c];have v:(l+r)/2<k:=by lia
   have x:g p k≠g p ((l+r)/2):=λh=>by have:=P.inj k _ a (by lia) h;lia
   refine A.ask _ _ _ _ (P.lt k a) (P.lt _<|by lia) x j λs' y=>?_;cases e:lt (p.getD k 0) (p.getD ((l+r)/2) 0) with
   |true=>
    show(kas_place p k f l<|(l+r)/2).kasWp cmp Q s';refine O4 A P a b f l ((l+r)/2) Q s' (by lia) (by lia) (by lia) y o (λi u D=>?_) q
    by_cases d:i=(l+r)/2
    ·rwa[d]
    ·exact A.IC _ _ _ e<|b _ _ (by lia) D
   |false=>
    show(kas_place p k f ((l+r)/2+1) r).kasWp cmp Q s';have E:=O2 A (P.lt k a) (P.lt _<|by omega) x e;refine O4 A P a b f ((l+r)/2+1) r Q s' w (by omega) (by omega) y (λi u=>?_) t q
    by_cases d:i=(l+r)/2
    ·rwa[d]
    ·exact A.IC _ _ _ (b _ _ (by omega) v) E
end
def AH(a:k<p.size)(b:m<=k):g (bubble p k<|k-m) i=if i=m then g p k else if m<i/\i<=k then g p (i-1)else g p i:=by
 have e:=getElem?_bubble a (k-m) (by lia) i;rw[show k-(k-m)=m by lia]at e
 by_cases c:i=m
 ·rw[BL c];rw[BL c]at e;exact oS e
 ·rw[C c];rw[C c]at e
  by_cases d:m<i/\i<=k
  ·rw[BL d];rw[BL d]at e;exact oS e
  ·rw[C d];rw[C d]at e;exact oS e
def x2n(P:Pm p n)(A:k<n)(u:m<=k):Pm (bubble p k<|k-m) n:=by
 have v:k<p.size:=by rwa[P.size]
 refine⟨by rw[bubble_size];exact P.size,λi w=>?_,λi j w B q=>?_⟩
 ·rw[AH v u]
  split
  ·exact P.lt k A
  ·split
   ·exact P.lt _<|by lia
   ·exact P.lt _ w
 ·rw[AH v u,AH v u]at q;have s:∀a,a<n->∃b,b<n/\(if a=m then g p k else if m<a/\a<=k then g p (a-1)else g p a)=g p b/\((a=m/\b=k)\/(a≠m/\(m<a/\a<=k)/\b=a-1)\/(a≠m/\¬(m<a/\a<=k)/\b=a)):=λa D=>by
   by_cases c:a=m
   ·exact⟨k,A,by rw[BL c],.inl ⟨c,rfl⟩⟩
   ·by_cases d:m<a/\a<=k
    ·exact⟨a-1,by lia,by rw[C c,BL d],.inr<|.inl ⟨c,d,rfl⟩⟩
    ·exact⟨a,D,by rw[C c,C d],.inr<|.inr ⟨c,d,rfl⟩⟩
  obtain⟨x,E,G,H⟩:=s i w;obtain⟨y,I,J,z⟩:=s j B;rw[G,J]at q;have e:=P.inj x y E I q;subst e
  obtain⟨t,l⟩|⟨t,l,r⟩|⟨t,l,r⟩:=H
  ·obtain⟨o,f⟩|⟨o,f,h⟩|⟨o,f,h⟩:=z
   ·exact t.trans o.symm
   ·exact absurd (l.symm.trans h)<|De<|Br (Nat.sub_lt (Gx f.1) Fx) f.2
   ·exact absurd ⟨Gr (by rwa[<-h,l])<|CG o,by rw[<-h,l];exact Aq _⟩ f
  ·obtain⟨o,f⟩|⟨o,f,h⟩|⟨o,f,h⟩:=z
   ·exact absurd (f.symm.trans r)<|De<|Br (Nat.sub_lt (Gx l.1) Fx) l.2
   ·exact Nat.sub_one_cancel (Gx l.1) (Gx f.1)<|r.symm.trans h
   ·exact absurd ⟨Gr (by rw[<-h,r];exact Nat.le_sub_one_of_lt l.1)<|CG o,by rw[<-h,r];exact Cd (Nat.sub_le _ _) l.2⟩ f
  ·obtain⟨o,f⟩|⟨o,f,h⟩|⟨o,f,h⟩:=z
   ·exact absurd ⟨Gr (by rwa[<-r,f])<|CG t,by rw[<-r,f];exact Aq _⟩ l
   ·exact absurd ⟨Gr (by rw[<-r,h];exact Nat.le_sub_one_of_lt f.1)<|CG t,by rw[<-r,h];exact Cd (Nat.sub_le _ _) f.2⟩ l
   ·exact r.symm.trans h
def x2h(P:Pm p n)(q:k<n)(b:m<=k)(a:Up lt p k)(l:∀i,i<m->lt (g p i) (g p k)=true)(r:∀i,m<=i->i<k->lt (g p k) (g p i)=true):Up lt (bubble p k<|k-m) (k+1):=λi j o s=>by
 have h:k<p.size:=by rwa[P.size]
 rw[AH h b,AH h b]
 by_cases c:i=m
 ·grind
 ·rw[C c]
  by_cases d:j=m
  ·rw[BL d,C<|by lia];exact l i<|by lia
  ·rw[C d]
   by_cases e:m<i/\i<=k
   ·rw[BL e,BL<|by lia];exact a _ _ (by lia)<|by lia
   ·rw[C e]
    by_cases f:m<j/\j<=k
    ·rw[BL f];exact a _ _ (by lia)<|by lia
    ·rw[C f];exact a _ _ o<|by lia
section
variable{lt:Nat->Nat->Bool}{cmp:Nat->Nat->(Bool->Shared->Prop)->Shared->Prop}{J:Shared->Prop}{n:Nat}
theorem Yb(A:gn lt cmp J n):∀f p k Q s,Pm p n->1<=k->k+f=n->Up lt p k->J s->(∀q s',J s'->Pm q n->Up lt q n->Q q s')->(kas_bin f p k).kasWp cmp Q s
 |0,p,k,Q,s,P,d,e,a,b,q=>by
  have:k=n:=by lia
  subst this;exact q p s b P a
 |f+1,p,k,Q,s,P,d,e,a,b,q=>by
  rw[kas_bin,JZ];refine O4 A P (by lia) a k 0 k _ s (Aq _) (By _) (by lia) b (λi h=>by lia) (λi h r=>by lia) λm s' j c l o=>?_;exact Yb A f _ (k+1) Q s' (x2n P (by lia) c) (by lia) (by lia) (x2h P (by lia) c a l o) j q
end
def tf(A:gn lt cmp J n)(d:2<=n)(e:J s)(q:∀p s',J s'->Pm p n->Up lt p n->Q p s'):(kas_sort n).kasWp cmp Q s:=by
 rw[kas_sort,JZ];refine rx A (X7 n) d e λr p s' a f h P b=>?_;show(if r<n then kas_bin (n-max r 1) p (max r 1)else .ret p:KasT _).kasWp cmp Q s';have em:max r 1=r:=by lia
 rw[em]
 by_cases c:r<n
 ·rw[BL c];exact Yb A (n-r) p r Q s' P f (by lia) b a q
 ·rw[C c];have:r=n:=by lia
  subst this;exact q p s' a P b
def Yc(P:Pm p n):p.toList.Nodup:=by
 rw[Cg,Bs];intro i j a b k e;have c:i<n:=by rwa[Cb,P.size]at a
 have d:j<n:=by rwa[Cb,P.size]at b
 have f:=l7 (Cc▸(Ab a));have h:=l7 (Cc▸(Ab b));have:=P.inj i j c d (by rw[f,h,e]);lia
def O5(P:Pm p n)(h:v∈p.toList):v<n:=by
 obtain⟨i,a⟩:=Bp h;have b:i<n:=by have:=(Ad.mp a).1;rwa[Cb,P.size]at this
 have c:=l7 (by rwa[<-Cc]);rw[<-c];exact P.lt i b
def OF(P:Pm p n):p.toList.Perm (range n):=by
 rw[Dk (Yc P) Fi];intro v;rw[Bg];refine⟨λh=>O5 P h,λh=>CJ λb=>?_⟩;have c:=Nt.aK (Yc P) λz a=>by
  have d:z≠v:=λe=>b<|e ▸ a;exact(Fp d).mpr<|Bg.mpr<|O5 P a
 rw[Ex<|Bg.mpr h,Cb,P.size,Cw]at c;lia
def Hd(h:Heap)(v:Value)(z:Str):Prop:=∃a o xs n t,v=.ref a/\h.get? a=some o/\o.cls=.type "tuple"/\o.data=.seq xs n/\xs[0]?=some (.str z t)
def Hd.keep(x:Hd h v z)(k:∀a o,v=.ref a->h.get? a=some o->h'.get? a=some o):Hd h' v z:=by
 obtain⟨a,o,xs,n,t,e,b,c⟩:=x;exact⟨a,o,xs,n,t,e,k a o e b,c⟩
def vE(h:Heap)(vs:Ó)(zs:Ñ):Prop:=vs.length=zs.length/\∀(i:Nat)v z,vs[i]?=some v->zs[i]?=some z->Hd h v z
def xb(zs:Ñ)(i j:Nat):Bool:=decide ((zs.getD i ⟨#[]⟩).cps.toList<(zs.getD j ⟨#[]⟩).cps.toList)
theorem Yd:∀{h}{vs}{zs},vE h vs zs->∃c,KatTups h vs c/\c.length=vs.length/\∀f∈c,∃z t,f=Value.str z t
 |h,[],_,_=>⟨[],KatTups.nil,rfl,λf d=>by cases d⟩
 |h,v :: vs,[],e=>by have:=e.1;simp at this
 |h,v :: vs,z :: zs,e=>by
  obtain⟨c,l,m,p⟩:=Yd ⟨by have:=e.1;simpa using this,λi a b j k=>e.2 (i+1) a b (by simpa using j)<|by simpa using k⟩;obtain⟨a,o,xs,n,t,rfl,j,k,q,r⟩:=e.2 0 v z rfl rfl;refine⟨.str z t :: c,KatTups.cons j k q r l,by rw[Au,Au,m],λf d=>?_⟩
  obtain rfl|d:=Ak.mp d
  ·exact⟨z,t,rfl⟩
  ·exact p f d
def uy(k:Hd s.heap x z)(l:Hd s.heap y u)(m:z≠u)(h:Q (decide (z.cps.toList<u.cps.toList)) s):ba prog w A (keyLt' (tuples' true) x y) Q E s:=by
 obtain⟨a,o,xs,n,t,rfl,p,D,q,G⟩:=k;obtain⟨b,H,d,I,f,rfl,g1,g2,g3,J⟩:=l;refine kat_lt p q g1 g3 ?_;have i:∃r,xs.toList=.str z t :: r:=by
  have:xs.toList[0]?=some (.str z t):=by rwa[Cc]
  cases e:xs.toList with
  |nil=>rw[e]at this;cases this
  |cons c r=>rw[e]at this;cases this;exact⟨r,rfl⟩
 have j:∃r,d.toList=.str u f :: r:=by
  have:d.toList[0]?=some (.str u f):=by rwa[Cc]
  cases e:d.toList with
  |nil=>rw[e]at this;cases this
  |cons c r=>rw[e]at this;cases this;exact⟨r,rfl⟩
 obtain⟨v,i⟩:=i;obtain⟨B,j⟩:=j;rw[i,j];show KatLex prog w A true _ Q ((.str z t,.str u f):: v.zip B) 0 s;refine kat_cons<|eqBool_str ?_;have:(z == u)=false:=beq_eq_false_iff_ne.mpr m;rw[this];exact kat_no<|oneLt_str h
def q7d{a b:Str}(h:a.cps.toList=b.cps.toList):a=b:=by
 apply Str.ext';exact Array.toList_inj.mp h
def q3a(n:vE s.heap vs zs)(o:zs.Nodup):gn (xb zs) (kas_ask prog w A (tuples' true) vs) (λs'=>s'=s) vs.length:=by
 have x:=n.1;have m:∀i,(b:i<zs.length)->zs.getD i ⟨#[]⟩=zs[i]:=λi b=>by simp[b]
 have p:∀i,(b:i<vs.length)->vs.getD i Value.none=vs[i]:=λi b=>by simp[b]
 have ne:∀i j,(b:i<zs.length)->(f:j<zs.length)->i≠j->zs[i]≠zs[j]:=λi j b f l e=>by
  obtain c|c:=Nat.lt_or_gt_of_ne l
  ·exact Bs.mp (Cg.mp o) i j b f c e
  ·exact Bs.mp (Cg.mp o) j i f b c e.symm
 refine⟨λi j a s' b f l u v=>?_,λi j b f l=>?_,λi j h=>?_,λi j k r t=>?_⟩
 ·subst u;unfold kas_ask;rw[p i b,p j f];have e:xb zs i j=decide (zs[i].cps.toList<zs[j].cps.toList):=by unfold xb;rw[m i (by lia),m j<|by lia]
  refine uy (n.2 i _ zs[i] (Ab b)<|Ab<|by lia) (n.2 j _ zs[j] (Ab f)<|Ab<|by lia) (ne i j (by lia) (by lia) l) ?_;rw[<-e];exact v s' rfl
 ·unfold xb;rw[m i (by lia),m j (by lia),CN,CN]
  by_cases c:zs[i].cps.toList<zs[j].cps.toList
  ·exact .inl c
  ·by_cases d:zs[j].cps.toList<zs[i].cps.toList
   ·exact .inr d
   ·have:zs[i].cps.toList=zs[j].cps.toList:=List.le_antisymm (List.not_lt.mp d)<|List.not_lt.mp c;exact absurd (q7d this)<|ne i j (by lia) (by lia) l
 ·unfold xb at h ⊢;have:=BZ h;exact BR λq=>Gv _<|He this q
 ·unfold xb at r t ⊢;exact BW<|He (BZ r)<|BZ t
def map_range(vs:Ó):(range vs.length).map (λi=>vs.getD i Value.none)=vs:=by
 apply Fu
 ·simp
 ·intro i b a;simp[a]
def Ip(u:s.heap.get? a=some (seqObj "list" vs.toArray n))(N:∀v∈vs,v ≠ .ref a)(D:vE s.heap vs zs)(O:zs.Nodup)(Y:vs.length<64)
  (h:∀p:Array Nat,Pm p vs.length->Up (xb zs) p vs.length->P (.done<|.ret .none) {s with heap:=sortedHeap s.heap a vs (List.toArray<|p.toList.map λi=>vs.getD i Value.none)}):
  ba prog w A (Builtin.«list.sort» ⟨[.ref a],[]⟩) P E s:=by
 rw[list_sort_plain];have O6:vs.length<=sizeLine:=by rw[DW];lia
 refine BJ<|PK u rfl<|BJ<|MF u rfl ?_;obtain⟨x,H⟩:∃ x,(s.heap.update a<|Obj.mapSeq λ_=>#[]).get? a=some (seqObj "list" #[] x):=⟨_,get?_update_seq u λ_=>#[]⟩;refine BJ<|QK H rfl<|BJ<|QD ?_;refine BJ<|JT<|CK ?_;have m:(((s.heap.update a<|Obj.mapSeq λ_=>#[]).push<|seqObj "tuple" vs.toArray 0).push<|seqObj "list" #[] 0).get? a=some (seqObj "list" #[] x):=Am _<|Am _ H;show ba prog w A _ P E {s with heap:=((s.heap.update a<|Obj.mapSeq λ_=>#[]).push<|seqObj "tuple" vs.toArray 0).push (seqObj "list" #[] 0)};have I:vE (((s.heap.update a<|Obj.mapSeq λ_=>#[]).push<|seqObj "tuple" vs.toArray 0).push<|seqObj "list" #[] 0) vs zs:=⟨D.1,λi v z J d=>(D.2 i v z J d).keep λb o e q=>by
  have hb:a≠b:=λe2=>N v (An J) (by rw[e,e2]);exact Am _<|Am _<|(Cr _ _ hb).trans q⟩
 dsimp only
 have k:vs.toArray.size=vs.length:=by simp
 by_cases d:vs.toArray.size<2
 ·rw[BL d,BL d];refine BJ<|BP ?_;rw[StateT.run_pure];refine BJ<|BP ?_
  dsimp only
  have L:(arrOf<|SortSt.mk' general' (vs.toArray.zip vs.toArray) #[] 7 none).map (·.2)=vs.toArray:=by
   show(vs.toArray.zip vs.toArray).map (·.2)=_;apply Array.toList_inj.mp;simp[List.map_snd_zip]
  refine BJ<|QK m rfl ?_;refine BJ (MF m rfl ?_ (hsz2:=by rw[L,k];lia));simp only[FW,Bk,CW];refine BP ?_;rw[L];have fin:=h (List.toArray<|range vs.length) (X7 _) λi j hi hj=>by rw[k]at d;lia
  rwa[map_range vs]at fin
 ·rw[C d,C d];obtain⟨fs,k1,k2,k3⟩:=Yd I;rw[k]at d;refine BJ<|kat_kind (T:= .type "str") k1 (by lia) (λf y=>?_) (by decide) ?_
  ·obtain⟨z,t,rfl⟩:=k3 f y;exact Looks.of_pure rfl
  refine BJ<|CZ (kat_run (prog:=prog) (w:=w) (A:=A) (E:=E) (κ:=tuples' true) (ks:=vs) (vs:=vs) (Q:=λr l=>l={s with heap:=((s.heap.update a<|Obj.mapSeq λ_=>#[]).push<|seqObj "tuple" vs.toArray 0).push (seqObj "list" #[] 0)}/\∃p:Array Nat,Pm p vs.length/\Up (xb zs) p vs.length/\arrOf r=p.map (kas_item<|vs.toArray.zip vs.toArray)/\failedOf r=none)
   (G:=λp l=>l={s with heap:=((s.heap.update a<|Obj.mapSeq λ_=>#[]).push<|seqObj "tuple" vs.toArray 0).push (seqObj "list" #[] 0)}/\Pm p vs.length/\Up (xb zs) p vs.length) rfl (by lia) Y (λp r l _ a2 a3 B=>⟨B.1,p,B.2.1,B.2.2,a2,a3⟩)
   (tf (q3a (s:={s with heap:=((s.heap.update a<|Obj.mapSeq λ_=>#[]).push<|seqObj "tuple" vs.toArray 0).push (seqObj "list" #[] 0)}) I O) (by lia) rfl λp l e P c=>⟨e,P,c⟩)) ?_ λ_ _ e=>e
  rintro ⟨⟨⟩,r⟩ l ⟨rfl,p,P,c,FH,y⟩
  dsimp only
  have M:=kat_snds (ks:=vs) (vs:=vs) rfl FH;refine BJ<|QK m rfl ?_;refine BJ (MF m rfl ?_ (hsz2:=by rw[M,Bc,Aa,Cb,P.size];lia));rw[y];simp only[FW,Bk,CW];refine BP ?_;rw[M];exact h p P c
def na(m:s.heap.IsList l vs.toArray)(d:vE s.heap vs zs)(x:zs.Nodup)(y:vs.length<64)
  (h:∀h' e p,Pm p vs.length->Up (xb zs) p vs.length->(∀ b u,s.heap.get? b=some u->h'.get? b=some u)->h'.get? (s.heap.objs.size+1)=some (seqObj "list" (List.toArray<|p.toList.map λi=>vs.getD i Value.none) e)->Q (.ref<|s.heap.objs.size+1) {s with heap:=h'}):
  ba prog w A (call (.builtin "sorted") [.ref l]) Q E s:=by
 have M:vs.length<=sizeLine:=by rw[DW];lia
 refine Calls.call_function_entry kind_sorted plain_sorted entry_sorted (args_sorted1 _) ?_;unfold Builtin.«sorted»;refine BJ<|BP ?_;refine BJ<|collect_list m ?_;refine BJ<|JT ?_;have c:((s.heap.push<|seqObj "list" #[] 0).update s.heap.objs.size (Obj.mapSeq (·++vs.toArray))).objs.size=s.heap.objs.size+1:=by
  rw[Heap.size_update,size_push']
 have r:(((s.heap.push<|seqObj "list" #[] 0).update s.heap.objs.size (Obj.mapSeq (·++vs.toArray))).push<|seqObj "list" vs.toArray 0).get? (s.heap.objs.size+1)=some (seqObj "list" vs.toArray 0):=by
  rw[<-c];exact Az _ rfl
 have f:vE (((s.heap.push<|seqObj "list" #[] 0).update s.heap.objs.size (Obj.mapSeq (·++vs.toArray))).push<|seqObj "list" vs.toArray 0) vs zs:=⟨d.1,λi v z j B=>(d.2 i v z j B).keep λb o e q=>
  Am _ ((Cr _ _<|De<|Ax q).trans<|Am _ q)⟩
 have D:∀v∈vs,v ≠ .ref (s.heap.objs.size+1):=λv G e=>by
  obtain⟨i,H⟩:=Bp G;have m:=d.1;have k:i<zs.length:=by grind
  obtain⟨b,o,xs,n,t,I,j,_⟩:=d.2 i v zs[i] H<|Ab k;rw[I]at e;cases e;exact absurd (Nat.lt_of_succ_lt<|Ax j)<|Dl _
 show wpAny _ _ _ _ _ {s with heap:=((s.heap.push<|seqObj "list" #[] 0).update s.heap.objs.size (Obj.mapSeq (·++vs.toArray))).push (seqObj "list" vs.toArray 0)};rw[c];refine BJ<|CK<|DR slot_list_sort ⟨_,r,rfl⟩ entry_list_sort (Ip r D f x y λp P a=>⟨_,rfl,?_⟩)<|args_list_sort _;obtain⟨e,J⟩:=sortedAll_at s.heap vs<|List.toArray<|p.toList.map λi=>vs.getD i Value.none;exact BP ⟨_,rfl,h _ e p P a (λb u L=>sortedAll_old L) J⟩
end sZ
namespace L2
open PySem PySem.Spec PyProof.Rows sZ
theorem Yf:∀{ts:List Addr}{a:Ó},aC (ts.map V.ref) a->a=ts.map Value.ref
 |[],a,r=>r.zero
 |t :: ts,a,r=>by
  cases r with
  |cons b c=>
   rw[Yf c];have:_=Value.ref t:=b;rw[this];rfl
theorem Yg:∀(ts:List Addr),aC (ts.map V.ref)<|ts.map Value.ref
 |[]=> .nil
 |t :: ts=> .cons rfl (Yg ts)
def Sb(xs:List α)(ys:List c)(h:xs.length=ys.length)(a:α)(b:c):(range xs.length).map (λi=>(xs.getD i a,ys.getD i b))=xs.zip ys:=by
 apply Fu
 ·simp[h]
 ·grind
inductive gq(X:Cx)(xs:List V)(H:Hp)(Q:VK):Prop
 |mk (l:Addr)(ts:List Addr)(zs:Ñ)(_:xs=[.ref l])(_:av X.K H l<|ts.map V.ref)(_:ts.length=zs.length)(_:zs.Nodup)(_:ts.length<64)(_:(∀(i:Nat) t z,ts[i]?=some t->zs[i]?=some z->∃r,H t=some (.tup<|.str z :: r)))(_:∀(r:Addr) (ps:List<|Addr×Str),H r=none->ps.Perm (ts.zip zs)->ps.Pairwise (λa b=>a.2.cps.toList<b.2.cps.toList)->Q (.ref r) (upd H r<|.lst<|ps.map λp=> .ref p.1))
def Rm{X:Cx}:i7 X (.builtin "sorted") (gq X):=by
 intro m s σ H xs us Q I r h;obtain⟨l,ts,zs,rfl,A,b,B,yG,hd,q⟩:=h;obtain⟨u,rfl,D⟩:=io r;cases (show u=Value.ref l from D);obtain⟨d,rv,E,_⟩:=I.list A;have G:=Yf rv;subst G;have J:vE s.heap (ts.map Value.ref) zs:=by
  refine⟨by rwa[Aa],λi v z w L=>?_⟩;rw[Aj,Ba]at w;obtain⟨t,M,rfl⟩:=w;obtain⟨rr,N⟩:=hd i t z M L;obtain⟨d,O,T,_⟩:=I.tuple<|aU.of N;cases O with
  |cons Y a2=>
   obtain⟨tk,rfl⟩:=Y;obtain⟨o,ho,hc,n,f⟩:=T;exact⟨t,o,_,n,tk,rfl,ho,hc,f,rfl⟩
 refine na E.isList J B (by rwa[Aa]) λh' e p P a kp he=>?_;rw[Aa]at P a;have k:p.toList.length=ts.length:=Cb▸P.size
 have e1:(p.toList.map λi=>(ts.map Value.ref).getD i Value.none)=((p.toList.map λi=>(ts.getD i 0,zs.getD i ⟨#[]⟩)).map λx=>x.1).map Value.ref:=by
  rw[Bi,Bi];refine At λi c=>?_;show(ts.map Value.ref).getD i Value.none=Value.ref (ts.getD i 0);simp[O5 P c]
 refine⟨.ref _,_,I.g7 kp rfl rfl (Fm _) (show aI X.prog X.w _ h' _ (.lst<|(p.toList.map λi=>(ts.getD i 0,zs.getD i ⟨#[]⟩)).map λx=>V.ref x.1)from ?_),rfl,q _ (p.toList.map λi=>(ts.getD i 0,zs.getD i ⟨#[]⟩)) (I.aP.fresh<|Fm _) ?_ ?_⟩
 ·refine⟨by rw[Aa,Aa,k,DW];lia,_,e,?_,he⟩;rw[e1];have:=Yg<|(p.toList.map λi=>(ts.getD i 0,zs.getD i (⟨#[]⟩:Str))).map λx=>x.1;rwa[Bi]at this
 ·rw[<-Sb ts zs b 0 ⟨#[]⟩];exact(OF P).map _
 ·rw[Bs];intro i j c y gV;rw[Aa]at c y;have:=a i j gV (by lia);have q1:=l7 (Cc▸(Ab c));have q2:=l7 (Cc▸(Ab y));rw[q1,q2]at this;rw[Cp,Cp];exact BZ this
def O7(f:X.calm=true)(i:aU X.K H t [x,y,z])(h:Eg X e1 x j H λb d=>Eg X e2 y b d λc e=>Eg X a z c e R)
  (l:(assignEach [e1,e2,a] X.env).length=3:=by rfl) (m:(assignEach [e1,e2,a] X.env).findIdx? (·.1)=none:=by rfl)
  (n:(assignEach [e1,e2,a] X.env).map (·.2)=assign e1 X.env :: (assignEach [e2,a] X.env).map (·.2):=by rfl) (o:(assignEach [e2,a] X.env).map (·.2)=assign e2 X.env :: (assignEach [a] X.env).map (·.2):=by rfl) (p:(assignEach [a] X.env).map (·.2)=assign a X.env :: (assignEach [] X.env).map (·.2):=by rfl):
  Eg X (.Tuple [e1,e2,a] k pos) (.ref t) j H R:=
 Lf (Td f (xY uf (xY uf (xY uf Tc p) o) n) l m)
  ⟨t,_,rfl,i,rfl,_,_,rfl,h.mono λb d r=>⟨_,_,rfl,r.mono λc e s=>⟨_,_,rfl,s.mono λu v q=>⟨rfl,q⟩⟩⟩⟩
end L2
namespace G8
open PySem L2 Nt bv
abbrev T3(x:Lk):HO:= .tup [.str x.1,.str x.2.1,.str x.2.2]
def qY(H:Hp)(us:List Addr)(a:List Lk):Prop:=us.length=a.length/\∀(j:Nat)u x,us[j]?=some u->a[j]?=some x->H u=some (T3 x)
def qY.keep(h:qY H us a)(k:∀t xs,H t=some (.tup xs)->H' t=some (.tup xs)):qY H' us a:=⟨h.1,λj u x b c=>k _ _<|h.2 j u x b c⟩
theorem qY.snoc(h:qY H us c)(e:H u=some (T3 x)):qY H (us++[u]) (c++[x]):=by
 refine⟨by rw[Ah,Ah,h.1];rfl,λj v y a b=>?_⟩;have f:=h.1
 by_cases d:j<us.length
 ·rw[Aw d]at a;rw[Aw<|by omega]at b;exact h.2 j v y a b
 ·grind
def IE(a:List Lk):Prop:=a.Pairwise λx y=>x.1.cps.toList<y.1.cps.toList
inductive fJ(vs:List V)(H:Hp)(Q:VK)(_:XK):Prop
 |mk (R:Addr)(as:Ï)(n:bc)(_:vs=[.ref R])(_:aq H R as n)(_:ao n)(_:n.length<=1000)(_:(ag n).length<=60)(_:∀L us ls H',aj H H'->H L=none->H' L=some (.lst<|us.map V.ref)->qY H' us ls->IE ls->(∀x,x∈ls↔pM n x)->ls.length<=60->Q (.ref L) H')
def Yh(T:ao n)(c:r<n.length)(b:(row n r)[p]?=some z):(bq (bg (n.take r)++bh r ((row n r).take p) 0) z).length<=1:=by
 obtain⟨a,h⟩:=vi c b;have d:bq (bg n) z=bq (bg (n.take r)++bh r ((row n r).take p) 0) z++(r,p):: bq a z:=by
  rw[h];rw[bq,Cf,Ai,Fw<|by simp];rfl
 have f:(bq (bg n) z).length=2:=by
  have:=qG n z;rwa[T z<|dP (e:=(r,p)) b]at this
 rw[d,Ah,Au]at f;lia
abbrev y8:Ñ:=["rows","met","links","point","ties","tie"]
def AI:ak y8 ["rows"] (aW MX):=cg
theorem DF(F:bA K "links_of" "links_of" MX f fd)(T:Txt mg):aG P w K mg base bF 1 f fd ["rows"] fJ:=by
 refine F.gc AI λb0 H vs Q E hr h=>?_;obtain⟨R,as,n,rfl,hR,hT,hn,gY,q⟩:=h;have nd:=AI.nd;have bI:=hR.len;have hu:=hr.u1;refine aX 1 nd<|yK λl zL=>?_;refine aX 2 nd<|eQ<|aA ⟨Z0,λM hM=>?_⟩;have jT:M≠l:=λe=>by rw[e,ay]at hM;cases hM
 have AJ:H M=none:=by rwa[ax jT]at hM
 have s0:aj H (upd (upd H l<|.dK []) M<|.lst []):=(aM zL _).trans<|aM hM _;have tj:(upd (upd H l<|.dK []) M<|.lst []) l=some (.dK []):=by rw[ax<|CG jT,ay]
 have tu:(upd (upd H l<|.dK []) M<|.lst []) M=some (.lst []):=ay;generalize upd (upd H l<|.dK []) M (.lst [])=H0 at s0 tj tu;have O8:(bg n).length=(ag n).length:=by rw[<-nU n 0,Aa];rfl
 refine jH<|U 0 ⟨R,rfl,⟨_,av.of<|s0 _ _ hR.lst⟩,jI (xs:=as.map λa=>V.ref a.1) (λr σ H'=>E6 λ(m:List<|Key×V)(us:List Addr)(d:List Lk)(u1 u2 u3:Option V)=>A6 (aj H H') (H' l=some (.dK m)) (H' M=some (.lst<|us.map V.ref)) (qY H' us d) (k6 n (bg<|n.take r) m d)<|σ=[some<|.ref R,some<|.ref l,some<|.ref M,u1,u2,u3])
  ⟨[],[],[],_,_,_,s0,tj,tu,⟨rfl,λj u x h=>by simp at h⟩,k6.start n,rfl⟩ ?_ ?_ ?_⟩
 ·rintro r σ H' _ ⟨_,_,_,_,_,_,o,_⟩;exact av.of<|o _ _ hR.lst
 ·rintro r x σ H' s ⟨m,us,d,u1,u2,u3,o,v,N,A,I,rfl⟩;have B:r<n.length:=by
   have:=(Ad.mp s).1;rw[Aa]at this;omega
  obtain⟨a,ea,cZ,et,el,er⟩:=(hR.same o).at B;rw[Aj,ea]at s;cases s;refine iA rfl (aU.of et) (a9 3 nd<|a9 4 nd ?_);refine jH<|U 4 ⟨a.2,rfl,⟨_,av.of el⟩,jI (xs:=(row n r).map V.str) (λp σ D=>E4 λ(m:List<|Key×V)(us:List Addr)(d:List Lk)(u3:Option V)=>A7 (aj H D) (D a.2=some (Ls<|row n r)) (D l=some (.dK m)) (D M=some (.lst<|us.map V.ref)) (qY D us d) (k6 n (bg (n.take r)++bh r ((row n r).take p) 0) m d)<|σ=[some<|.ref R,some<|.ref l,some<|.ref M,some<|.str n[r].1,some<|.ref a.2,u3])
   ⟨m,us,d,_,o,el,v,N,A,by simpa[bh]using I,rfl⟩ ?_ ?_ ?_⟩
  ·rintro p σ D _ ⟨_,_,_,_,_,e,_⟩;exact av.of e
  ·rintro p x σ D s ⟨m,us,d,u3,o,el,v,N,A,I,rfl⟩;have hp:p<(row n r).length:=by
    have:=(Ad.mp s).1;rwa[Aa]at this
   have O:(row n r)[p]?=some (row n r)[p]:=Ab hp;rw[Aj,O]at s;cases s;have jL:=qH (r:=r) O;have Ø:=Yh hT B O;have cD:(bg (n.take r)++bh r ((row n r).take p) 0).length<=60:=by
    obtain⟨G,lh⟩:=vi B O;have J:=BX List.length lh;simp only[Ah]at J ⊢;omega
   have lM:=I.ga;have lL:=I.qO;have lA:=A.1;have Yi:aB n r=n[r].1:=fG B;have Ù:a.2≠M:=λe=>by
    have:=(hR.tup r a n[r] ea<|Ab B).2;rw[e,AJ]at this;cases this
   generalize (row n r)[p]=z at O jL Ø;apply a9 5 nd;refine fk<|Vz hu<|U 5<|U 1 ⟨l,_,rfl,bf.k (k:=Sum.inr z) v,?_⟩;cases mR:bq (bg (n.take r)++bh r ((row n r).take p) 0) z with
   |nil=>
    rw[I.m0 z mR];rw[C<|by decide];refine qF hu<|U 3<|U 1<|U 5 ⟨l,_,rfl,bO.k (k:=Sum.inr z) v (bR<|by omega),a8<|a8 ⟨_,us,d,_,dR o zL,?_,ay,?_,A.keep λt xs h=>?_,?_,rfl⟩⟩
    ·rwa[ax<|cm el v λz=>nomatch z]
    ·rwa[ax jT]
    ·rwa[ax<|cm h v λz=>nomatch z]
    ·rw[jL,<-Ap];have:=I.new (e:=(r,p)) mR;rwa[<-Yi]
   |cons b G=>
    have Ú:G=[]:=by
     rw[mR]at Ø;exact Ci.mp<|by have:G.length+1<=1:=Ø;omega
    subst Ú;have vm:=I.m1 z b [] mR;rw[vm];show if true=true then _ else _;rw[BL rfl];refine ik (mH<|U 2 ⟨M,rfl,⟨_,N⟩,dk<|ai<|U 5<|ai<|i0 hu<|U 1<|U 5 ⟨l,.str<|aB n b.1,rfl,by rw[<-vm];exact bf.k (k:=Sum.inr z) v,ai<|U 3<|aA ⟨Z3,λt ht=>?_⟩⟩⟩);have sT:=aM ht<|.tup [.str z,.str<|aB n b.1,.str n[r].1];have Ü:t≠M:=λe=>by rw[e,N]at ht;cases ht
    have Ow:(upd D t<|.tup [.str z,.str<|aB n b.1,.str n[r].1]) t=some (T3 (z,aB n b.1,aB n (r,p).1)):=by
     rw[ay];rw[Yi]
    have kT:∀c xs,(upd D t<|.tup [.str z,.str<|aB n b.1,.str n[r].1]) c=some (.tup xs)->(upd (upd D t<|.tup [.str z,.str<|aB n b.1,.str n[r].1]) M<|.lst<|us.map V.ref++[.ref t]) c=some (.tup xs):=λc xs h=>by
     rwa[ax<|cm h (sT _ _ N) λz=>nomatch z]
    refine⟨_,sT _ _ N,by rw[Aa];exact bR (by omega),a8<|a8 ⟨m,us++[t],d++[(z,aB n b.1,aB n (r,p).1)],_,dR (o.trans sT) AJ,?_,?_,?_,?_,?_,rfl⟩⟩
    ·rw[ax Ù];exact sT _ _ el
    ·rw[ax<|CG jT];exact sT _ _ v
    ·rw[ay,Ai];rfl
    ·exact((A.keep λc xs h=>sT _ _ h).snoc Ow).keep kT
    ·rw[jL,<-Ap];exact I.old (e:=(r,p)) mR
  ·rintro σ D ⟨m,us,d,u3,o,_,v,N,A,I,rfl⟩;rw[Aa,Bn]at I;refine a8 ⟨m,us,d,_,_,_,o,v,N,A,?_,rfl⟩;rwa[sg B]
 ·rintro σ H' ⟨m,us,d,u1,u2,u3,o,v,N,A,I,rfl⟩;rw[Aa,bI,Bn]at I;have lL:=I.qO;have lA:=A.1;have aZ:us.length<64:=by lia
  refine bQ (cL Rm T.sorted EY (ai (U 2 (aA ⟨M,us,d.map (·.1),rfl,av.of N,by rwa[Aa],I.eZ,aZ,λi t z J Y=>?_,λL ps hL hp hs=>?_⟩))))
  ·rw[Aj,Ba]at Y;obtain⟨x,s,rfl⟩:=Y;exact⟨_,A.2 i t x J s⟩
  have Ö:∀p∈ps,∃x,x∈d/\x.1=p.2/\H' p.1=some (T3 x):=λp pF=>by
   have O:=hp.mem_iff.mp pF;obtain⟨i,B⟩:=Bp O;rw[List.getElem?_zip_eq_some]at B;obtain⟨J,Y⟩:=B;rw[Aj,Ba]at Y;obtain⟨x,s,e⟩:=Y;exact⟨x,An s,e,A.2 i _ x J s⟩
  obtain⟨xs,jO⟩:∃xs:List Lk,xs.length=ps.length/\∀(j:Nat)p x,ps[j]?=some p->xs[j]?=some x->x∈d/\x.1=p.2/\H' p.1=some (T3 x):=by
   clear hs hp
   induction ps with
   |nil=>exact⟨[],rfl,λj p x h=>by simp at h⟩
   |cons p r ih=>
    obtain⟨x,q1,q2,q3⟩:=Ö p<|Ac ..;obtain⟨xs,l1,l2⟩:=ih λc hc=>Ö c<|Af _ hc;refine⟨x :: xs,by rw[Au,Au,l1],λj c y J Y=>?_⟩;cases j with
    |zero=>
     cases J;cases Y;exact⟨q1,q2,q3⟩
    |succ j=>exact l2 j c y (by simpa using J)<|by simpa using Y
  obtain⟨lx,jO⟩:=jO;have lp:ps.length=d.length:=by rw[hp.length_eq,List.length_zip,Aa];lia
  have sL:=aM hL<|.lst<|ps.map λp=> .ref p.1;have Yj:IE xs:=by
   rw[IE,Bs];intro i j B hj gV;have a2:=(jO j ps[j] xs[j] (Ab<|by omega)<|Ab hj).2.1;rw[((jO i ps[i] xs[i] (Ab<|by omega)<|Ab B).2.1),a2];exact Bs.mp hs i j (by lia) (by lia) gV
  have vF:(xs.map (·.1)).Nodup:=by
   rw[Cg,Ez];exact Yj.imp λh e=>by rw[e]at h;exact Gv _ h
  have gu:∀x,x∈xs↔x∈d:=λx=>by
   constructor
   ·intro h;obtain⟨j,hj⟩:=Bp h;have qK:=(Ad.mp hj).1;exact(jO j ps[j] x (Ab<|by omega) hj).1
   ·intro h;refine CJ λhn=>?_;have O9:xs.Nodup:=by
     rw[Cg]at vF ⊢;rw[Ez]at vF;exact vF.imp λh e=>h<|by rw[e]
    have:=aK O9 (b:=d.erase x) λz O=>by
     have Û:z∈d:=by
      obtain⟨j,hj⟩:=Bp O;have qK:=(Ad.mp hj).1;exact(jO j ps[j] z (Ab<|by omega) hj).1
     exact(Fp λe:z=x=>hn<|e ▸ O).mpr Û
    rw[Ex h]at this;have:0<d.length:=Fe h;omega
  refine q L (ps.map (·.1)) xs _ (o.trans sL) (fI o hL) (by rw[ay,Bi];rfl) ⟨by rw[Aa];omega,λj u x J Y=>?_⟩ Yj (λx=>by rw[gu x];exact I.whole hT x) (by omega);rw[Aj,Ba]at J;obtain⟨p,Ie,rfl⟩:=J;exact sL _ _ (jO j p x Ie Y).2.2
end G8
namespace L2
open PySem PySem.Spec PyProof.Rows
def Yk(i:X.A.units+1<cLine)(h:∀d,H d=none->Ev X k c (upd H d<|.dK []) λy e=>Ev X v c e λx f=>∃b,bO f d y x b/\Q (.ref d) b):Ev X (.Dict [some k] [v] pos) c H Q:=by
 refine⟨λa s I=>wpAny_Dict_any rfl rfl (by simp) (by show 1<=15;decide) ?_⟩;have j:=I.laid (t':=s.toks) (λ_ _ q=>Am _ q) (Aq _)<|K7 s.heap I.big;show wpAny _ _ (evalPairs [(eval k X.env,do let x <-eval v X.env;standAt pos;pure x)]) _ _ _;unfold evalPairs;refine BJ<|aO ((h _ I.fresh).run a _ j) λw l⟨y,e,m,n,o⟩=>?_;refine BJ<|CK<|BJ<|aO (o.run a l m) λz A⟨x,f,p,r,b,t,q⟩=>?_;refine BJ<|DX<|BP ?_;unfold evalPairs;refine BJ<|CK<|BP<|BP ?_;rw[storeAll,Fk];exact BJ<|BJ<|yT i p t n r λB u=>BP<|BP ⟨.ref _,b,u,rfl,q⟩
open bG
end L2
namespace L2
open PySem PySem.Spec PyProof.Rows
theorem Yl(z:Str):∀zs:Ñ,countIn (.str z) (zs.map PyData.str)=(zs.count z:Int)
 |[]=>rfl
 |y :: r=>by
  rw[Be,countIn,Yl z r,Dj];simp only[same]
  obtain a|a:=Bool.eq_false_or_eq_true (y == z)<;>simp<;>push_cast<;>lia
inductive vG(K:aa)(x:V)(vs:List V)(H:Hp)(Q:VK):Prop
 |mk (l:Addr)(zs:Ñ)(z:Str)(_:x=.ref l)(_:vs=[.str z])(_:av K H l<|zs.map V.str)(_:Q (.int (zs.count z:Int)) H)
def Ym:rL X "list.count" (vG X.K):=by
 intro a s i H x j v us Q I b rv h;obtain⟨l,zs,z,rfl,rfl,c,q⟩:=h;cases b;obtain⟨u,rfl,d⟩:=rv.one;obtain⟨k,rfl⟩:=d;obtain⟨e,r,f,m⟩:=I.list c;apply count_list_strs f.isList (Mm r);rw[Yl];exact⟨.int (zs.count z:Int),H,I.tok _,⟨_,rfl⟩,q⟩
end L2
namespace Nt
open PySem L2
theorem Yn(x:Str):∀{f},cz f->∃b,cz b/\∀y,y∈b↔y=x\/y∈f
 |[],_=>⟨[x],Gs _ _,λy=>by simp⟩
 |a :: r,h=>by
  have c:=Cz.mp h
  by_cases q:x.cps.toList<a.cps.toList
  ·refine⟨x :: a :: r,Cz.mpr ⟨λy d=>?_,h⟩,λy=>by simp⟩
   obtain e|e:=Ak.mp d
   ·rwa[e]
   ·exact He q<|c.1 y e
  ·obtain i|i:=Hf.mp (List.not_lt.mp q)
   ·obtain⟨b,k,j⟩:=Yn x c.2;refine⟨a :: b,Cz.mpr ⟨λy d=>?_,k⟩,λy=>?_⟩
    ·obtain e|e:=(j y).mp d
     ·rwa[e]
     ·exact c.1 y e
    ·rw[Ak,j,Ak]
     constructor
     ·rintro (e|e|e)
      ·exact .inr<|.inl e
      ·exact .inl e
      ·exact .inr<|.inr e
     ·rintro (e|e|e)
      ·exact .inr<|.inl e
      ·exact .inl e
      ·exact .inr<|.inr e
   ·refine⟨a :: r,h,λy=>?_⟩;have:a=x:=bG.iw i;subst this;simp
theorem Yo:∀L:Ñ,∃a,cz a/\∀y,y∈a↔y∈L
 |[]=>⟨[],List.Pairwise.nil,λ_=>VG⟩
 |x :: L=>by
  obtain⟨a,b,c⟩:=Yo L;obtain⟨d,e,f⟩:=Yn x b;exact⟨d,e,λy=>by rw[f,c,Ak]⟩
theorem xl(z:Str):∀L:Ñ,decide (L.count z%2=1)=au (L.map λy=>decide (z=y))
 |[]=>rfl
 |y :: L=>by
  show _=(decide (z=y) ^^ au (L.map λy=>decide (z=y)));rw[<-xl z L,Dj]
  by_cases h:z=y
  ·grind
  ·grind
theorem vH{α c:Type}(f:α->c->Bool)(M:List c):∀L:List α,au (L.map λa=>au<|M.map λb=>f a b)=au (M.map λb=>au<|L.map λa=>f a b)
 |[]=>(kd M).symm
 |a :: L=>by
  show(au (M.map λb=>f a b) ^^ au (L.map λa=>au<|M.map λb=>f a b))=au (M.map λb=>f a b ^^ au (L.map λa=>f a b));rw[vH f M L,iF (λb=>f a b) λb=>au<|L.map λa=>f a b]
def map_range(l:List α)(f:α->a)(g:Nat->a)(h:∀k x,l[k]?=some x->g k=f x):l.map f=(range l.length).map g:=by
 apply Dz;intro k;rw[Aj,Aj]
 by_cases b:k<l.length
 ·grind
 ·grind
def HH(l:List α)(f g:α->Bool)(h:∀k,k<l.length->∃x y,l[k]?=some x/\l[(k+1)%l.length]?=some y/\g x=f y):au (l.map g)=au (l.map f):=by
 let F:Nat->Bool:=λk=>match l[k]? with|some x=>f x|none=>false
 have c:=map_range l f F λk x a=>by show(match l[k]? with|some x=>f x|none=>false)=_;rw[a]
 have d:l.map g=(range l.length).map λk=>F ((k+1)%l.length):=map_range l g _ λk x a=>by
  obtain⟨j,y,b,e,i⟩:=h k (Ad.mp a).1;rw[a]at b;cases b;show(match l[(k+1)%l.length]? with|some x=>f x|none=>false)=_;rw[e];exact i.symm
 rw[c,d,Np]
theorem O'(F:Nat->Bool):∀m,(∀i,i<m->F (2*i+1)=F (2*i))->au ((range<|2*m).map F)=false
 |0,_=>rfl
 |m+1,h=>by
  rw[show 2*(m+1)=2*m+1+1 by lia,Cu,Cu,Ai,Ai,oh,oh,O' F m λi a=>h i<|by lia];show((false ^^ (F (2*m) ^^ false)) ^^ (F (2*m+1) ^^ false))=false;rw[h m<|by lia];cases F (2*m)<;>rfl
def Pa(T:ao n)(h:e∈ends n):step n (other n<|go (-1) n e)=other n e:=by
 have a:=fw (c:=-1) T h;obtain⟨z,b⟩:=af.mp a;show left n (other n<|other n<|go (-1) n e)=_;rw[(cS T b).2.1,pJ a];have:=mJ (c:=-1)<|cE T h;rwa[Int.neg_neg]at this
def bP(n:bc)(w:List bi)(z:Str):Bool:=decide ((w.map<|aw n).count z%2=1)
def RR(T:ao n)(W:nX n w):f9 n (bP n w):=λr=>by
 have b:(row n r).map (bP n w)=(row n r).map λz=>au (w.map λe=>decide (z=aw n e)):=At λz _=>by
  rw[bP,xl,Bi];rfl
 rw[b,vH λz e=>decide (z=aw n e)];have d:(w.map λe=>au<|(row n r).map λz=>decide (z=aw n e))=w.map λe=>(decide (r=e.1) ^^ decide (r=(other n e).1)):=At λe f=>by
  obtain⟨z,a⟩:=af.mp<|W.ends e f;rw[cB a];exact HQ T a r
 rw[d,iF (λe=>decide (r=e.1)) λe=>decide (r=(other n e).1)];rw[HH w (λe=>decide (r=e.1)) (λe=>decide (r=(other n e).1)) λk h=>by
  obtain⟨c,i,j⟩:=W.at' k h;exact⟨c,_,i,j,rfl⟩]
 cases au (w.map λe=>decide (r=e.1))<;>rfl
def tZ(T:ao n)(W:nX n w)(h:aV n t a):au (w.map λe=>t<|aw n e)=false:=by
 have q:(w.map λe=>t<|aw n e)=w.map λe=>(a e ^^ a (other n e)):=At λe r=>by
  obtain⟨z,o⟩:=af.mp<|W.ends e r;rw[cB o];exact h.c6 e z o
 rw[q,iF a λe=>a<|other n e];obtain⟨m,j⟩:∃m,w.length=2*m:=⟨w.length/2,by have:=W.even;lia⟩;have s:au (w.map a)=false:=by
  let F:Nat->Bool:=λk=>match w[k]? with|some x=>a x|none=>false
  rw[map_range w a F λk x l=>by show(match w[k]? with|some x=>a x|none=>false)=_;rw[l],j];refine O' F m λi u=>?_;obtain⟨c,b,d⟩:=W.at' (2*i) (by lia);rw[Ca (by lia),show(1:Int)-2*(((2*i:Nat):Int)%2)=1 by lia]at d;show(match w[2*i+1]? with|some x=>a x|none=>false)=(match w[2*i]? with|some x=>a x|none=>false);rw[b,d];have f:=W.ends c<|An b;rw[<-wV T f];exact h.go c f
 have v:au (w.map λe=>a<|other n e)=false:=by
  let F:Nat->Bool:=λk=>match w[k]? with|some x=>a (other n x)|none=>false
  rw[map_range w (λe=>a<|other n e) F λk x l=>by show(match w[k]? with|some x=>a (other n x)|none=>false)=_;rw[l],<-Np F,j];refine O' (λp=>F<|(p+1)%(2*m)) m λi u=>?_;obtain⟨c,b,d⟩:=W.at' (2*i+1) (by lia);rw[j,show(1:Int)-2*(((2*i+1:Nat):Int)%2)=-1 by lia]at d;show(match w[(2*i+1+1)%(2*m)]? with|some x=>a (other n x)|none=>false)=(match w[(2*i+1)%(2*m)]? with|some x=>a (other n x)|none=>false);rw[d,Ca (show 2*i+1<2*m by lia),b];have f:=W.ends c<|An b;show a (other n<|go (-1) n c)=a (other n c);rw[<-Pa T f];exact(h.go _<|cE T<|fw T f).symm
 rw[s,v];rfl
def bj(zs:Ñ)(t s:Str->Bool):Bool:=au<|zs.map λz=>t z && s z
def IG(zs:Ñ)(t u s:Str->Bool):bj zs (λz=>t z ^^ u z) s=(bj zs t s ^^ bj zs u s):=by
 unfold bj;rw[<-iF (λz=>t z && s z) λz=>u z && s z]
 congr 1
 refine At λz _=>?_;show((t z ^^ u z) && s z)=_;cases t z<;>cases u z<;>cases s z<;>rfl
theorem xm:∀{zs},zs.Nodup->y∈zs->bj zs (λz=>decide (z=y)) s=s y
 |z :: zs,a,b=>by
  have a:=Bb.mp a;show((decide (z=y) && s z) ^^ bj zs (λz=>decide (z=y)) s)=s y
  by_cases h:z=y
  ·subst h;have:bj zs (λx=>decide (x=z)) s=false:=by
    unfold bj;have e:(zs.map λx=>decide (x=z) && s x)=zs.map λ_=>false:=At λx c=>by
     have ne:¬ x=z:=λq=>a.1<|q ▸ c;rw[BR ne];rfl
    rw[e,kd]
   rw[this,BW rfl];cases s z<;>rfl
  ·rw[BR h,xm a.2<|(Ak.mp b).resolve_left<|CG h];cases s y<;>rfl
theorem IH(a:zs.Nodup):∀{L:Ñ},(∀y∈L,y∈zs)->bj zs t (λz=>decide (L.count z%2=1))=au (L.map t)
 |L,b=>by
  unfold bj;have e:(zs.map λz=>t z && decide (L.count z%2=1))=zs.map λz=>au (L.map λy=>t z && decide (z=y)):=At λz _=>by
   rw[xl];cases t z
   ·show false=au (L.map λ_=>false);rw[kd]
   ·rfl
  rw[e,vH λz y=>t z && decide (z=y)]
  congr 1
  refine At λy c=>?_;have:=xm (s:=t) a<|b y c;rw[<-this];unfold bj
  congr 1
  refine At λz _=>?_;rw[Gn]
theorem Yp(T:ao n)(w:(n.map (·.1)).Nodup)(A:zs.Nodup)(f:∀z,z∈zs↔z∈ag n)(h:Way (gk n ss) (bw n) x b):
  ∃t:Str->Bool,(∀r,r<n.length->au ((row n r).map t)=(decide (aB n r=bw n) ^^ decide (aB n r=x)))/\bj zs t (λz=>decide (z∈ss))=b:=by
 have add:∀{x y}{o b},(∃e z,aH n e=some z/\((x=aB n e.1/\y=aB n (other n e).1)\/(y=aB n e.1/\x=aB n (other n e).1))/\o=decide (z∈ss))->(∃t:Str->Bool,(∀r,r<n.length->au ((row n r).map t)=(decide (aB n r=bw n) ^^ decide (aB n r=x)))/\bj zs t (λz=>decide (z∈ss))=b) ->
   ∃t:Str->Bool,(∀r,r<n.length->au ((row n r).map t)=(decide (aB n r=bw n) ^^ decide (aB n r=y)))/\bj zs t (λz=>decide (z∈ss))=(b != o):=by
  rintro x y o b ⟨e,z,d,B,rfl⟩ ⟨t,c,a⟩;refine⟨λu=>t u ^^ decide (u=z),λr s=>?_,?_⟩
  ·rw[iF t λu=>decide (u=z),c r s,HQ T d r];have v:∀i,i<n.length->decide (r=i)=decide (aB n r=aB n i):=λi D=>decide_eq_decide.mpr ⟨λq=>by rw[q],λq=>w6 w s D q⟩;rw[v _<|dB d,v _<|sN T d]
   obtain⟨j,k⟩|⟨j,k⟩:=B
   ·rw[<-j,<-k];cases decide (aB n r=bw n)<;>cases decide (aB n r=x)<;>cases decide (aB n r=y)<;>rfl
   ·rw[<-j,<-k];cases decide (aB n r=bw n)<;>cases decide (aB n r=x)<;>cases decide (aB n r=y)<;>rfl
  ·rw[IG,a,xm A<|(f z).mpr<|dP d]
 have lk:∀{x y:Str}{o:Bool},(x,y,o)∈gk n ss->∃e z,aH n e=some z/\((x=aB n e.1/\y=aB n (other n e).1))/\o=decide (z∈ss):=λ{x y o}f=>by
  obtain⟨e,z,c,a⟩:=(WW).fro _ f;exact⟨e,z,c,⟨BX (·.1) a,BX (·.2.1) a⟩,BX (·.2.2) a⟩
 induction h with
 |here=>exact⟨λ_=>false,λr _=>by rw[kd];cases decide (aB n r=bw n)<;>rfl,by unfold bj;exact kd zs⟩
 |there _ l m=>
  obtain⟨e,z,c,a,p⟩:=lk l;exact add ⟨e,z,c,.inl a,p⟩ m
 |back _ l m=>
  obtain⟨e,z,c,a,p⟩:=lk l;exact add ⟨e,z,c,.inr ⟨a.1,a.2⟩,p⟩ m
def Yq(T:ao n)(L:cC n)(D:(n.map (·.1)).Nodup)(y:0<n.length)(E:zs.Nodup)(G:∀z,z∈zs↔z∈ag n)(M:∀z∈ss,z∈ag n)(N:∀t,f9 n t->bj zs t (λz=>decide (z∈ss))=false):∃v,bt n ss v:=by
 classical
 have H:∀{x b c},Way (gk n ss) (bw n) x b->Way (gk n ss) (bw n) x c->b=c:=λ{x b c}m o=>by
  obtain⟨t,O,Q⟩:=Yp T D E G m;obtain⟨u,Y,u2⟩:=Yp T D E G o;have:=N (λz=>t z ^^ u z) λr=>by
   by_cases a:r<n.length
   ·rw[iF t u,O r a,Y r a];cases decide (aB n r=bw n)<;>cases decide (aB n r=x)<;>rfl
   ·have:row n r=[]:=by
     rw[row,Bh<|by lia];rfl
    rw[this];rfl
  rw[IG,Q,u2]at this;cases b<;>cases c<;>first|rfl|cases this
 have next:∀{e:bi}{z:Str}{b:Bool},aH n e=some z->Way (gk n ss) (bw n) (aB n e.1) b->Way (gk n ss) (bw n) (aB n (other n e).1) (b != decide (z∈ss)):=λ{e z b}d h=>by
  obtain t|t:=(WW).to e z d
  ·exact .there h t
  ·exact .back h t
 have all:=λr a=>by
  have:=L (λx=>∃b,Way (gk n ss) (bw n) x b) ⟨n[0],Bq y,false,by rw[<-fG y];exact .here⟩ (λr a s jo t tr ts⟨b,f⟩=>?_) n[r]<|Bq a
  ·rwa[<-fG a]at this
  ·obtain⟨i,w,rfl⟩:=Bv.mp a;obtain⟨j,I,rfl⟩:=Bv.mp jo;obtain⟨p,J⟩:=Bp tr;obtain⟨q,hq⟩:=Bp ts;have m:aH n (i,p)=some t:=by show(row n i)[p]?=_;rwa[pI w]
   have o:aH n (j,q)=some t:=by show(row n j)[q]?=_;rwa[pI I]
   obtain e|e:=(kc T m).mp o
   ·have:j=i:=BX (·.1) e;subst this;exact⟨b,f⟩
   ·rw[<-fG w]at f;have:=next m f;rw[<-e]at this;exact⟨_,by rwa[<-fG I]⟩
 obtain⟨v,m,o⟩:=Yo<|((range n.length).filter λr=>decide (Way (gk n ss) (bw n) (aB n r) true)).map<|aB n;have l:∀r,r<n.length->∀b,Way (gk n ss) (bw n) (aB n r) b->decide (aB n r∈v)=b:=λr a b f=>by
  have:aB n r∈v↔b=true:=by
   rw[o,Ag]
   constructor
   ·grind
   ·grind
  by_cases q:b=true
  ·rw[q];exact BW<|this.mpr q
  ·rw[Bool.not_eq_true]at q;rw[q];exact BR λk=>by rw[this.mp k]at q;cases q
 refine⟨v,m,λx A=>?_,λA=>?_,λz=>?_⟩
 ·obtain⟨i,w,rfl⟩:=Ag.mp<|(o x).mp A;exact jR<|Bg.mp (Ao.mp w).1
 ·have:=l 0 y false .here;cases (JC this) A
 ·by_cases B:z∈ag n
  ·obtain⟨p,J⟩:∃p,p∈pos n z:=by
    have:pos n z≠[]:=λq=>by have:=qG n z;rw[q,T z B]at this;cases this
    exact Dy _ this
   have d:=aJ.mp J;obtain⟨b,f⟩:=all p.1<|dB d;rw[pP T d,l _ (dB d) b f,l _ (sN T d) _ (next d f)]
   constructor
   ·intro h;rw[BW h];cases b<;>rfl
   ·intro h;refine CJ λk=>?_;rw[BR k]at h;cases b<;>cases h
  ·exact⟨λh=>absurd (M z h) B,λh=>absurd (sM h) B⟩
def Pg(T:ao n)(h:e∈ends n):two n (other n<|two n e)=other n e:=by
 have g1:=fw (c:=1) T h;obtain⟨z,a⟩:=af.mp (pK T h);obtain⟨y,b⟩:=af.mp g1;have d:go 1 n (other n<|two n e)=other n (go 1 n e):=by
  show b6 1 n (other n<|other n<|two n e)=_;rw[(cS T a).2.1];have:=mJ (c:=-1)<|cE T g1;rwa[Int.neg_neg]at this
 show go (-1) n (go 1 n<|other n<|two n e)=_;rw[d];show b6 (-1) n (other n<|other n<|go 1 n e)=_;rw[(cS T b).2.1];exact mJ<|cE T h
def iK(T:ao n)(h:e∈ends n)(k:Nat):it (two n) k e∈ends n:=lR (λa b=>pK T b) h k
theorem Yr(f:α->α)(a:α):∀k,it f k (f a)=it f (k+1) a
 |0=>rfl
 |k+1=>by show f (it f k<|f a)=f (it f (k+1) a);rw[Yr f a k]
theorem qZ(f:α->α)(a:α)(i:Nat):∀j,it f (i+j) a=it f j (it f i a)
 |0=>rfl
 |j+1=>by show f (it f (i+j) a)=f (it f j<|it f i a);rw[qZ f a i j]
def x2r(T:ao n)(h:e∈ends n):two n e≠other n e:=λq=>by
 have g1:=fw (c:=1) T h;obtain⟨y,a⟩:=af.mp g1;have b:=q;exact(cS T a).2.2<|Wn (cE T g1) g1<|b.trans (mJ<|cE T h).symm
theorem Ys(T:ao n):∀k{e},e∈ends n->it (two n) k e≠other n e
 |0,e,h=>λq=>by
  obtain⟨z,b⟩:=af.mp h;exact(cS T b).2.2 q.symm
 |1,e,h=>x2r T h
 |k+2,e,h=>λq=>by
  have c:two n (it (two n) (k+1) e)=two n (other n<|two n e):=by rwa[Pg T h]
  have a:=wW T (iK T h<|k+1) (cE T<|pK T h) c;rw[<-Yr]at a;exact Ys T k (pK T h) a
def xn(T:ao n)(e:a∈ends n)(f:b∈ends n)(h:aw n a=aw n b):b=a\/b=other n a:=by
 obtain⟨z,c⟩:=af.mp e;obtain⟨y,d⟩:=af.mp f;rw[cB c,cB d]at h;subst h;exact(kc T c).mp d
def x5d(T:ao n)(h:e∈ends n)(p:kU n e k)(o:i<j)(r:j<k):it (two n) i e≠it (two n) j e:=λq=>by
 have inj:∀(m:Nat){a b:bi},a∈ends n->b∈ends n->it (two n) m a=it (two n) m b->a=b:=λm=>by
  induction m with
  |zero=>intro a b _ _ q;exact q
  |succ m f=>intro a b c d q;exact f c d<|wW T (iK T c m) (iK T d m) q
 have l:it (two n) j e=it (two n) i (it (two n) (j-i) e):=by rw[<-qZ,show j-i+i=j by lia]
 rw[l]at q;have:=inj i h (iK T h _) q;exact p.first (j-i) (by lia) (by lia) this.symm
def OI(T:ao n)(h:e∈ends n)(p:kU n e k)(a:i<j)(b:j<k):aw n (it (two n) i e)≠aw n (it (two n) j e):=λq=>by
 obtain c|c:=xn T (iK T h i) (iK T h j) q
 ·exact x5d T h p a b c.symm
 ·rw[show j=i+(j-i) by lia,qZ]at c;exact Ys T (j-i) (iK T h i) c
def b4(T:ao n)(a:x∈ends n)(b:y∈ends n)(q:aw n (go 1 n x)=aw n (go 1 n y)):x=y\/two n y=other n x:=by
 have g1:=fw (c:=1) T a
 obtain c|c:=xn T g1 (fw T b) q
 ·exact .inl (go_inj T b a c).symm
 ·refine .inr ?_;obtain⟨z,d⟩:=af.mp g1;show go (-1) n (go 1 n y)=_;rw[c];show b6 (-1) n (other n<|other n<|go 1 n x)=_;rw[(cS T d).2.1];exact mJ<|cE T a
theorem Yt(n:bc)(e:bi):∀k,((wk n e k).map<|aw n).Perm<|((range k).map λi=>aw n<|it (two n) i e)++(range k).map λi=>aw n<|go 1 n<|it (two n) i e
 |0=>List.Perm.refl _
 |k+1=>by
  rw[Cu,Ai,Ai];show((wk n e k++[it (two n) k e,go 1 n<|it (two n) k e]).map<|aw n).Perm _;rw[Ai];refine((Yt n e k).append_right _).trans ?_;generalize ((range k).map λi=>aw n<|it (two n) i e)=A;generalize ((range k).map λi=>aw n<|go 1 n<|it (two n) i e)=B;show(A++B++[aw n<|it (two n) k e,aw n<|go 1 n<|it (two n) k e]).Perm ((A++[aw n<|it (two n) k e])++(B++[aw n<|go 1 n<|it (two n) k e]));rw[Ap,Ap];apply JL A;show(B++([aw n<|it (two n) k e]++[aw n<|go 1 n<|it (two n) k e])).Perm ([aw n<|it (two n) k e]++(B++[aw n<|go 1 n<|it (two n) k e]));rw[<-Ap,<-Ap];exact UJ _ Cq
def dH(n:bc)(e:bi):List bi:=ah<|walker n e
def AK(p:kU n e k):dH n e=(range k).map λi=>it (two n) i e:=by
 unfold dH walker;rw[wX p,Wo]
theorem Ph(h:it (two n) k e=e):∀m,it (two n) (k*m) e=e
 |0=>rfl
 |m+1=>by rw[Nat.mul_succ,Nat.add_comm,qZ,h,Ph h m]
def mU(T:ao n)(h:e∈ends n):x∈dH n e↔∃i,it (two n) i e=x:=by
 obtain⟨k,p,_⟩:=sr T h;rw[AK p,Ag]
 constructor
 ·grind
 ·rintro ⟨i,q⟩;refine⟨i%k,Bg.mpr<|Hm _ p.pos,?_⟩;rw[<-q];have:=Nat.div_add_mod i k
  conv=>rhs;rw[<-this]
  rw[qZ,Ph p.back]
def AO(T:ao n)(h:e∈ends n):∀x∈dH n e,x∈ends n:=λx a=>by
 obtain⟨i,q⟩:=(mU T h).mp a;rw[<-q];exact iK T h i
def Yu(T:ao n)(h:e∈ends n)(a:x∈dH n e):∃y∈dH n e,two n y=x:=by
 obtain⟨i,q⟩:=(mU T h).mp a;obtain⟨k,p,_⟩:=sr T h;have b:=p.pos;refine⟨it (two n) (i+k-1) e,(mU T h).mpr ⟨_,rfl⟩,?_⟩;show it (two n) (i+k-1+1) e=x;rw[show i+k-1+1=k+i by lia,qZ,p.back,q]
def II(T:ao n)(h:e∈ends n)(a:x∈dH n e):two n x∈dH n e:=by
 obtain⟨i,q⟩:=(mU T h).mp a;exact(mU T h).mpr ⟨i+1,by rw[<-q];rfl⟩
def Yv(T:ao n)(h:e∈ends n)(b:x∈ends n):aw n x∈(dH n e).map (aw n)↔x∈dH n e\/other n x∈dH n e:=by
 rw[Ag]
 constructor
 ·rintro ⟨y,a,q⟩
  obtain c|c:=xn T b (AO T h y a) q.symm
  ·exact .inl<|c ▸ a
  ·exact .inr<|c ▸ a
 ·rintro (c|c)
  ·exact⟨x,c,rfl⟩
  ·refine⟨_,c,?_⟩;obtain⟨z,d⟩:=af.mp b;rw[cB d,cB (cS T d).1]
def vI(T:ao n)(h:e∈ends n):other n (other n e)=e:=by
 obtain⟨z,a⟩:=af.mp h;exact(cS T a).2.1
def vJ(n:bc)(a:Ñ):Prop:=∀x∈ends n,(aw n (two n x)∈a↔aw n x∈a)
theorem Pj(T:ao n)(a:vJ n b)(h:e∈ends n):∀i,aw n (it (two n) i e)∈b↔aw n e∈b
 |0=>VG
 |i+1=>(a _<|iK T h i).trans<|Pj T a h i
def Yw(T:ao n)(h:e∈ends n):vJ n ((dH n e).map<|aw n):=λx a=>by
 rw[Yv T h<|pK T a,Yv T h a]
 constructor
 ·rintro (c|c)
  ·obtain⟨y,b,q⟩:=Yu T h c;exact .inl<|wW T (AO T h y b) a q ▸ b
  ·have:=II T h c;rw[Pg T a]at this;exact .inr this
 ·rintro (c|c)
  ·exact .inl<|II T h c
  ·obtain⟨y,b,q⟩:=Yu T h c;have d:=AO T h y b;have f:two n x=other n y:=by
    rw[<-vI T a,<-q,Pg T d]
   exact .inr<|by rwa[f,vI T d]
structure tD(n:bc)(es:List bi)(told:Ñ)(ws:List<|List bi):Prop where
 nd:((ws.flatMap ah).map<|aw n).Nodup
 new:∀x∈ws.flatMap ah,x∈ends n/\aw n x∉told
 cov:∀e∈es,aw n e∈told\/aw n e∈(ws.flatMap ah).map (aw n)
 wk:∀w∈ws,∃e,e∈ends n/\w=walker n e
theorem IJ(T:ao n):∀s d,(∀e∈s,e∈ends n)->vJ n d->tD n s d (dE n s d)
 |[],d,_,_=>by
  unfold dE;exact⟨Co,λx l=>(nomatch l),λe m=>(nomatch m),λw o=>(nomatch o)⟩
 |e :: r,d,m,c=>by
  have h:=m e<|Ac ..;unfold dE
  by_cases q:aw n e∈d
  ·rw[BL q];have I:=IJ T r d (λa f=>m a<|Af _ f) c;refine⟨I.nd,I.new,λa f=>?_,I.wk⟩
   obtain rfl|f:=Ak.mp f
   ·exact .inl q
   ·exact I.cov a f
  ·rw[C q];have u:vJ n (d++(ah<|walker n e).map (aw n)):=λx l=>by
    rw[Al,Al];exact or_congr (c x l)<|Yw T h x l
   have I:=IJ T r _ (λa f=>m a<|Af _ f) u;have fresh:∀x∈dH n e,x∈ends n/\aw n x∉d:=λx l=>by
    obtain⟨i,k⟩:=(mU T h).mp l;refine⟨AO T h x l,λz=>q ?_⟩;rw[<-k]at z;exact(Pj T c h i).mp z
   refine⟨?_,λx l=>?_,λa f=>?_,λw o=>?_⟩
   ·rw[Cm,Ai,Bj];refine⟨?_,I.nd,λa f b v k=>?_⟩
    ·obtain⟨k,p,_⟩:=sr T h;show((dH n e).map<|aw n).Nodup;rw[AK p,Bi,Cg,Ez,Bs];intro i j A t y;rw[Ee,Ee];rw[Cw]at t;exact OI T h p y t
    ·subst k;obtain⟨x,l,rfl⟩:=Ag.mp v;exact(I.new x l).2<|Ar _ f
   ·rw[Cm]at l
    obtain k|k:=Al.mp l
    ·exact fresh x k
    ·exact⟨(I.new x k).1,λz=>(I.new x k).2<|As _ z⟩
   ·rw[Cm,Ai]
    obtain rfl|f:=Ak.mp f
    ·exact .inr<|As _<|Ag.mpr ⟨a,(mU T h).mpr ⟨0,rfl⟩,rfl⟩
    ·obtain k|k:=I.cov a f
     ·obtain k|k:=Al.mp k
      ·exact .inl k
      ·exact .inr<|As _ k
     ·exact .inr<|Ar _ k
   ·obtain rfl|o:=Ak.mp o
    ·exact⟨e,h,rfl⟩
    ·exact I.wk w o
def Yx{n:bc}(T:ao n){e:bi}(h:e∈ends n):((walker n e).map<|aw n).Perm ((dH n e).map (aw n)++(dH n e).map λx=>aw n<|go 1 n x):=by
 obtain⟨k,p,_⟩:=sr T h;rw[AK p,Bi,Bi];unfold walker;rw[wX p];exact Yt n e k
theorem Yy{n:bc}(T:ao n):∀{ws:List (List bi)},(∀w∈ws,∃e,e∈ends n/\w=walker n e)->(ws.flatMap λw=>w.map<|aw n).Perm ((ws.flatMap ah).map (aw n)++(ws.flatMap ah).map λx=>aw n<|go 1 n x)
 |[],_=>List.Perm.refl _
 |w :: ws,h=>by
  obtain⟨e,a,rfl⟩:=h w<|Ac ..;have I:=Yy T (ws:=ws) λw b=>h w<|Af _ b;rw[Cm,Cm,Ai,Ai];refine((Yx T a).append I).trans ?_;show(((dH n e).map (aw n)++(dH n e).map λx=>aw n<|go 1 n x)++_).Perm (((dH n e).map (aw n)++_)++((dH n e).map (λx=>aw n<|go 1 n x)++_));generalize (dH n e).map (aw n)=A;generalize ((dH n e).map λx=>aw n<|go 1 n x)=B;generalize (ws.flatMap ah).map (aw n)=D;generalize ((ws.flatMap ah).map λx=>aw n<|go 1 n x)=F;rw[Ap,Ap];refine JL A ?_;rw[<-Ap,<-Ap];exact UJ _ Cq
noncomputable abbrev aE(n:bc):List (List bi):=dE n (ends n) []
def Pk(n:bc):vJ n []:=λx _=>by simp
def ra{n:bc}(T:ao n):tD n (ends n) [] (aE n):=IJ T (ends n) [] (λ_ h=>h)<|Pk n
def IL{n:bc}(T:ao n){z:Str}(b:z∈ag n):(((aE n).flatMap ah).map<|aw n).count z=1:=by
 have I:=ra T;rw[List.Nodup.count I.nd,BL];have:pos n z≠[]:=λq=>by have:=qG n z;rw[q,T z b]at this;cases this
 obtain⟨p,a⟩:=Dy _ this;have a:=aJ.mp a;have:=I.cov p<|af.mpr ⟨z,a⟩;rw[cB a]at this
 obtain k|k:=this
 ·cases k
 ·exact k
def P9{n:bc}(T:ao n){x:bi}(a:x∈(aE n).flatMap ah):two n x∈(aE n).flatMap ah:=by
 obtain⟨w,b,a⟩:=Dd.mp a;obtain⟨e,c,rfl⟩:=(ra T).wk w b;exact Dd.mpr ⟨_,b,II T c a⟩
theorem Pn{α d:Type}{f:α->d}:∀{l:List α},l.Nodup->(∀a∈l,∀b∈l,f a=f b->a=b)->(l.map f).Nodup
 |[],_,_=>Co
 |a :: l,h,inj=>by
  have h:=Bb.mp h;refine Bb.mpr ⟨λe=>?_,Pn h.2 λx i y j=>inj x (Af _ i) y<|Af _ j⟩;obtain⟨b,c,q⟩:=Ag.mp e;have:=inj a (Ac ..) b (Af _ c) q.symm;exact h.1<|this ▸ c
theorem Pp{α m:Type}{f:α->m}:∀{l:List α},(l.map f).Nodup->∀a∈l,∀b∈l,f a=f b->a=b
 |c :: l,h,a,n,b,i,q=>by
  rw[Be,Bb]at h
  obtain j|k:=Ak.mp n
  ·obtain d|e:=Ak.mp i
   ·rw[j,d]
   ·exact absurd (Ag.mpr ⟨b,e,by rw[<-q,j]⟩) h.1
  ·obtain d|e:=Ak.mp i
   ·exact absurd (Ag.mpr ⟨a,k,by rw[q,d]⟩) h.1
   ·exact Pp h.2 a k b e q
theorem AQ{α b:Type}{f:α->b}:∀{l:List α},(l.map f).Nodup->l.Nodup
 |[],_=>Co
 |a :: l,h=>by
  rw[Be,Bb]at h;exact Bb.mpr ⟨λk=>h.1<|Ag.mpr ⟨a,k,rfl⟩,AQ h.2⟩
def Pq{n:bc}(T:ao n):(((aE n).flatMap ah).map λx=>aw n<|go 1 n x).Perm (((aE n).flatMap ah).map<|aw n):=by
 have I:=ra T;refine uV (Pn (AQ I.nd) λx d y b q=>?_) (λz a=>?_)<|by rw[Aa,Aa];exact Aq _
 ·have e:=(I.new x d).1;have f:=(I.new y b).1
  obtain c|c:=b4 T e f q
  ·exact c
  ·exfalso
   have t:aw n (two n y)=aw n x:=by
    obtain⟨z,a⟩:=af.mp e;rw[c,cB a,cB (cS T a).1]
   have:=Pp I.nd _ (P9 T b) x d t;obtain⟨z,a⟩:=af.mp e;exact(cS T a).2.2<|c.symm.trans this
 ·obtain⟨x,d,rfl⟩:=Ag.mp a;obtain⟨y,b⟩:=af.mp<|fw (c:=1) T (I.new x d).1;rw[cB b];refine Bo.mp ?_;rw[IL T<|dP b];exact Fx
def Jv{n:bc}(T:ao n){z:Str}(a:z∈ag n):((aE n).flatMap λw=>w.map<|aw n).count z=2:=by
 rw[(Yy T (ra T).wk).count_eq,Dw,(Pq T).count_eq,IL T a]
theorem Yz(n:bc)(z:Str):∀ws:List<|List bi,(ws.flatMap λw=>w.map<|aw n).count z=(ws.map λw=>(w.map<|aw n).count z).sum
 |[]=>rfl
 |w :: ws=>by rw[Cm,Dw,Yz n z ws];rfl
theorem YB:∀(l:List Nat)(x:Nat),x∈l->x<=l.sum
 |y :: l,x,h=>by
  rw[Ff]
  obtain rfl|h:=Ak.mp h
  ·omega
  ·have:=YB l x h;omega
theorem Tb{n:bc}(T:ao n){z:Str}(a:z∈ag n){w:List bi}(b:w∈aE n):(w.map<|aw n).count z<=2:=by
 have h:=Jv T a;rw[Yz]at h;have:=YB ((aE n).map λw=>(w.map<|aw n).count z) _<|Ag.mpr ⟨w,b,rfl⟩;omega
def IM{n:bc}{w:List bi}{ss:Ñ}(b:∀c∈w,c∈ends n)(h:∀z,z∈ss↔(w.map<|aw n).count z=1):∀z∈ss,z∈ag n:=λz d=>by
 have:=Bo.mp (by rw[(h z).mp d];exact Fx);obtain⟨e,f,rfl⟩:=Ag.mp this;obtain⟨y,a⟩:=af.mp<|b e f;rw[cB a];exact dP a
theorem Pt{n:bc}(T:ao n){w:List bi}(a:w∈aE n){ss:Ñ}(h:∀z,z∈ss↔(w.map<|aw n).count z=1){z:Str}(b:z∈ag n):decide (z∈ss)=bP n w z:=by
 have:=Tb T b a;unfold bP;refine decide_eq_decide.mpr<|(h z).trans ?_;omega
def vl{n:bc}(T:ao n){w:List bi}(a:w∈aE n){ss:Ñ}(h:∀z,z∈ss↔(w.map<|aw n).count z=1):gg n ss=true:=by
 refine W4 (RR T<|sv T (ends n) [] (λ_ h=>h) w a) λz b=>?_;rw[<-Pt T a h b]
 by_cases k:z∈ss
 ·rw[BW k];exact Bu.mpr k
 ·rw[BR k];exact Fo.mpr λq=>k<|Bu.mp q
def yO{n:bc}(T:ao n)(f:HF n)(k:(n.map (·.1)).Nodup)(l:0<n.length){w:List bi}(i:w∈aE n){ss:Ñ}(h:∀z,z∈ss↔(w.map<|aw n).count z=1):∃m,bt n ss m:=by
 have W:=sv T (ends n) [] (λ_ h=>h) w i;have b:=IM W.ends h;obtain⟨zs,j,c⟩:=pQ<|ag n;refine Yq T f.1 k l (jQ j) c b λt o=>?_;obtain⟨r,d⟩:=f.2.2 t o;have:=tZ T W d;have e:bj zs t (λz=>decide (z∈ss))=bj zs t (λz=>decide ((w.map<|aw n).count z%2=1)):=by
  unfold bj
  congr 1
  refine At λz p=>?_;show(t z && decide (z∈ss))=(t z && decide ((w.map<|aw n).count z%2=1));rw[Pt T i h<|(c z).mp p];rfl
 rw[e,IH (jQ j) λy a=>?_]
 ·rwa[Bi]
 ·obtain⟨x,q,rfl⟩:=Ag.mp a;obtain⟨y,a⟩:=af.mp<|W.ends x q;rw[cB a];exact(c y).mpr<|dP a
end Nt
namespace L2
open PySem PySem.Spec PyProof.Rows
inductive vK(K:aa)(x:V)(vs:List V)(H:Hp)(Q:VK):Prop
 |mk (l:Addr)(zs:Ñ)(z:Str)(j:Nat)(_:x=.ref l)(_:vs=[.str z])(_:av K H l<|zs.map V.str)(_:zs[j]?=some z)(_:z∉zs.take j)(_:j<100000)(_:Q (.int (j:Int)) H)
theorem gs{X:Cx}:rL X "list.index" (vK X.K):=by
 intro o s σ H x vs v us Q I E rv h;obtain⟨l,zs,z,j,rfl,rfl,G,p,J,ke,q⟩:=h;cases E;obtain⟨u,rfl,L⟩:=rv.one;obtain⟨d,rfl⟩:=L;obtain⟨a,r,M,hz⟩:=I.list G;have b:=r.length;rw[Aa]at b;have qK:=(Ad.mp p).1;have val:∀(m:Nat)(c:m<a.length),∃y t,zs[m]?=some y/\a[m]=Value.str y t:=λm c=>by
  obtain⟨w,A,N⟩:=r.get (i:=m) (x:= .str<|zs[m]'(by omega)) (by rw[Aj,Ab<|by omega];rfl);rw[Ab c]at A;obtain⟨t,rfl⟩:=N;exact⟨_,t,Ab (by omega),Option.some.inj A⟩
 obtain⟨⟨cls,O,data,T⟩,B,D,n,hd⟩:=id M.isList;simp only at D hd;subst D hd;refine KN RW ⟨_,B,rfl⟩ PySem.F.entry_list_index (PySem.F.args_list_index_2 _ _) (SeqAt.list_indexAt l a.toArray n O T (.str z d) (iV<|.str z) j (by simp;omega) (by omega) ?_ λm c Y=>?_) ⟨B,λy hy=>wn (show br (.str z) (.str z d) from⟨d,rfl⟩) rfl r (qI zs) y (by simpa using hy),?_⟩
 ·obtain⟨y,t,e,f⟩:=val j (by omega);rw[p]at e;cases e;show iV (.str z) a[j]=true;rw[f];show(z == z)=true;simp
 ·obtain⟨y,t,e,f⟩:=val m (by simpa using c);show iV (.str z) (a[m]'(by simpa using c))=false;rw[f];show(y == z)=false;refine beq_eq_false_iff_ne.mpr λk=>J ?_;rw[<-k];exact An (i:=m)<|by rwa[List.getElem?_take,BL Y]
 ·exact⟨.int (j:Int),H,I.tok _,⟨_,rfl⟩,q⟩
set_option tactic.hygienic true in
theorem q47{X:Cx}{c:St}{H:Hp}{e1 e2:Expr}{k:Nat}{pos:Pos}{l:Addr}{x y:V}{R:St->Hp->Prop}(i:X.calm=true)(j:av X.K H l [x,y])(h:Eg X e1 x c H λd m=>Eg X e2 y d m R)
  (n:(assignEach [e1,e2] X.env).length=2:=by rfl) (p:(assignEach [e1,e2] X.env).findIdx? (·.1)=none:=by rfl)
  (q:(assignEach [e1,e2] X.env).map (·.2)=[assign e1 X.env,assign e2 X.env]:=by rfl):Eg X (.Tuple [e1,e2] k pos) (.ref l) c H R:=by
 refine⟨λa s u I r=>?_⟩;cases r;obtain⟨t,rv,v,_⟩:=I.list j;cases rv with
 |cons w rv=>
 cases rv with
 |cons z rv=>
 cases rv;rename_i A B;rw[assign_Tuple];refine BJ<|DX ?_;unfold unpack;rw[n,p,q];refine BJ<|CK<|PySem.W.kun_itemsOf (items:=#[A,B]) (I.ok.hd i) v.isList λD E=>?_;have G:be X a c H {s with heap:=D}:=I.kept (t':=s.toks) λb o e=>E b o (Bw<|Ax e) e;refine OJ<|aO (h.run a _ _ G w) λ_ T⟨J,Y,L,M⟩=>?_;refine OJ<|aO (M.run a _ _ L z) λ_ s4⟨f,N,O,Q⟩=>?_;exact BP ⟨f,N,O,Q⟩
structure Xo(h:Heap)(e T:Addr)(C fl:Value):Prop where
 ex:∃oe vs,h.get? e=some oe/\oe.cls=C/\oe.dict=none/\oe.data=.fields vs/\vs[1]?=some (.ref T)/\vs[2]?=some .none
 ne:T≠e
 tr:∃oT ts,h.get? T=some oT/\oT.data=.fields ts/\ts[3]?=some fl
structure Kp(fs bad:List Addr)(h h':Heap):Prop where
 keep:∀b o,h.get? b=some o->b∉fs->b∉bad->h'.get? b=some o
 slot:∀b o,h.get? b=some o->b∈fs->∃sl,h'.get? b=some {o with slots:=sl}
def OE(o:Obj)(f:Array Value->Array Value):(o.mapFields f).dict=o.dict:=by
 obtain⟨c,d,a,b⟩:=o;cases a<;>rfl
theorem YC{M:Model}{A:Around}{E:Î}{s:Shared}{base:Heap}{env:Env}{outer:List Env}{L e:Addr}{j:Obj}{vs:Array Value}{head:Value}{nx:Bool}{Q:Unit->Shared->Prop}(Y:A.frames=some (env :: outer))(r:s.heap.FunFrames base<|env :: outer)(hf:env.frame=some L)
  (t:s.heap.get? e=some j) (hd:j.data=.fields vs) (IP:j.dict=none) (l:1<vs.size) (h2:vs[2]?=some .none)
  (h:∀h' T,s.heap.get? T=none->Xo h' e T j.cls .none->Kp (gP<|env :: outer) [e] s.heap h'->Q () {s with heap:=h'}):
  wpAny M A (do let a <-frameOf env;let d <-entryPlaceOf L nx;let b <-EntryCells.newEntry head a .none (rawInt L) .none d;setField (.ref e) 1 b) (λ_ s'=>wpAny M A (setFlight (.ref e) none) Q E s') E s:=by
 have u:e∉gP (env :: outer):=λhm=>by
  obtain⟨_,o,v,hn⟩:=r.mem hm;rw[t]at v;cases v;exact hn vs hd
 refine BJ<|wpAny_frameOf_fun Y r hf λc k=>?_;refine BJ<|wpAny_entryPlaceOf λd ip=>?_;unfold EntryCells.newEntry newFields;refine BJ<|DN ?_<|ip.sizeOk5 _ _ _ _ _;generalize w:({cls:= .type "traceback",dict:=none,data:= .fields ([head,.ref L,.none,rawInt L,.none]++(if d.isEmpty then replicate 6 Value.none else d)).toArray}:Obj)=i;have B:c.get? e=some j:=(k.2.1 e u).trans t;have D:(c.push i).get? e=some j:=Am _ B;have tb:(c.push i).get? c.objs.size=some i:=Az c (by rw[<-w];rfl);have m:c.objs.size≠e:=De<|Ax B;refine DY D hd l ?_;have n:=QT hd (·.setIfInBounds 1 (Value.ref c.objs.size));have G:=Du (Obj.mapFields (·.setIfInBounds 1 (Value.ref c.objs.size))) D<|NQ n;have H:((c.push i).update e (Obj.mapFields (·.setIfInBounds 1 (Value.ref c.objs.size)))).get? c.objs.size=some i:=(Cr _ _<|CG m).trans tb;unfold setFlight;refine BJ (JH G n (x:= .ref c.objs.size) (by simp[l]) ?_);rw[BL (show(Value.ref c.objs.size != Value.none)=true from by simp)];have dT:i.data=.fields ([head,.ref L,.none,rawInt L,.none]++(if d.isEmpty then replicate 6 Value.none else d)).toArray:=by rw[<-w]
 have I:3<([head,.ref L,.none,rawInt L,.none]++(if d.isEmpty then replicate 6 Value.none else d)).toArray.size:=by
  simp only[Bc,Ah,Au,Fj];omega
 refine DY H dT I<|h _ c.objs.size (by
  cases hq:s.heap.get? c.objs.size with
  |none=>rfl
  |some o=>
   obtain⟨J,z⟩:=k.2.2 _ o hq;exact absurd (Ax z)<|Dl _) ?_ ?_
 ·have N:=QT dT (·.setIfInBounds 3 ((none:Option Addr).elim Value.none λf=>rawInt f));refine⟨⟨_,_,(Cr _ _ m).trans G,Obj.cls_mapFields _ _,by rwa[OE],n,by simp[l],by rwa[Array.getElem?_setIfInBounds_ne<|by decide]⟩,m,⟨_,_,Du _ H<|NQ N,N,?_⟩⟩;rw[Array.getElem?_setIfInBounds_self_of_lt I];rfl
 ·have O:∀b o,b≠e->c.get? b=some o->(((c.push i).update e (Obj.mapFields (·.setIfInBounds 1 (Value.ref c.objs.size)))).update c.objs.size (Obj.mapFields (·.setIfInBounds 3 ((none:Option Addr).elim Value.none λf=>rawInt f)))).get? b=some o:=λb o p q=>by
   rw[Cr _ _<|De<|Ax q,Cr _ _<|CG p];exact Am _ q
  refine⟨λb o q nf nb=>O b o (λz=>nb<|by simp[z])<|(k.2.1 b nf).trans q,λb o q p=>?_⟩;obtain⟨J,z⟩:=k.2.2 b o q;exact⟨J,O b _ (λy=>u<|y ▸ p) z⟩
def q3l{M:Model}{A:Around}{E:Î}{s:Shared}{base:Heap}{env:Env}{outer:List Env}{L e:Addr}{a:Obj}{vs:Array Value}{Q:Unit->Shared->Prop}(f:A.frames=some (env :: outer))(i:s.heap.FunFrames base<|env :: outer)(b:env.frame=some L)
  (c:s.heap.get? e=some a) (hd:a.data=.fields vs) (j:a.dict=none) (d:vs[1]?=some .none) (k:vs[2]?=some .none)
  (h:∀h' T,s.heap.get? T=none->Xo h' e T a.cls .none->Kp (gP<|env :: outer) [e] s.heap h'->Q () {s with heap:=h'}):
  wpAny M A (noteFrame (.ref e) env) (λ_ s'=>wpAny M A (setFlight (.ref e) none) Q E s') E s:=by
 unfold noteFrame;simp only[b];refine BJ<|JH c hd d ?_;rw[C<|by decide];exact YC f i b c hd j (Gg.mp d).1 k h
def q7o{M:Model}{A:Around}{E:Î}{s:Shared}{base:Heap}{env:Env}{outer:List Env}{L e T:Addr}{a:Value}{Q:Unit->Shared->Prop}(w:A.frames=some (env :: outer))(l:s.heap.FunFrames base<|env :: outer)(m:env.frame=some L)(x:Xo s.heap e T a .none)
  (h:∀h' c,s.heap.get? c=none->Xo h' e c a .none->Kp (gP<|env :: outer) [e,T] s.heap h'->Q () {s with heap:=h'}):
  wpAny M A (noteFrame (.ref e) env) (λ_ s'=>wpAny M A (setFlight (.ref e) none) Q E s') E s:=by
 obtain⟨⟨oe,n,p,B,D,hd,r,G⟩,H,⟨oT,ts,i,dT,t⟩⟩:=x;subst B;unfold noteFrame;simp only[m];refine BJ<|JH p hd r ?_;rw[BL (show(Value.ref T != Value.none)=true from by simp)];refine BJ<|JH i dT t ?_;rw[C (show ¬((Value.none == rawInt L)=true)from by simp[rawInt])];refine BJ<|DY i dT (Gg.mp t).1 ?_;have d:∀b,b≠T->(s.heap.update T (Obj.mapFields (·.setIfInBounds 3 Value.none))).get? b=s.heap.get? b:=λb j=>Cr _ _<|CG j;have u:∀b o,s.heap.get? b=some o->(∀n,o.data ≠ .fields n)->b≠T:=λb o q f z=>by
  rw[z,i]at q;cases q;exact f ts dT
 have I:T∉gP (env :: outer):=λJ=>by
  obtain⟨_,o,N,f⟩:=l.mem J;exact u T o N f rfl
 refine YC w (l.of_keeps λb o q f=>⟨o,(d b<|u b o q f).trans q,rfl⟩) m ((d e<|CG H).trans p) hd D (Gg.mp r).1 G λh' c z x k=>h h' c ?_ x ⟨λb o q O v=>?_,λb o q j=>?_⟩
 ·cases Y:s.heap.get? c with
  |none=>rfl
  |some o=>
   by_cases y:c=T
   ·have:=Du (Obj.mapFields (·.setIfInBounds 3 Value.none)) i<|NQ<|QT dT _;rw[y]at z;exact absurd (this.symm.trans z)<|by simp
   ·have:=(d c y).trans Y;exact absurd (this.symm.trans z)<|by simp
 ·have n3:b≠T:=λy=>v (by simp[y]);exact k.keep b o ((d b n3).trans q) O λy=>v<|by simp at y;simp[y]
 ·exact k.slot b o ((d b λy=>I<|y ▸ j).trans q) j
def Px(u:Un d [] H H' h i)(k:Kp f2 bad i j)(l:∀b o,h.get? b=some o->b∈f2->b∈d)(m:∀b∈bad,h.get? b=none):Un d [] H H' h j:=by
 have a:∀b o,h.get? b=some o->b∉bad:=λb o q z=>by rw[m b z]at q;cases q
 refine⟨λb o q n e _=>k.keep b o (u.keep b o q n e<|by simp) (λz=>e<|l b o q z)<|a b o q,λb o q n p _=>?_,u.free,λb o q _=>?_,u.hU,u.gO,u.hV⟩
 ·obtain⟨r,z⟩:=u.slot b o q n p<|by simp
  by_cases y:b∈f2
  ·obtain⟨f,c⟩:=k.slot b _ z y;exact⟨f,c⟩
  ·exact⟨r,k.keep b _ z y<|a b o q⟩
 ·obtain⟨s,z⟩:=u.there b o q<|by simp
  by_cases y:b∈f2
  ·obtain⟨f,c⟩:=k.slot b _ z y;exact⟨_,c⟩
  ·exact⟨s,k.keep b _ z y<|a b o q⟩
def YG(x:cG P w H c)(k:Kp f2 bad c d)(f:∀b∈f2,H b=none)(h:∀b∈bad,H b=none):cG P w H d:=λa o e=>by
 refine(x a o e).jX (λb u i q=>k.keep b u q (λz=>?_) λz=>?_) (λ_ q=>q) λ_ _ q=>q
 ·grind
 ·grind
theorem Ko(x:aI P w H h a o):∃u,h.get? a=some u:=by
 cases o with
 |lst xs=>obtain⟨_,_,_,_,q⟩:=x;exact⟨_,q⟩
 |tup xs=>obtain⟨_,_,_,u,q,_⟩:=x;exact⟨_,q⟩
 |dK kvs=>obtain⟨_,_,_,_,u,_,_,q,_⟩:=x;exact⟨_,q⟩
 |dT kvs=>obtain⟨_,_,_,_,u,_,_,q,_⟩:=x;exact⟨_,q⟩
 |set S n=>obtain⟨u,_,_,_,q,_⟩:=x;exact⟨_,q⟩
 |ins b d c=>obtain⟨_,_,_,q,_⟩:=x;exact⟨_,q⟩
 |own y=>exact x
 |xd c=>obtain⟨_,⟨_,_,_,q,_⟩,_⟩:=x;exact⟨_,q⟩
 |DU lo e=>obtain⟨_,_,_,q⟩:=x;exact⟨_,q⟩
 |dX i u=>obtain⟨q,_⟩:=x;exact⟨_,q⟩
 |rF ps=>exact⟨_,x⟩
 |met f y=>exact⟨_,x⟩
 |ext j=>obtain⟨_,q,_⟩:=x;exact q
def XF(P:Program)(w:World):jY:=λb H s E e c=>∃f T a d,e=.ref f/\E a none d/\c.os=s.os/\AllBare c.gens/\Un (gP b) [] H d s.heap c.heap/\cG P w d c.heap/\Xo c.heap f T a .none /\
 s.heap.get? f=none/\s.heap.get? T=none/\d f=none/\d T=none
def YH{s:Shared}:gP (envOfC a scope s.heap.objs.size f b :: outer)=s.heap.objs.size :: gP outer:=rfl
theorem AT(u:Un d ex e Hb h a)(c:b∉ex)(n:a.get? b=none):h.get? b=none:=by
 cases q:h.get? b with
 |none=>rfl
 |some o=>obtain⟨f,z⟩:=u.there b o q c;rw[n]at z;cases z
theorem Py(x:cG P w a c)(n:c.get? b=none):a b=none:=by
 cases q:a b with
 |none=>rfl
 |some o=>
  exfalso
  obtain⟨u,z⟩:=Ko<|x b o q;rw[n]at z;cases z
def We{K:aa}(I:be (dY (XF P w) P w K mg base N c scope f j A outer s H E) m v i l)(x:Xo l.heap e T a .none)(n:E a none i)
  (p:s.heap.get? e=none) (B:s.heap.get? T=none) (r:i e=none) (D:i T=none):(dY (XF P w) P w K mg base N c scope f j A outer s H E).xe (.ref e) l:=by
 show wpAny (model P w) (A.deeper<|envOfC c scope s.heap.objs.size f j) (leaving (envOfC c scope s.heap.objs.size f j)<|.ref e) _ _ l;unfold leaving;refine BJ<|q7o I.ok.frames I.stack rfl x λG t z u k=>?_;refine⟨e,t,a,i,rfl,n,I.os,I.bare,Px (H:=H) (h:=s.heap) I.base k (λb o q d=>?_) λb d=>?_,YG I.aP k (λb d=>I.fc b d) λb d=>?_,u,p,AT (ex:=[]) (Hb:=i) I.base (by simp) z,r,Py I.aP z⟩
 ·rw[YH]at d
  obtain y|y:=Ak.mp d
  ·exact absurd (Ax q)<|y▸(Dl _)
  ·exact y
 ·grind
 ·grind
def b5{w:World}{K:aa}:qf (XF P w) (dY (XF P w) P w K mg base N d scope f p A outer s H E) E:=by
 rintro h q i r e t I ⟨u,T,a,v,rfl,j,os,c,un,k,x,l,m,n,o⟩;exact We (I.call' (ch:=[]) os un k c (λb z=>absurd z<|by simp)) x j (AT (ex:=[]) (Hb:=i) I.base (by simp) l) (AT (ex:=[]) (Hb:=i) I.base (by simp) m) n o
abbrev rd:Ó:=[.type "ValueError",.type "Exception",.type "BaseException",.type "object"]
def XC(K:aa)(a:Addr):Prop:=PySem.W.excIn K a rd "ValueError.__new__" = true
set_option tactic.hygienic true in
def XC.obj{K:aa}(q:XC K a)(X:K.In h):∃ bm N nm b bs hdct sn sub ab col dd k0 k1 k2 k3 k5 mN,h.get? a=some (excClassObj nm b a N bs bm hdct sn sub ab col dd k0 k1 k2 k3 k5 "ValueError.__new__")/\h.Ns N mN/\mN "__init__" = none/\OwnTail h rd bm:=by
 unfold XC PySem.W.excIn at q
 split at q
 ·rename_i dd l e m
  split at q
  ·rename_i D bm k0 k1 k2 k3 n k5 f i;simp only[Bx,JQ,KY]at q;obtain⟨⟨⟨⟨⟨o,p⟩,j⟩,r⟩,c⟩,k⟩:=q;obtain⟨nm,bs,s,ns,b,hd,sn,sub,ab,col,del⟩:=l
   dsimp only at f j c k
   subst o p f j;have d:e=#[k0,k1,k2,k3,some<|.builtin "ValueError.__new__",k5]:=by
    cases e;simp only at i;rw[i]
   subst d;exact⟨bm,ns,nm,b,bs,hd,sn,sub,ab,col,dd,k0,k1,k2,k3,k5,_,X _ _ m,.of_isNs<|PySem.W.isNs_of_in X c,PySem.W.nsMap_none_of_in X c k,PySem.W.tail_of_in X r⟩
  ·cases q
 ·cases q
def Rz(X:Cx)(E:St->XK):Prop:=∀b c H s d e a args,be X b c H s->Heap.MadeExcOf s.heap d e (.ref a) args->E c (.ref a) none H->X.xe (.ref e) {s with heap:=d}
def Pz(o:Rz X E)(p:X.mg x=some (.ref b))(u:XC X.K b)(v:X.calm=true)(h:Ea X [a] d H λvs j=>vs.length<=sizeLine/\E d (.ref b) none j)(w:Gl X x:=by rfl)(y:(x == ("__debug__" : Str))=false:=by decide)
  (l:starEach [a] X.env=(false,eval a X.env):: starEach [] X.env:=by rfl):fg X (.Raise (some<|.Call (.Name x np) [a] [] z) none pos :: m) D d H:=by
 refine nw (t:=λD d H=>Ea X [a] d H λvs j=>vs.length<=sizeLine/\E d (.ref b) none j) ?_ h;intro c s d H D I h;obtain⟨A,N,nm,B,G,f,J,sub,L,k,M,O,Q,T,Y,k5,mN,oC,oN,oi,n⟩:=u.obj I.ok.mod.xS;refine wpAny_Raise_call_subT (nm:=nm) (q:=B) (N:=N) (bs:=G) (bm:=A) (hdct:=f) (sn:=J) (sub:=sub) (ab:=L) (col:=k) (dd:=M) (k0:=O) (k1:=Q) (k2:=T) (k3:=Y) (k5:=k5) PySem.F.excBase_ValueError (mN:=mN) (n.hasType PySem.F.excBase_ValueError.hasBase) (I.ok.hd v) (by rw[l];rfl) oi<|S8 I w p ⟨rfl,?_⟩ y;have q:=h.run z c s I;rw[l]at q ⊢;refine PB<|aO q λus s2⟨vs,H2,i,r,z2,q2⟩=>⟨rfl,by rwa[<-r.length],i.bk _ _ oC,oN.keeps i.bk,n.keeps i.bk,λh' e hx=>o c d H2 s2 h' e b us i hx q2⟩
def nE(k:∀b o,h.get? b=some o->h'.get? b=some o):Kp [] [] h h':=⟨λb o q _ _=>k b o q,λb o q z=>absurd z<|by simp⟩
def V5{K:aa}:Rz (dY (XF P w) P w K mg base N d scope f l A outer s H E) (λ_=>E):=by
 intro m G i n J e a args I h r;obtain⟨t,u,_,_⟩:=h.there;show wpAny (model P w) (A.deeper<|envOfC d scope s.heap.objs.size f l) (leaving (envOfC d scope s.heap.objs.size f l)<|.ref e) _ _ _;unfold leaving;have v:=Py I.aP h.new;have B:=nE h.keeps;refine BJ<|q3l I.ok.frames (I.stack.of_keeps λb o q _=>⟨o,h.keeps b o q,rfl⟩) rfl u rfl rfl rfl rfl λL T z x k=>?_;have D:=I.aP.kept h.keeps;have j:=Px I.base B (λb o q c=>absurd c<|by simp) λb c=>absurd c (by simp);have p:n.heap.get? T=none:=by
  cases q:n.heap.get? T with
  |none=>rfl
  |some o=>have:=h.keeps _ _ q;exact absurd (this.symm.trans z)<|by simp
 have ns:=AT (ex:=[]) (Hb:=i) I.base (by simp) h.new;refine⟨e,T,.ref a,i,rfl,r,I.os,I.bare,Px j k (λb o q c=>?_) λb c=>?_,YG D k (λb c=>I.fc b c) λb c=>?_,x,ns,AT (ex:=[]) (Hb:=i) I.base (by simp) p,v,Py I.aP p⟩
 ·rw[YH]at c
  obtain y|y:=Ak.mp c
  ·exact absurd (Ax q)<|y▸(Dl _)
  ·exact y
 ·rwa[Ae.mp c]
 ·rwa[Ae.mp c]
def PF(N:Ñ)(a:Str)(scope:Scope)(P:Program)(w:World)(K:aa)(mg:Ò)(base:Heap)(b:uo):Cx:=dY (XF P w) P w K mg base N a scope b.f b.bM b.A b.outer b.s b.H b.E
def bA.gx{K:aa}{st:Stmt}{d:FuncData}{ps:Ñ}{k:Nat}{sp:Sp}(F:bA K x a st f d)(S:ak N ps<|aW st)(len:∀vs H Q E,sp vs H Q E->vs.length=ps.length)
  (e:∀(b:uo)(H:Hp)(vs:List V)(Q:VK),bJ k (b.A.deeper<|envOfC a (aW st) b.s.heap.objs.size b.f b.bM)->sp vs H Q b.E->fg (PF N a (aW st) P w K mg base b) (iW st) (En Q) (il N vs) H):aG P w K mg base (XF P w) (k+1) f d ps sp:=by
 obtain⟨n,o,kV,h,pm,p,i,q,r,rfl,lk,j⟩:=F.ex;refine TR lk j S len λA c s H vs Q E l m=>?_;exact⟨_,ug,e ⟨f,i,A,c,s,H,E⟩ H vs Q l m⟩
def PH{K:aa}:qf (XF P w) (PF N a scope P w K mg base b) b.E:=b5
def PQ{K:aa}:Rz (PF N a scope P w K mg base b) (λ_=>b.E):=V5
structure cV(P:Program)(w:World)(K:aa)(mg:Ò)(base:Heap)(k:Nat)(x:Str)(ps:Ñ)(sp:Sp):Prop where
 ex:∃f fd,aG P w K mg base (XF P w) k f fd ps sp/\ma K fd ps []/\PySem.W.keepIn K (.ref f)=true/\mg x=some (.ref f)
def cV.mono{K:aa}(h:cV P w K mg base j x ps sp)(le:j<=k):cV P w K mg base k x ps sp:=
 let ⟨f,a,F,r⟩:=h.ex;⟨f,a,F.mono le,r⟩
def xr(G:cV X.prog X.w X.K X.mg X.base k x ps sp)(c:bJ k X.A)(d:qf (XF X.prog X.w) X E)
  (h:Ea X (e :: a) f H λvs i=>sp vs i Q E) (j:Gl X x:=by rfl) (l:(x == ("__debug__" : Str))=false:=by decide) (n:fM (e :: a)=true:=by rfl):Ev X (.Call (.Name x p) (e :: a) [] pos) f H Q:=
 let ⟨_,_,F,b,o,m⟩:=G.ex;Uz F c m o b d h j l n
def Df.PR{K:aa}{st:Stmt}{ps:Ñ}{sp:Sp}(d:Df K x st)(X:K.In h)(G:h.Ns mainGlobals mg)
  (e:∀(kV c pm:Value)(i:Option Addr)(j ct:Value)(us:Ó),us.length=ps.length->bindArgs (PySem.W.fnOf x x (pB st) (iW st) (aW st) .none kV c pm i j ct) ⟨us,[]⟩=pure (ps.zip us))
  (ok:∀{f:Addr}{b:FuncData},bA K x x st f b->aG P w K mg base (XF P w) k f b ps sp):cV P w K mg base k x ps sp:=
 let ⟨f,b,a,F⟩:=d;⟨f,b,ok F,F.binds e,F.kp,LQ X G a⟩
def YJ(K:aa)(a S:Addr):Bool:=match K.lookup a with
 |some ⟨_,_,.cls b,_⟩=>b.mro.contains<|.ref S
 |_=>false
open PySem.W
def YK(K:Frag)(a:Addr):Bool:=findIn K (.ref a) "__getattribute__" == some (some<|.builtin "BaseException.__getattribute__") && findIn K (.ref a) "__getattr__" == some none && findIn K (.ref a) "__class__" == some (some<|.builtin "object.__class__") &&
 mroIn K a (.type "object") == some true && mroIn K a (.type "BaseException") == some true && (clsIn K a).isSome
end L2
namespace L2
open PySem PySem.Spec PyProof.Rows
open bv
end L2
namespace L2
open PySem PySem.Spec PyProof.Rows bG
end L2
namespace Nt
open PySem L2 Classical
def jU(k:Nat)(w:List α):List α:=ah<|w.drop k
def e9(k:Nat):Nat->List (List bi)->List (Nat×bi)
 |_,[]=>[]
 |m,w :: a=>((jU k w).map λe=>(m,e))++e9 k (m+1) a
def gy(k:Nat)(ws:List<|List bi):List (Nat×bi):=e9 k 0 ws
theorem YL(k:Nat):∀m ws,(e9 k m ws).map (·.2)=ws.flatMap (jU k)
 |m,[]=>rfl
 |m,w :: ws=>by
  rw[e9,Ai,YL k (m+1) ws,Bi,Cm]
  congr 1
  exact List.map_id' _
def xt:jU 1 (walker n e)=(ah<|walker n e).map (go 1 n):=by
 unfold walker jU;have l:=uK n e<|yX n e;apply Dz;intro i;rw[Aj,uJ,uJ,QS]
 by_cases h:i<yX n e
 ·rw[show 1+2*i=2*i+1 by lia,F9 n e _ i h,uL n e _ i h];rfl
 ·grind
theorem YM:∀{ws:List (List bi)},(∀w∈ws,∃e,e∈ends n/\w=walker n e)->ws.flatMap (jU 1)=(ws.flatMap ah).map (go 1 n)
 |[],_=>rfl
 |w :: ws,h=>by
  obtain⟨e,_,rfl⟩:=h w<|Ac ..;rw[Cm,Cm,Ai,xt,YM λv a=>h v<|Af _ a]
theorem YN(T:ao n){k:Nat}(a:k<=1):((gy k<|aE n).map λp=>aw n p.2).Perm (((aE n).flatMap ah).map<|aw n):=by
 have e:((gy k<|aE n).map λp=>aw n p.2)=((aE n).flatMap<|jU k).map (aw n):=by
  rw[gy,<-YL k 0<|aE n,Bi];rfl
 rw[e]
 match k,a with
 |0,_=>exact List.Perm.refl _
 |1,_=>
  rw[YM (ra T).wk,Bi];exact Pq T
def PU(T:ao n)(a:k<=1):((gy k<|aE n).map λp=>aw n p.2).Nodup:=(YN T a).nodup_iff.mpr (ra T).nd
def dc(T:ao n)(b:k<=1):z∈((gy k<|aE n).map λp=>aw n p.2)↔z∈ag n:=by
 rw[(YN T b).mem_iff];refine⟨λh=>?_,λh=>Bo.mp<|by rw[IL T h];exact Fx⟩;obtain⟨x,c,rfl⟩:=Ag.mp h;obtain⟨y,a⟩:=af.mp ((ra T).new x c).1;rw[cB a];exact dP a
def bW(n:bc)(k:Nat)(z:Str):List (Nat×bi):=(gy k<|aE n).filter λp=>decide (aw n p.2=z)
theorem IQ{f:α->Str}:∀{l:List α},(l.map f).Nodup->∀{p},p∈l->(l.filter λx=>decide (f x=f p))=[p]
 |a :: l,b,p,c=>by
  rw[Be,Bb]at b;rw[Cn]
  by_cases h:f a=f p
  ·rw[BL<|BW h];have e:a=p:=by
    obtain q|q:=Ak.mp c
    ·exact q.symm
    ·cases b.1 (by rw[h];exact Ag.mpr ⟨p,q,rfl⟩)
   subst e
   congr 1
   rw[El];intro x d q;exact b.1<|by rw[<-BZ q];exact Ag.mpr ⟨x,d,rfl⟩
  ·rw[C λq=>h<|BZ q]
   obtain q|q:=Ak.mp c
   ·cases h (by rw[q])
   ·exact IQ b.2 q
def xu{n:bc}(T:ao n)(a:k<=1)(c:z∈ag n):∃p,p∈gy k (aE n)/\aw n p.2=z/\bW n k z=[p]:=by
 obtain⟨p,b,rfl⟩:=Ag.mp<|(dc T a).mpr c;exact⟨p,b,rfl,IQ (PU T a) b⟩
theorem PV(T:ao n):∀d b,(∀e∈d,e∈ends n)->∀i w,(dE n d b)[i]?=some w ->
  ∃e l r,d=l++e :: r/\(∀x∈l,aw n x∈b++(((dE n d b).take i).flatMap ah).map (aw n))/\aw n e∉b++(((dE n d b).take i).flatMap ah).map (aw n)/\w=walker n e
 |[],b,_,i,w,h=>by simp[dE]at h
 |e :: r,b,s,i,w,h=>by
  have t:=λa u=>s a<|Af _ u;unfold dE at h ⊢
  by_cases c:aw n e∈b
  ·rw[BL c]at h ⊢;obtain⟨x,l,j,k,m,o,p⟩:=PV T r b t i w h;refine⟨x,e :: l,j,by rw[k];rfl,λy f=>?_,o,p⟩
   obtain q|q:=Ak.mp f
   ·rw[q];exact As _ c
   ·exact m y q
  ·rw[C c]at h ⊢
   match i with
   |0=>
    cases h;refine⟨e,[],r,rfl,λy f=>(nomatch f),?_,rfl⟩
    simpa using c
   |i+1=>
    obtain⟨x,l,j,k,m,o,p⟩:=PV T r (b++(ah<|walker n e).map (aw n)) t i w h;have eq:(b++(((walker n e :: dE n r (b++(ah<|walker n e).map (aw n))).take<|i+1).flatMap ah).map (aw n))=(b++(ah<|walker n e).map (aw n))++(((dE n r<|b++(ah<|walker n e).map (aw n)).take i).flatMap ah).map (aw n):=by
     rw[List.take_succ_cons,Cm,Ai,Ap]
    rw[eq];refine⟨x,e :: l,j,by rw[k];rfl,λy f=>?_,o,p⟩
    obtain q|q:=Ak.mp f
    ·rw[q];refine As _<|Ar _<|Ag.mpr ⟨e,?_,rfl⟩;exact(mU T<|s e<|Ac ..).mpr ⟨0,rfl⟩
    ·exact m y q
def YQ(n:bc)(i:Nat):Ñ:=(((aE n).take i).flatMap ah).map<|aw n
def OR(T:ao n)(h:(aE n)[i]?=some w):∃e l r,ends n=l++e :: r/\(∀x∈l,aw n x∈YQ n i)/\aw n e∉YQ n i/\w=walker n e:=by
 obtain⟨e,l,r,a,b,c,d⟩:=PV T (ends n) [] (λ_ h=>h) i w h;exact⟨e,l,r,a,b,c,d⟩
def fe(T:ao n)(h:e∈ends n):(walker n e)[0]?=some e:=by
 obtain⟨k,p,_⟩:=sr T h;rw[walker,wX p];have:=uL n e k 0 p.pos;exact this
structure jV(n:bc)(s:Str->Bool)(c:Nat->Bool)(χ:bi->Bool):Prop where
 face:aV n s χ
 cut:∀e z,aH n e=some z->s z=(c e.1 ^^ c (other n e).1)
def l9(n:bc)(c:Nat->Bool)(a:bi->Bool)(x:bi):Bool:=c x.1 ^^ a (other n x)
def xx(c:Nat->Bool)(a:bi->Bool)(y:bi):Bool:=c y.1 ^^ a y
def jV.odd(T:ao n)(D:jV n s c a)(b:x∈ends n):xx c a (go 1 n x)=l9 n c a x:=by
 obtain⟨z,d⟩:=af.mp b;have e:=D.face.go x b;rw[wV T b]at e;have f:=D.cut x z d;unfold xx l9;rw[e,show(go 1 n x).1=(other n x).1 from rfl];rw[D.face.c6 x z d]at f
 revert f
 cases a x<;>cases a (other n x)<;>cases c x.1<;>cases c (other n x).1<;>simp
def jV.even{n:bc}{s:Str->Bool}{c:Nat->Bool}{a:bi->Bool}(T:ao n)(D:jV n s c a){y:bi}(b:y∈ends n):l9 n c a (go (-1) n y)=xx c a y:=by
 obtain⟨z,d⟩:=af.mp b;have e:=D.face.go _<|cE T<|fw T b (c:=-1);rw[Pa T b]at e;have f:=D.cut y z d;unfold xx l9;rw[<-e,show(go (-1) n y).1=(other n y).1 from rfl];rw[D.face.c6 y z d]at f
 revert f
 cases a y<;>cases a (other n y)<;>cases c y.1<;>cases c (other n y).1<;>simp
section
variable{n:bc}{s:Str->Bool}{c:Nat->Bool}{χ:bi->Bool}
def jV.two(T:ao n)(D:jV n s c χ)(a:x∈ends n):l9 n c χ (Nt.two n x)=l9 n c χ x:=by
 rw[show Nt.two n x=go (-1) n (go 1 n x)from rfl,D.even T<|fw T a,D.odd T a]
end
section
variable{n:bc}{s:Str->Bool}{c:Nat->Bool}{χ:bi->Bool}
theorem jV.it(T:ao n)(D:jV n s c χ)(a:x∈ends n):∀k,l9 n c χ (Nt.it (Nt.two n) k x)=l9 n c χ x
 |0=>rfl
 |k+1=>by
  show l9 n c χ (Nt.two n<|Nt.it (Nt.two n) k x)=_;rw[D.two T<|iK T a k,D.it T a k]
end
theorem IT(k:Nat):∀m ws{i}{e},(i,e)∈e9 k m ws->∃j w,ws[j]?=some w/\i=m+j/\e∈jU k w
 |m,[],i,e,h=>by simp[e9]at h
 |m,w :: ws,i,e,h=>by
  unfold e9 at h
  obtain h|h:=Al.mp h
  ·obtain⟨x,a,q⟩:=Ag.mp h;cases q;exact⟨0,w,rfl,rfl,a⟩
  ·obtain⟨j,v,b,d,c⟩:=IT k (m+1) ws h;exact⟨j+1,v,b,by lia,c⟩
def xA(h:(i,e)∈gy k ws):∃w,ws[i]?=some w/\e∈jU k w:=by
 obtain⟨j,w,b,a,c⟩:=IT k 0 ws h;rw[Es]at a;subst a;exact⟨w,b,c⟩
def me(n:bc)(c:Nat->Bool)(a:bi->Bool)(i:Nat):Bool:=match (aE n)[i]? with
 |some (e :: _)=>l9 n c a e
 |_=>false
theorem YR(T:ao n)(f:e∈ends n)(h:(aE n)[i]?=some (walker n e)):me n c j i=l9 n c j e:=by
 have b:=fe T f;rw[me,h];cases d:walker n e with
 |nil=>rw[d]at b;cases b
 |cons a l=>rw[d]at b;cases b;rfl
def IU{n:bc}(T:ao n){i:Nat}{w:List bi}(h:(aE n)[i]?=some w):∃e,e∈ends n/\w=walker n e:=by
 obtain⟨e,l,r,heq,_,_,a⟩:=OR T h;exact⟨e,by rw[heq];simp,a⟩
def jV.nq{n:bc}{s:Str->Bool}{c:Nat->Bool}{b:bi->Bool}(T:ao n)(D:jV n s c b){i:Nat}{x:bi}(h:(i,x)∈gy 0 (aE n)):x∈ends n/\l9 n c b x=me n c b i:=by
 obtain⟨w,d,f⟩:=xA h;obtain⟨e,a,rfl⟩:=IU T d;obtain⟨k,rfl⟩:=(mU T a).mp f;rw[YR T a d];exact⟨iK T a k,D.it T a k⟩
def jV.AV{n:bc}{s:Str->Bool}{c:Nat->Bool}{b:bi->Bool}(T:ao n)(D:jV n s c b){i:Nat}{y:bi}(h:(i,y)∈gy 1 (aE n)):y∈ends n/\xx c b y=me n c b i:=by
 obtain⟨w,d,f⟩:=xA h;obtain⟨e,a,rfl⟩:=IU T d;rw[xt]at f;obtain⟨x,j,rfl⟩:=Ag.mp f;obtain⟨k,rfl⟩:=(mU T a).mp j;rw[YR T a d];have:=iK T a k;exact⟨fw T this,by rw[D.odd T this,D.it T a k]⟩
section
variable{n:bc}{s:Str->Bool}{c:Nat->Bool}{χ:bi->Bool}
def jV.c6(T:ao n)(D:jV n s c χ)(d:p∈gy 0 (aE n))(e:q∈gy 1 (aE n))(h:aw n p.2=aw n q.2):s (aw n p.2)=(me n c χ p.1 ^^ me n c χ q.1):=by
 obtain⟨i,x⟩:=p;obtain⟨j,y⟩:=q;obtain⟨b,f⟩:=D.nq T d;obtain⟨l,m⟩:=D.AV T e;obtain⟨z,a⟩:=af.mp b;have o:=D.face.c6 x z a;have r:=D.cut x z a;rw[<-f,<-m,cB a];unfold l9 xx
 obtain k|k:=xn T b l h
 ·subst k;rw[o];cases χ y<;>cases χ (other n y)<;>cases c y.1<;>rfl
 ·subst k;rw[r];cases χ (other n x)<;>cases c x.1<;>cases c (other n x).1<;>rfl
end
def TZ(k:Nat):jU k ([]:List α)=[]:=by rw[jU,List.drop_nil];rfl
theorem YS(k i:Nat):∀m ws,((e9 k m ws).filter λp=>decide (p.1=i))=if m<=i then((jU k<|ws[i-m]?.getD []).map λe=>(i,e))else []
 |m,[]=>by
  rw[List.getElem?_nil];show []=if m<=i then((jU k ([]:List bi)).map λe=>(i,e))else [];rw[TZ]
  split<;>rfl
 |m,w :: ws=>by
  rw[e9,Cf,YS k i (m+1) ws]
  by_cases h:m=i
  ·subst h;rw[BL<|Aq _,C (by lia),Bd,WK];rw[Fc.mpr λa b=>by obtain⟨x,_,rfl⟩:=Ag.mp b;exact BW rfl];rfl
  ·rw[El.mpr λa b=>by obtain⟨x,_,rfl⟩:=Ag.mp b;exact λq=>h<|BZ q,Ga]
   by_cases c:m<=i
   ·rw[BL c,BL (by lia),show i-m=(i-(m+1))+1 by lia];rfl
   ·rw[C c,C<|by lia]
theorem YT(f:α->Str)(z:Str):∀l:List α,(l.map f).count z=(l.filter λx=>decide (f x=z)).length
 |[]=>rfl
 |a :: l=>by
  rw[Be,Dj,YT f z l,Cn]
  by_cases h:f a=z
  ·grind
  ·grind
def YV{n:bc}{k:Nat}{z:Str}{p:Nat×bi}(f:bW n k z=[p]){i:Nat}{w:List bi}(h:(aE n)[i]?=some w):((jU k w).map<|aw n).count z=if p.1=i then 1 else 0:=by
 have a:=YS k i 0<|aE n;rw[BL<|By _,WD,h]at a;have a:(gy k<|aE n).filter (λp=>decide (p.1=i))=(jU k w).map λe=>(i,e):=a;have b:(((gy k<|aE n).filter λp=>decide (p.1=i)).filter λp=>decide (aw n p.2=z))=(bW n k z).filter λp=>decide (p.1=i):=by
  rw[bW,List.filter_filter,List.filter_filter]
  congr 1
  funext p
  exact Gn ..
 rw[a,f,List.filter_map]at b;have d:=BX List.length b;rw[Aa]at d;rw[YT];apply Eq.trans d;rw[Cn]
 by_cases c:p.1=i
 ·rw[BL<|BW c,BL c];rfl
 ·grind
def YW{n:bc}(T:ao n){z:Str}{p q:Nat×bi}(h:bW n 0 z=[p])(j:bW n 1 z=[q]){i:Nat}{w:List bi}(d:(aE n)[i]?=some w):bP n w z=(decide (p.1=i) ^^ decide (q.1=i)):=by
 obtain⟨e,k,rfl⟩:=IU T d;have f:=YV h d;have c:=YV j d;rw[xt,Bi]at c;have f:((dH n e).map<|aw n).count z=_:=f;have c:((dH n e).map λx=>aw n<|go 1 n x).count z=_:=c;rw[bP,(Yx T k).count_eq,Dw,f,c]
 by_cases a:p.1=i<;>by_cases b:q.1=i<;>simp[a,b]
theorem YX(k:Nat):∀m ws{j}{w}{e},ws[j]?=some w->e∈jU k w->(m+j,e)∈e9 k m ws
 |m,[],j,w,e,h,_=>by simp at h
 |m,v :: ws,0,w,e,h,a=>by
  cases h;unfold e9;exact As _<|Ag.mpr ⟨e,a,rfl⟩
 |m,v :: ws,j+1,w,e,h,a=>by
  unfold e9;apply Ar _;have:=YX k (m+1) ws h a;rwa[show m+(j+1)=m+1+j by lia]
def YY(h:ws[i]?=some w)(a:e∈jU k w):(i,e)∈gy k ws:=by
 have:=YX k 0 ws h a;rwa[Es]at this
def YZ(T:ao n)(a:k<=1)(c:p∈gy k (aE n))(d:q∈gy k (aE n))(h:aw n p.2=aw n q.2):p=q:=by
 have b:=IQ (PU T a) c;have e:(λx:Nat×bi=>decide (aw n x.2=aw n p.2))=λx=>decide (aw n x.2=aw n q.2):=by rw[h]
 rw[e]at b;exact List.cons.inj (b.symm.trans (IQ (PU T a) d)) |>.1
theorem Y0{m a:Nat}(h:a<m)(f:Nat->Bool):au ((range m).map λi=>f i && decide (a=i))=f a:=by
 induction m with
 |zero=>lia
 |succ m b=>
  rw[Cu,Ai,oh];show(_ ^^ ((f m && decide (a=m)) ^^ false))=_;rw[Fv]
  by_cases c:a=m
  ·subst c;have:au ((range a).map λi=>f i && decide (a=i))=false:=by
    have e:((range a).map λi=>f i && decide (a=i))=(range a).map λ_=>false:=At λi d=>by
     rw[BR (λq=>by have:=Bg.mp d;lia),Hl]
    rw[e,kd]
   rw[this,BW rfl,Bool.and_true,Gf]
  ·rw[b (by lia),BR c,Hl,Fv]
def Jn{n:bc}(T:ao n)(ch:Nat->Bool){z:Str}{p q:Nat×bi}(b:bW n 0 z=[p])(c:bW n 1 z=[q]):
  au ((range (aE n).length).map λi=>ch i && bP n ((aE n)[i]?.getD []) z)=(ch p.1 ^^ ch q.1):=by
 have lt:∀{k:Nat}{p:Nat×bi},bW n k z=[p]->p.1<(aE n).length:=λ{k p}h=>by
  have:p∈bW n k z:=h▸(Ae.mpr rfl)
  obtain⟨w,a,_⟩:=xA (i:=p.1) (e:=p.2) (Ao.mp this).1;exact(Ad.mp a).1
 have e:((range (aE n).length).map λi=>ch i && bP n ((aE n)[i]?.getD []) z)=(range (aE n).length).map λi=>(ch i && decide (p.1=i)) ^^ (ch i && decide (q.1=i)):=At λi d=>by
  have a:=Ab<|Bg.mp d;rw[a,Option.getD_some,YW T b c a];cases ch i<;>rfl
 rw[e,iF,Y0<|lt b,Y0<|lt c]
structure cM(n:bc)(cs:List<|List Str):Prop where
 len:cs.length=(aE n).length
 mem:∀(i:Nat)c w,cs[i]?=some c->(aE n)[i]?=some w->∀z,z∈c↔(w.map<|aw n).count z=1
 qR:∀c∈cs,cz c
def rg(a:List<|List Str)(z:Str):List Nat:=(range a.length).filter λi=>decide (z∈a[i]?.getD [])
theorem PY(h:a<b):∀m,((range m).filter λi=>decide (a=i) ^^ decide (b=i))=(if a<m then [a]else [])++(if b<m then [b]else [])
 |0=>rfl
 |m+1=>by
  rw[Cu,Cf,PY h m]
  by_cases c:a=m
  ·grind
  ·grind
def cM.at'{n:bc}{b:List Ñ}(a:cM n b)(T:ao n){i:Nat}(c:i<(aE n).length){z:Str}(f:z∈ag n):decide (z∈b[i]?.getD [])=bP n ((aE n)[i]?.getD []) z:=by
 have d:=Ab c;have e:=Ab (show i<b.length by rwa[a.len]);rw[d,e];exact Pt T (Bq c) (a.mem i _ _ e d) f
def Y1(h:bW n k z=[p]):p.1<(aE n).length:=by
 have:p∈bW n k z:=h▸(Ae.mpr rfl)
 obtain⟨w,a,_⟩:=xA (Ao.mp this).1;exact(Ad.mp a).1
def q6q{n:bc}{c:List Ñ}(a:cM n c)(T:ao n){z:Str}(o:z∈ag n){p q:Nat×bi}(d:bW n 0 z=[p])(f:bW n 1 z=[q]):rg c z=if p.1=q.1 then []else [min p.1 q.1,max p.1 q.1]:=by
 have j:=Y1 d;have k:=Y1 f;have e:rg c z=(range (aE n).length).filter λi=>decide (p.1=i) ^^ decide (q.1=i):=by
  rw[rg,a.len];refine Gw λi b=>?_;have b:=Bg.mp b;have m:=Ab b;rw[a.at' T b o,m];exact YW T d f m
 rw[e]
 by_cases h:p.1=q.1
 ·rw[BL h,h,El];intro i _;cases decide (q.1=i)<;>decide
 ·rw[C h]
  by_cases l:p.1<q.1
  ·rw[PY l,BL j,BL k,TF<|Cv l,Nat.max_eq_right<|Cv l];rfl
  ·have l:q.1<p.1:=by lia
   have r:(λi=>decide (p.1=i) ^^ decide (q.1=i))=λi=>decide (q.1=i) ^^ decide (p.1=i):=by funext i;exact Bool.xor_comm ..
   rw[r,PY l,BL j,BL k,RM<|Cv l,Nat.max_eq_left<|Cv l];rfl
theorem PZ(g f:α->Bool):∀l:List α,au ((l.filter g).map f)=au (l.map λi=>g i && f i)
 |[]=>rfl
 |a :: l=>by
  rw[Cn];have b:=PZ g f l;cases h:g a with
  |true=>
   rw[BL rfl];show(f a ^^ au ((l.filter g).map f))=((g a && f a) ^^ au (l.map λi=>g i && f i));rw[b,h,VP]
  |false=>
   rw[C (by decide),b];show _=((g a && f a) ^^ au (l.map λi=>g i && f i));rw[h,UL,Gf]
abbrev cF(n:bc):Ñ:=n.map (·.1)
def bH(n:bc)(p:Str->Bool)(z:Str):Bool:=au<|n.map λr=>p r.1 && decide (r.2.count z%2=1)
def pU(n:bc)(p s:Str->Bool):Bool:=au<|n.map λr=>p r.1 && au (r.2.map s)
def pr(f:Str->Bool)(os:Ñ):Bool:=au<|os.map f
def P0{α:Type}(b:Bool)(f:α->Bool)(l:List α):(b && au (l.map f))=au (l.map λx=>b && f x):=by
 cases b
 ·show false=au (l.map λ_=>false);rw[kd]
 ·rfl
def P4{α:Type}(b:Bool)(f:α->Bool)(l:List α):(au (l.map f) && b)=au (l.map λx=>f x && b):=by
 rw[Gn,P0]
 congr 1
 exact At λx _=>Gn _ _
def P5{n:bc}{Z:Ñ}(a:Z.Nodup)(b:∀z∈ag n,z∈Z)(p s:Str->Bool):pU n p s=bj Z (bH n p) s:=by
 unfold pU bj bH;have e:(Z.map λz=>au (n.map λr=>p r.1 && decide (r.2.count z%2=1)) && s z)=Z.map λz=>au (n.map λr=>p r.1 && (s z && decide (r.2.count z%2=1))):=At λz _=>by
  rw[P4]
  congr 1
  refine At λr _=>?_;cases p r.1<;>cases s z<;>simp
 rw[e,vH λz(r:Str×List Str)=>p r.1 && (s z && decide (r.2.count z%2=1))]
 congr 1
 refine At λr c=>?_;rw[<-P0]
 congr 1
 exact(IH a λy d=>b y<|Dd.mpr ⟨r,c,d⟩).symm
def vL(Z:Ñ)(s t:Str->Bool):bj Z s t=bj Z t s:=by
 unfold bj
 congr 1
 exact At λz _=>Gn _ _
def IY(h:∀z∈Z,s z=s' z)(k:∀z∈Z,t z=t' z):bj Z s t=bj Z s' t':=by
 unfold bj
 congr 1
 exact At λz a=>by rw[h z a,k z a]
def sym(p q:Str->Bool):pU n p (bH n q)=pU n q (bH n p):=by
 obtain⟨Z,b,c⟩:=pQ<|ag n;rw[P5 (jQ b) λz a=>(c z).mpr a,P5 (jQ b) λz a=>(c z).mpr a,vL]
def Mu{c:Ñ}(h:c.Nodup)(z:Str):decide (c.count z%2=1)=decide (z∈c):=by grind
def AW(a:Z.Nodup)(b:c.Nodup)(d:∀z∈c,z∈Z)(f:Str->Bool):pr f c=bj Z f (λz=>decide (z∈c)):=by
 rw[pr,<-IH a d];exact IY (λ_ _=>rfl) λz _=>Mu b z
abbrev i5(a b c:Ñ):Prop:=∀z,z∈c↔(if z∈a then z∉b else z∈b)
def AX(h:i5 a b c)(z:Str):decide (z∈c)=(decide (z∈a) ^^ decide (z∈b)):=by grind
def x01(j:a.Nodup)(l:b.Nodup)(m:c.Nodup)(h:i5 a b c)(f:Str->Bool):pr f c=(pr f a ^^ pr f b):=by
 obtain⟨Z,n,e⟩:=pQ<|a++b;have i:=jQ n;rw[AW i j λz d=>(e z).mpr<|Al.mpr<|.inl d,AW i l λz d=>(e z).mpr<|Al.mpr<|.inr d,
  AW i m (λz d=>(e z).mpr (by
   have:=(h z).mp d;rw[Al]
   by_cases k:z∈a
   ·exact .inl k
   ·rw[C k]at this;exact .inr this))]
 rw[vL Z f,vL Z f,vL Z f,<-IG];exact IY (λz _=>AX h z) λ_ _=>rfl
def cW(s:Str->Bool)(r:Str×List Str):Bool:=au<|r.2.map s
def dI(n:bc)(s:Str->Bool)(os:Ñ):Prop:=os.Perm ((n.filter<|cW s).map (·.1))
def dI.pr{os:Ñ}(h:dI n s os)(f:Str->Bool):pr f os=pU n f s:=by
 unfold Nt.pr pU;rw[WM<|h.map f,Bi,PZ]
 congr 1
 exact At λr _=>Gn _ _
def dI.nd{os:Ñ}(h:dI n s os)(a:(cF n).Nodup):os.Nodup:=h.nodup_iff.mpr<|a.sublist<|List.filter_sublist.map _
def dI.sub{os:Ñ}(h:dI n s os):∀x∈os,x∈cF n:=λx a=>by
 obtain⟨r,b,rfl⟩:=Ag.mp<|h.mem_iff.mp a;exact Ag.mpr ⟨r,(Ao.mp b).1,rfl⟩
def Y2(a:(cF n).Nodup)(b:r∈n)(c:q∈n)(h:r.1=q.1):r=q:=Pp a r b q c h
def dI.mem{os:Ñ}(h:dI n s os)(c:(cF n).Nodup)(a:r∈n):decide (r.1∈os)=cW s r:=by
 cases k:cW s r
 ·refine BR λd=>?_;obtain⟨q,f,e⟩:=Ag.mp<|h.mem_iff.mp d;obtain⟨i,b⟩:=Ao.mp f;rw[Y2 c i a e,k]at b;cases b
 ·exact BW<|h.mem_iff.mpr<|Ag.mpr ⟨r,Ao.mpr ⟨a,k⟩,rfl⟩
def YP(b:(cF n).Nodup)(c:r∈n)(s:Str->Bool):pU n (λx=>decide (x=r.1)) s=cW s r:=by
 unfold pU;have e:(n.map λq=>decide (q.1=r.1) && au (q.2.map s))=n.map λq=>decide (q=r) && au (r.2.map s):=At λq d=>by
  by_cases k:q.1=r.1
  ·rw[Y2 b d c k,BW rfl,BW rfl]
  ·grind
 rw[e,<-P4];have one:∀{l:List (Str×List Str)},l.Nodup->r∈l->au (l.map λq=>decide (q=r))=true:=by
  intro l
  induction l with
  |nil=>intro _ h;cases h
  |cons a l i=>
   intro nd h;have f:=Bb.mp nd;show(decide (a=r) ^^ au (l.map _))=true
   by_cases k:a=r
   ·have:(l.map λq=>decide (q=r))=l.map λ_=>false:=At λq d=>BR λe=>f.1 (by rwa[k,<-e]);rw[this,kd,BW k];rfl
   ·rw[BR k,i f.2<|by obtain e|e:=Ak.mp h;cases k e.symm;exact e];rfl
 rw[one (AQ b) c];rfl
def cN(n:bc)(ps:Ñ)(r:Str×List Str):Bool:=cW (bH n λy=>decide (y∈ps)) r
def q2m(n:bc)(p q:Str->Bool)(z:Str):bH n (λy=>p y ^^ q y) z=(bH n p z ^^ bH n q z):=by
 unfold bH;rw[<-iF]
 congr 1
 refine At λr _=>?_;show((p r.1 ^^ q r.1) && decide (r.2.count z%2=1))=_;generalize decide (r.2.count z%2=1)=c;generalize p r.1=a;generalize q r.1=b;cases a<;>cases b<;>cases c<;>rfl
def q21(h:i5 a b c)(r:Str×List Str):cN n c r=(cN n a r ^^ cN n b r):=by
 unfold cN cW;rw[<-iF]
 congr 1
 refine At λz _=>?_;rw[<-q2m]
 congr 1
 funext y
 exact AX h y
def P6(T:ao n)(ps:Ñ)(z:Str):bH n (λy=>decide (y∈ps)) z=decide (gj n ps z):=by
 rw[decide_eq_decide.mpr (W0 T ps z)];rw[bH,xl];have b:∀l:bc,au ((ag l).map λy=>decide (z=y))=au (l.map λr=>decide (r.2.count z%2=1)):=by
  intro l
  induction l with
  |nil=>rfl
  |cons a l c=>
   show au ((a.2++ag l).map _)=(_ ^^ au (l.map _));rw[Ai,oh,c,<-xl]
 rw[b,PZ]
abbrev dJ:=List<|List Str×List Str
structure P7(n:bc)(st:dJ):Prop where
 ne:∀s∈st,s.2≠[]
 nd:∀s∈st,s.1.Nodup/\s.2.Nodup
 sub:∀s∈st,(∀x∈s.1,x∈cF n)/\∀x∈s.2,x∈cF n
 im:∀s∈st,∀r∈n,cN n s.1 r=decide (r.1∈s.2)
 P8:st.Pairwise λa b=>∀p,a.2.head?=some p->p∉b.2
structure jB(n:bc)(st:dJ)(ps os c7 cv:Ñ):Prop where
 nd:c7.Nodup/\cv.Nodup
 sub:(∀x∈c7,x∈cF n)/\∀x∈cv,x∈cF n
 fn:∀f:Str->Bool,(∀s∈st,pr f s.2=false)->pr f cv=pr f os
 IZ:∀s∈st,∀p,s.2.head?=some p->p∉cv
 im:∀r∈n,(decide (r.1∈cv) ^^ cN n c7 r)=(decide (r.1∈os) ^^ cN n ps r)
def jB.start{ps os:Ñ}(a:ps.Nodup)(b:os.Nodup)(c:∀x∈ps,x∈cF n)(d:∀x∈os,x∈cF n):jB n [] ps os ps os:=⟨⟨a,b⟩,⟨c,d⟩,λ_ _=>rfl,λs h=>(by cases h),λ_ _=>rfl⟩
def AY{l:List α}(h:l[i]?=some a):l.take (i+1)=l.take i++[a]:=by rw[Ck,h];rfl
def jB.skip{st:dJ}{ps os c a:Ñ}(h:jB n (st.take i) ps os c a)(b:st[i]?=some s)(l:s.2.head?=some p)(m:p∉a):jB n (st.take<|i+1) ps os c a:=by
 rw[AY b];refine⟨h.nd,h.sub,λf d=>h.fn f λs b=>d s<|Al.mpr<|.inl b,λt e q j=>?_,h.im⟩
 obtain k|k:=Al.mp e
 ·exact h.IZ t k q j
 ·grind
theorem Y3{l:Ñ}(h:l.head?=some p):p∈l:=by
 cases l with
 |nil=>cases h
 |cons a l=>cases h;exact Ac
theorem jB.step(I:P7 n st){ps os u l v w:Ñ}(h:jB n (st.take i) ps os u l)(d:st[i]?=some s)(y:s.2.head?=some p)(G:p∈l)
  (H:v.Nodup) (z:w.Nodup) (A:i5 u s.1 v) (m:i5 l s.2 w):jB n (st.take<|i+1) ps os v w:=by
 have o:=An d;rw[AY d];have un:∀{a b c:Ñ},i5 a b c->(∀x∈a,x∈cF n)->(∀x∈b,x∈cF n)->∀x∈c,x∈cF n:=λ{a b c}X J Y x L=>by
  have:=(X x).mp L
  by_cases k:x∈a
  ·exact J x k
  ·grind
 refine⟨⟨H,z⟩,⟨un A h.sub.1 (I.sub s o).1,un m h.sub.2 (I.sub s o).2⟩,λf B=>?_,λt M q e=>?_,λr D=>?_⟩
 ·rw[x01 h.nd.2 (I.nd s o).2 z m,B s<|Al.mpr<|.inr<|Ae.mpr rfl,Fv];exact h.fn f λs d=>B s<|Al.mpr<|.inl d
 ·rw[m q]
  obtain k|k:=Al.mp M
  ·rw[C<|h.IZ t k q e];obtain⟨j,E⟩:=Bp k;have N:=(Ad.mp E).1;rw[Bm]at N;have O:st[j]?=some t:=by rwa[Eb<|by omega]at E
   have Q:=(Ad.mp O).2;have T:=(Ad.mp d).2;have:=Bs.mp I.P8 j i (by omega) ((Ad.mp d).1) (by lia);rw[Q,T]at this;exact this q e
  ·rw[Ae.mp k]at e;rw[y]at e;cases e;rw[BL G];exact λk=>k<|Y3 y
 ·rw[AX m,q21 A,I.im s o r D,<-h.im r D];cases decide (r.1∈l)<;>cases decide (r.1∈s.2)<;>cases cN n u r<;>rfl
theorem Y4:∀{st:dJ},(∀s∈st,s.2≠[])->(∀s∈st,s.2.Nodup)->(st.Pairwise λa b=>∀p,a.2.head?=some p->p∉b.2)->∀{o},o.Nodup->o≠[]->(∀s∈st,∀p,s.2.head?=some p->p∉o)->∃f:Str->Bool,(∀s∈st,pr f s.2=false)/\pr f o=true
 |[],_,_,_,o,nd,ne,_=>by
  cases o with
  |nil=>cases ne rfl
  |cons a o=>
   refine⟨λx=>decide (x=a),λs h=>(by cases h),?_⟩;have:(o.map λx=>decide (x=a))=o.map λ_=>false:=At λx d=>BR λe=>(Bb.mp nd).1 (e▸d);show(decide (a=a) ^^ au (o.map λx=>decide (x=a)))=true;rw[this,kd,BW rfl];rfl
 |s :: st,m,n,q,o,nd,ne,r=>by
  obtain⟨f,f1,f2⟩:=Y4 (λt c=>m t<|Af _ c) (λt c=>n t<|Af _ c) (Cz.mp q).2 nd ne λt c=>r t<|Af _ c;obtain⟨p,i⟩:∃p,s.2.head?=some p:=by
   cases k:s.2 with
   |nil=>cases (m s Ac) k
   |cons a l=>exact⟨a,rfl⟩
  have add:∀(l:Ñ),l.Nodup->pr (λx=>f x ^^ decide (x=p)) l=(pr f l ^^ decide (p∈l)):=λl j=>by
   show au (l.map _)=_;rw[iF]
   congr 1
   have:=AW j j (λ_ h=>h) λx=>decide (x=p);have u:au (l.map λx=>decide (x=p))=pr (λx=>decide (x=p)) l:=rfl
   by_cases k:p∈l
   ·rw[u,this,xm j k]
   ·rw[BR k];have:(l.map λx=>decide (x=p))=l.map λ_=>false:=At λx d=>BR λe=>k (e▸d);rw[this,kd]
  cases k:pr f s.2
  ·grind
  ·refine⟨λx=>f x ^^ decide (x=p),λt c=>?_,?_⟩
   ·rw[add _<|n t c]
    obtain rfl|c:=Ak.mp c
    ·rw[k,BW<|Y3 i];rfl
    ·rw[f1 t c,BR<|(Cz.mp q).1 t c p i];rfl
   ·rw[add _ nd,f2,BR<|r s Ac p i];rfl
structure mV(n:bc)(k:Nat)(st:dJ):Prop where
 cO:P7 n st
 len:st.length<=k
 span:∀f:Str->Bool,(∀s∈st,pr f s.2=false)->∀x∈(cF n).take k,pU n f (bH n λy=>decide (y∈[x]))=false
def mV.start(n:bc):mV n 0 []:=⟨⟨λs h=>(by cases h),λs h=>(by cases h),λs h=>(by cases h),λs h=>(by cases h),List.Pairwise.nil⟩,Aq _,λf _ x a=>(by rw[List.take_zero]at a;cases a)⟩
def x3f(e:(cF n).Nodup){os b c:Ñ}(f:dI n (bH n λy=>decide (y∈[x])) os)(h:jB n st [x] os b c):∀r∈n,cN n b r=decide (r.1∈c):=λr d=>by
 have a:=h.im r d;rw[f.mem e d]at a;have:cN n [x] r=cW (bH n λy=>decide (y∈[x])) r:=rfl;rw[this,Gb]at a
 revert a
 cases decide (r.1∈c)<;>cases cN n b r<;>simp
def mV.skip(i:(cF n).Nodup){k:Nat}(I:mV n k st)(c:(cF n)[k]?=some x){os d:Ñ}(e:dI n (bH n λy=>decide (y∈[x])) os)(h:jB n st [x] os d []):mV n (k+1) st:=by
 refine⟨I.cO,Nat.le_succ_of_le I.len,λf a y b=>?_⟩;rw[AY c]at b
 obtain q|q:=Al.mp b
 ·exact I.span f a y q
 ·rw[Ae.mp q,<-e.pr,<-h.fn f a];rfl
def mV.step(r:(cF n).Nodup)(I:mV n k st)(t:(cF n)[k]?=some x){os d c:Ñ}(j:dI n (bH n λy=>decide (y∈[x])) os)(h:jB n st [x] os d c)(u:c≠[]):mV n (k+1) (st++[(d,c)]):=by
 have e:∀{P:List Str×List Str->Prop},(∀s∈st,P s)->P (d,c)->∀s∈st++[(d,c)],P s:=λ{P}a b s i=>by
  obtain q|q:=Al.mp i
  ·exact a s q
  ·rwa[Ae.mp q]
 refine⟨⟨e I.cO.ne u,e I.cO.nd h.nd,e I.cO.sub h.sub,e I.cO.im<|x3f r j h,?_⟩,Ah▸(Nat.succ_le_succ I.len),λf l y m=>?_⟩
 ·rw[List.pairwise_append];refine⟨I.cO.P8,Gs _ _,λa v b w p z=>?_⟩;rw[Ae.mp w];exact h.IZ a v p z
 ·have o:=λs i=>l s<|Al.mpr<|.inl i;rw[AY t]at m
  obtain q|q:=Al.mp m
  ·exact I.span f o y q
  ·rw[Ae.mp q,<-j.pr,<-h.fn f o];exact l (d,c)<|Al.mpr<|.inr<|Ae.mpr rfl
def rh(n:bc)(s:Str->Bool):Prop:=∀f:Str->Bool,(∀r∈n,cW (bH n f) r=false)->pU n f s=false
def mV.whole{n:bc}(c:(cF n).Nodup)(I:mV n n.length st)(k:rh n s){os d i:Ñ}(j:dI n s os)(h:jB n st [] os d i):∀r∈n,cN n d r=cW s r:=by
 have l:i=[]:=by
  refine CJ λm=>?_;obtain⟨f,f1,f2⟩:=Y4 I.cO.ne (λs o=>(I.cO.nd s o).2) I.cO.P8 h.nd.2 m h.IZ;have hd:∀r∈n,cW (bH n f) r=false:=λr b=>by
   rw[<-YP c b,sym];have:=I.span f f1 r.1 (by rw[Dg<|by rw[Aa];exact Aq _];exact Ag.mpr ⟨r,b,rfl⟩);have e:(λy=>decide (y∈[r.1]))=λy=>decide (y=r.1):=by
    funext y
    exact decide_eq_decide.mpr Ae
   rwa[e]at this
  have:=k f hd;rw[<-j.pr,<-h.fn f f1,f2]at this;cases this
 subst l;intro r b;have a:=h.im r b;have z:cN n [] r=false:=by
  unfold cN cW bH;have:(r.2.map λz=>au<|n.map λq=>decide (q.1∈([]:Ñ)) && decide (q.2.count z%2=1))=r.2.map λ_=>false:=At λz _=>by
   have:(n.map λq=>decide (q.1∈([]:Ñ)) && decide (q.2.count z%2=1))=n.map λ_=>false:=At λq _=>by
    rw[BR (λh=>by cases h),UL]
   rw[this,kd]
  rw[this,kd]
 rwa[z,j.mem c b,Fv,BR (λh=>by cases h),Gf]at a
def ro(h:i<n.length):∃r∈n,row n i=r.2:=⟨n[i],Bq h,by rw[row,Ab h];rfl⟩
def NH(T:ao n)(J:HF n)(b:cM n l)(h:∀c∈l,au (c.map s)=false):rh n s:=λf hd=>by
 obtain⟨Z,L,o⟩:=pQ<|ag n;have B:=jQ L;have D:=λz d=>(o z).mpr d;rw[P5 B D];have M:f9 n (bH n f):=λi=>by
  by_cases j:i<n.length
  ·obtain⟨r,t,e⟩:=ro j;rw[e];exact hd r t
  ·rw[row,Bh<|by lia];rfl
 obtain⟨m,u⟩:=J.2.2 _ M;have N:∀e z,aH n e=some z->bH n f z=(f (aB n e.1) ^^ f (aB n (other n e).1)):=λe z d=>by
  have v:∀x∈cF n,decide (x∈(cF n).filter f)=f x:=λx hx=>by
   cases k:f x
   ·grind
   ·grind
  have O:bH n f z=bH n (λy=>decide (y∈(cF n).filter f)) z:=by
   unfold bH
   congr 1
   refine At λr t=>?_;have:=v r.1<|Ag.mpr ⟨r,t,rfl⟩;show(f r.1 && _)=(decide (r.1∈(cF n).filter f) && _);rw[<-this]
  have c:=pP T (ps:=(cF n).filter f) d;rw[v _<|jR<|dB d,v _<|jR<|sN T d]at c;rw[O,P6 T,Ct,CN,c]
 have e:∀z∈Z,bH n f z=au ((range (aE n).length).map λi=>me n (λr=>f<|aB n r) m i && bP n ((aE n)[i]?.getD []) z):=λz d=>by
  have E:=(o z).mp d;obtain⟨p,Q,G,w⟩:=xu T (k:=0) (by decide) E;obtain⟨q,Y,q2,A⟩:=xu T (k:=1) (by decide) E;rw[Jn T _ w A,<-jV.c6 T ⟨u,N⟩ Q Y<|G.trans q2.symm,G]
 rw[IY e λ_ _=>rfl];unfold bj;have e2:(Z.map λz=>au ((range (aE n).length).map λi=>me n (λr=>f<|aB n r) m i && bP n ((aE n)[i]?.getD []) z) && s z)=Z.map λz=>au ((range (aE n).length).map λi=>me n (λr=>f<|aB n r) m i && (bP n ((aE n)[i]?.getD []) z && s z)):=At λz _=>by
  rw[P4]
  congr 1
  exact At λi _=>Bool.and_assoc _ _ _
 rw[e2,vH λz i=>me n (λr=>f<|aB n r) m i && (bP n ((aE n)[i]?.getD []) z && s z)];have e3:((range (aE n).length).map λi=>au<|Z.map λz=>me n (λr=>f<|aB n r) m i && (bP n ((aE n)[i]?.getD []) z && s z))=(range (aE n).length).map λ_=>false:=At λi j=>by
  have j:=Bg.mp j;rw[<-P0];have H:=Ab (show i<l.length by rwa[b.len]);have I:l[i]'(by rwa[b.len])∈l:=Bq _;have a:=h _ I;have nd:=jQ<|b.qR _ I;have nH:∀z∈l[i]'(by rwa[b.len]),z∈ag n:=IM (λc hc=>(sv T (ends n) [] (λe he=>he) _<|Bq j).ends c hc)<|b.mem i _ _ H (Ab j);have c:au (Z.map λz=>bP n ((aE n)[i]?.getD []) z && s z)=bj Z s (λz=>decide (z∈l[i]'(by rwa[b.len]))):=by
   rw[vL];unfold bj
   congr 1
   refine At λz d=>?_;rw[<-b.at' T j<|(o z).mp d,H,Option.getD_some]
  rw[c,<-(AW B nd (λz d=>D z<|nH z d) s)];show(_ && au _)=false;rw[a,Hl]
 rw[e3,kd]
def Oh(T:ao n)(h:∀r∈n,cN n ps r=cW (λz=>decide (z∈ss)) r)(i:∀z,z∈f↔gj n ps z)(j:i5 ss f d):gg n d=true:=by
 refine dF.mpr λr k=>?_;have a:=h r k;unfold cN cW at a;have e:(r.2.map<|bH n λy=>decide (y∈ps))=r.2.map λz=>decide (z∈f):=At λz _=>by rw[P6 T,decide_eq_decide.mpr<|i z]
 rw[e]at a;have b:au (r.2.map λz=>decide (z∈d))=false:=by
  have:(r.2.map λz=>decide (z∈d))=r.2.map λz=>decide (z∈ss) ^^ decide (z∈f):=At λz _=>AX j z;rw[this,iF,a,Gb]
 have c:(r.2.filter λz=>d.contains z)=r.2.filter λz=>decide (z∈d):=by
  congr 1
  funext z
  rw[Ct,CN];exact Bu
 rw[c];rw[w8]at b;have:=JC b;lia
def tE(n:bc)(ss:Ñ):Prop:=∃a,cM n a/\∀c∈a,(c.filter λz=>ss.contains z).length%2=0
end Nt
namespace G8
open PySem L2 Nt bv bG
open PyProof.Rows (sortedS)
inductive fK(vs:List V)(H:Hp)(Q:VK)(_:XK):Prop
 |mk (R p:Addr)(as:Ï)(n:bc)(ps:Ñ)(_:vs=[.ref R,.ref p])(_:aq H R as n)(_:ao n)(_:n.length<=60)(_:(ag n).length<=60)(_:H p=some (Ls ps))(_:∀L cs H',aj H H'->H L=none->H' L=some (Ls cs)->cz cs->(∀z,z∈cs↔gj n ps z)->cs.length<=60->Q (.ref L) H')
inductive dL(vs:List V)(H:Hp)(Q:VK)(_:XK):Prop
 |mk (a b:Addr)(xs ys:Ñ)(_:vs=[.ref a,.ref b])(_:H a=some (Ls xs))(_:H b=some (Ls ys))(_:xs.length+ys.length<64)(_:∀l ss H',aj H H'->H l=none->H' l=some (Ls ss)->sortedS ss=true->ss.Nodup->(∀z,z∈ss↔(if z∈xs then z∉ys else z∈ys))->Q (.ref l) H')
inductive oU(vs:List V)(H:Hp)(Q:VK)(_:XK):Prop
 |mk (R:Addr)(as:Ï)(n:bc)(_:vs=[.ref R])(_:aq H R as n)(_:n.length<=1000)(_:∀L H',aj H H'->H L=none->H' L=some (Ls (n.map (·.1)))->Q (.ref L) H')
def AZ(ps:Ñ)(x:Lk):Bool:=decide (x.2.1∈ps) != decide (x.2.2∈ps)
def fb(ps:Ñ)(a:List Lk):Ñ:=(a.filter<|AZ ps).map (·.1)
def L1(h:IE a):cz (fb ps a):=by
 unfold cz fb;rw[Ez];exact h.sublist Hj
def Na(T:ao n)(h:∀x,x∈c↔pM n x)(z:Str):z∈fb ps c↔gj n ps z:=by
 unfold fb;rw[Ag]
 constructor
 ·rintro ⟨x,a,rfl⟩;rw[Ao]at a;exact(HP T<|(h x).mp a.1).mpr a.2
 ·intro b;obtain⟨e,d,_⟩:=id b
  obtain q|q:=WV T d
  ·exact⟨_,Ao.mpr ⟨(h _).mpr q,(HP T q).mp b⟩,rfl⟩
  ·exact⟨_,Ao.mpr ⟨(h _).mpr q,(HP T q).mp b⟩,rfl⟩
def Y8(ps:Ñ)(a:List Lk):(fb ps a).length<=a.length:=by
 unfold fb;rw[Aa];exact Db _ _
def vo(ps:Ñ)(a:List Lk)(x:Lk):fb ps (a++[x])=fb ps a++(if AZ ps x=true then [x.1]else []):=by
 unfold fb;rw[Cf,Ai]
 congr 1
 cases h:AZ ps x<;>simp[h]
def xB(zs:Ñ)(z:Str):zs.contains z=decide (z∈zs):=by
 rw[Ct,CN];exact Bu
abbrev Y9:Ñ:=["rows","points"]
abbrev A2:Ñ:=["rows","points","tie","one","other"]
def Qa:ak Y9 ["rows","points"] (aW Hq):=cg
def Qb:A2.Nodup:=by decide +kernel
def x1j(F:bA K "cut_of" "cut_of" Hq f fd)(T:Txt mg)
  (G:aT P w K mg base 1 "links_of" ["rows"] fJ):
  aG P w K mg base bF 2 f fd ["rows","points"] fK:=by
 refine F.gc Qa λb0 H vs Q E hr h=>?_;obtain⟨R,p,as,n,ps,rfl,hR,t,hn,ht,v,q⟩:=h;refine bQ (kL (aW Hq) Y9 A2 3 (gJ bB)<|bC G hr<|ai<|U 0<|aA ⟨R,as,n,rfl,hR,t,by lia,ht,λL us a m j n1 z A rY gu B=>?_⟩);refine⟨L,rfl,⟨_,av.of z⟩,λD e=>?_⟩;have OZ:=bz (j _ _ v) e;have vC:=A.1;refine mI (xs:=us.map V.ref) (λi b k=>(∃v1 I J,b=[some<|.ref R,some<|.ref p]++[v1,I,J])/\k=upd m D (Ls<|fb ps<|a.take i)) ⟨⟨_,_,_,rfl⟩,rfl⟩ ?_ ?_ ?_
 ·rintro i b k _ ⟨_,rfl⟩;exact av.of<|by rwa[ax (bz z e)]
 ·rintro i x b k M ⟨⟨v1,I,J,rfl⟩,rfl⟩;rw[Aj,Ba]at M;obtain⟨u,N,rfl⟩:=M;have hi:i<a.length:=by
   have:=(Ad.mp N).1;lia
  have O:=Ab hi;have Y:=A.2 i u _ N O;have vD:a.take (i+1)=a.take i++[a[i]]:=by rw[Ck,O];rfl
  rw[vD,vo];generalize a[i]=lx at Y;obtain⟨o,r,s⟩:=lx;have Qc:(upd m D<|Ls<|fb ps<|a.take i) u=some (.tup [.str o,.str r,.str s]):=by rwa[ax<|bz Y e]
  have lW:(upd m D<|Ls<|fb ps<|a.take i) p=some (Ls ps):=by rw[ax OZ];exact j _ _ v
  intro cl C' c d ex;refine O7 rfl (aU.of Qc) (a9 2 Qb<|a9 3 Qb<|a9 4 Qb ?_);intro cl C' c d ex;refine qu<|cA tX<|qp t8<|U 3<|U 1 ⟨p,_,rfl,.inl<|av.of lW,rfl,qI _,?_⟩;refine qp t8<|U 4<|U 1 ⟨p,_,rfl,.inl<|av.of lW,rfl,qI _,rfl,_,rfl,?_⟩;have fF:∀(x y:Bool),(if false=true then x else y)=y:=λ_ _=>rfl;rw[fF,fF,si,si,xB,xB,ED];show if AZ ps (o,r,s)=true then _ else _;have nO:=Cd (Y8 ps<|a.take i) (show(a.take i).length<=a.length by rw[Bm];lia)
  by_cases l:AZ ps (o,r,s)=true
  ·rw[BL l];intro cl C' c d ex;refine U 2 ⟨_,ay,by rw[Aa];exact bR (by lia),⟨_,_,_,rfl⟩,?_⟩;rw[pY,BL l];exact Wq
  ·rw[C l];refine⟨⟨_,_,_,rfl⟩,?_⟩;rw[C l,Bd]
 ·rintro b k ⟨_,rfl⟩;rw[Aa,vC,Bn];have nO:=Y8 ps a;exact q D _ _ (j.trans<|aM e _) (fI j e) ay (L1 rY) (Na t gu)<|by lia
def oV(ss:Ñ)(r:Str×List Str):Bool:=(r.2.filter λz=>ss.contains z).length%2 == 0
inductive lr(vs:List V)(H:Hp)(Q:VK)(_:XK):Prop
 |mk (R a:Addr)(as:Ï)(n:bc)(ss:Ñ)(_:vs=[.ref R,.ref a])(_:aq H R as n)(_:n.length<=60)(_:(ag n).length<=1000)(_:H a=some (Ls ss))(_:∀L zs H',aj H H'->H L=none->H' L=some (Ls zs)->zs.Perm ((n.filter λr=>!oV ss r).map (·.1))->Q (.ref L) H')
abbrev NR:Ñ:=["rows","some"]
abbrev Qd:Ñ:=["rows","some","point","ties"]
abbrev Y':Ñ:=["rows","some","point","ties","tie"]
def x0r:ak NR ["rows","some"] (aW j8):=cg
def BA:Qd.Nodup:=by decide +kernel
def kI:Y'.Nodup:=by decide +kernel
def b7:Scope:=match iW j8 with
 |[.Return (some<|.Call _ [.ListComp _ _ a _] _ _) _]=>a
 |_=>aW j8
def Qe:Scope:=relabel b7<|PyProof.Rows.envOfC "odd_points" (aW j8) 0 0 .none
theorem vX(F:bA K "odd_points" "odd_points" j8 f fd)(T:Txt mg):aG P w K mg base bF 1 f fd ["rows","some"] lr:=by
 refine F.gc x0r λb0 H vs Q E hr h=>?_;obtain⟨R,a,as,n,ss,rfl,u,hn,ht,G,q⟩:=h;have bI:=u.len;refine bQ<|cL Mq T.sorted EY<|ai<|kL (aW j8) NR Qd 2 (gJ bB)<|U 0 ⟨R,rfl,⟨_,av.of u.lst⟩,λD I=>?_⟩;refine mI (xs:=as.map λa=>V.ref a.1) (λi m o=>(∃v1 J,m=[some<|.ref R,some<|.ref a]++[v1,J])/\o D=some (.lst<|((n.take i).filter λr=>!oV ss r).map λr=>V.str r.1)/\aj H o) ⟨⟨none,none,rfl⟩,ay,aM I _⟩ ?_ ?_ ?_
 ·rintro i m o _ ⟨_,_,k⟩;exact av.of<|k _ _ u.lst
 ·rintro i x m o B ⟨⟨v1,J,rfl⟩,p,k⟩;have L:i<n.length:=by
   have:=(Ad.mp B).1;rw[Aa]at this;omega
  obtain⟨b,eb,cZ,et,M,er⟩:=(u.same k).at L;rw[Aj,eb]at B;cases B;have k8:(row n i).length<=1000:=Cd (lS n i) ht;have N:n.take (i+1)=n.take i++[n[i]]:=by rw[Ck,Ab L];rfl
  intro s O e j t;refine iA rfl (aU.of et) (a9 2 BA<|a9 3 BA ?_);intro s O e j t;refine qu<|cA fQ<|bb di<|cL eX T.len DP<|ai<|kL Qe Qd Y' 1 (gJ bB)<|U 3 ⟨b.2,rfl,⟨_,av.of M⟩,λD2 y=>?_⟩;refine yP (λz=>ss.contains z) (bR<|by omega) M y (λs d e j t v v0 o R' h=>a9 4 kI h) (λs d e j t z ys T' h=>?_) (λs d e j t z o R' h=>U 4 h) ?_
  ·refine qu (cA t8<|U 4<|U 1 ⟨a,_,rfl,.inl (av.of<|by rw[ax<|bz (k _ _ G) y];exact k _ _ G),rfl,qI _,_,rfl,?_⟩);show T' (t7 (.str z)<|ss.map V.str) _;rwa[si]
  ·have Ö:=bz p y;have A:=aM y<|.lst<|((row n i).filter λz=>ss.contains z).map V.str;refine aA ⟨D2,_,rfl,.inl<|av.of ay,aF ⟨_,_,rfl,rfl,(by show(0:Int)<2;decide),aF ⟨rfl,_,rfl,?_⟩⟩⟩;have ek:decide (V.int ((((((row n i).filter λz=>ss.contains z).map V.str).length:Nat):Int)%2)=V.int 1) = !oV ss n[i]:=by
    unfold oV;rw[Aa,er]
    by_cases Y:(n[i].2.filter λz=>ss.contains z).length%2=0
    ·rw[BR (λh=>by have:=V.int.inj h;omega),beq_iff_eq.mpr Y];rfl
    ·rw[BW (BX V.int<|by omega),beq_eq_false_iff_ne.mpr Y];rfl
   show if decide (V.int ((((((row n i).filter λz=>ss.contains z).map V.str).length:Nat):Int)%2)=V.int 1)=true then _ else _;rw[ek];refine jh (λc=>?_) λc=>?_
   ·intro s O e j t;refine U 2 ⟨_,A _ _ p,?_,⟨_,_,rfl⟩,?_,dR (k.trans A) I⟩
    ·rw[Aa];refine bR<|Cd (Db ..) ?_;rw[Bm];omega
    ·rw[ay,N,Cf,Ai];have:[n[i]].filter (λr=>!oV ss r)=[n[i]]:=by rw[Fw<|by simpa using c];rfl
     rw[this];rfl
   ·refine⟨⟨_,_,rfl⟩,?_,k.trans A⟩;rw[N,Cf];have:[n[i]].filter (λr=>!oV ss r)=[]:=by rw[Fa<|by simpa using c];rfl
    rw[this,Bd];exact A _ _ p
 ·rintro m o ⟨_,p,k⟩;rw[Aa,bI,Bn]at p;have e2:((n.filter λr=>!oV ss r).map λr=>V.str r.1)=(((n.filter λr=>!oV ss r).map (·.1)).map V.str):=by rw[Bi];rfl
  rw[e2]at p;refine aA ⟨D,_,rfl,av.of p,?_,λl zs hl hp _=>?_⟩
  ·rw[Aa];exact Gq (Db ..)<|by lia
  ·exact q l zs _ (k.trans<|aM hl _) (fI k hl) ay hp
def q3z:ak ["one","other"] ["one","other"] (aW M0):=cg
def ZO(F:bA K "summed" "summed" M0 f u)(T:Txt mg):aG P w K mg base bF 1 f u ["one","other"] dL:=by
 refine F.gc q3z λI H J Q E L h=>?_;obtain⟨a,b,xs,i,rfl,v,x,k,q⟩:=h;refine bQ (cL (Vq rfl) T.sorted EY<|ai<|bb xV<|qt (Vp rfl) T.uT MN<|ai<|U 0<|aA ⟨a,xs,rfl,av.of v,by lia,λc y=>?_⟩);have m:=aM y<|bu P w c<|made xs;refine qt (Vp rfl) T.uT MN (ai<|U 1<|aA ⟨b,i,rfl,av.of<|m _ _ x,by lia,λd hd=>?_⟩);have n:=aM hd<|bu P w d<|made i;have M:=Mf xs;have N:=Mf i;refine⟨c,d,made xs,made i,rfl,rfl,n _ _ ay,ay,by lia,by lia,λe o A p B=>?_⟩;have r:=aM A<|bu P w e o;have s:∀z,z∈o↔(if z∈xs then z∉i else z∈i):=λz=>by
  rw[B z];simp only[mE]
 have j:=aK p λz D=>by
  have:=(s z).mp D;rw[Al]
  by_cases c:z∈xs
  ·exact .inl c
  ·rw[C c]at this;exact .inr this
 rw[Ah]at j;refine aA ⟨e,o,rfl,ay,by lia,λl ss k t G=>?_⟩;exact q l ss _ (m.trans<|n.trans<|r.trans (aM k<|Ls ss)) (m.free<|n.free<|r.free k) ay G (t.nodup_iff.mpr p) λz=>by
  rw[t.mem_iff];exact s z
abbrev Za:Ñ:=["rows"]
abbrev BD:Ñ:=["rows","point","ties"]
def Qf:ak Za ["rows"] (aW G'):=cg
def Zb:BD.Nodup:=by decide +kernel
theorem FD(F:bA K "points_of" "points_of" G' f y)(T:Txt mg):aG P w K mg base bF 1 f y ["rows"] oU:=by
 refine F.gc Qf λG H I Q E J h=>?_;obtain⟨R,as,n,rfl,l,L,q⟩:=h;have z:=l.len;refine bQ<|kL (aW G') Za BD 2 (gJ bB)<|U 0 ⟨R,rfl,⟨_,av.of l.lst⟩,λD o=>?_⟩;refine mI (xs:=as.map λa=>V.ref a.1) (λi c j=>(∃v1 r,c=[some<|.ref R]++[v1,r])/\j D=some (Ls ((n.take i).map (·.1)))/\aj H j) ⟨⟨none,none,rfl⟩,ay,aM o _⟩ ?_ ?_ ?_
 ·rintro i c j _ ⟨_,_,k⟩;exact av.of<|k _ _ l.lst
 ·rintro i x c j p ⟨⟨v1,r,rfl⟩,m,k⟩;have s:i<n.length:=by
   have:=(Ad.mp p).1;rw[Aa]at this;omega
  obtain⟨b,A,M,B,N,O⟩:=(l.same k).at s;rw[Aj,A]at p;cases p;intro t u d e v;refine iA rfl (aU.of B) (a9 1 Zb<|a9 2 Zb ?_);intro t u d e v;refine j5<|bK ?_;intro t u d e v;refine U 1 ⟨_,m,?_,⟨_,_,rfl⟩,?_,dR k o⟩
  ·rw[Aa,Aa,Bm];exact bR<|by omega
  ·rw[ay,Ck,Ab s,Ai];show _=some (HO.lst<|List.map V.str<|_++_);rw[Ai];rfl
 ·rintro c j ⟨_,m,k⟩;rw[Aa,z,Bn]at m;exact q D j k o m
end G8
namespace G8
open PySem L2 Nt bv
open PyProof.Rows (sortedS)
inductive km(vs:List V)(H:Hp)(Q:VK)(_:XK):Prop
 |mk (R W:Addr)(as:Ï)(n:bc)(ts:List Addr)(es:List Nt.bi)(_:vs=[.ref R,.ref W])(_:aq H R as n)(_:(n.map (·.1)).Nodup)(_:n.length<=1000)(_:(ag n).length<=1000)(_:H W=some (.lst<|ts.map V.ref))(_:gM n H ts es)(_:(∀e∈es,e∈ends n))(_:es.length<=1000)(_:(∀l:Ñ,l.Nodup->(∀z∈l,z∈es.map (aw n))->l.length<64))(_:∀l ss H',aj H H'->H l=none->H' l=some (Ls ss)->cz ss->(∀z,z∈ss↔(es.map<|aw n).count z=1)->Q (.ref l) H')
def Zc(L:Ñ):(L.filter λz=>decide (L.count z=1)).Nodup:=by
 rw[Hg];intro z
 by_cases h:L.count z=1
 ·rw[List.count_filter<|by simpa using h];lia
 ·rw[Ey]
  ·lia
  ·intro a;exact h<|BZ (Ao.mp a).2
def fy(L:Ñ)(z:Str):z∈(L.filter λz=>decide (L.count z=1))↔L.count z=1:=by
 rw[Ao,CN];exact⟨λh=>h.2,λh=>⟨Bo.mp (by lia),h⟩⟩
abbrev Qg:Ñ:=["rows","walker","names","gone"]
abbrev BE:Ñ:=["rows","walker","names","gone","end"]
abbrev BF:Ñ:=["rows","walker","names","gone","tie"]
def BG:ak Qg ["rows","walker"] (aW yZ):=cg
def hX:BE.Nodup:=by decide +kernel
def YA:BF.Nodup:=by decide +kernel
theorem q82(F:bA K "core_of" "core_of" yZ f fd)(T:Txt mg)
  (GT:aT P w K mg base 2 "ties_by_end" ["rows"] qV):aG P w K mg base bF 3 f fd ["rows","walker"] km:=by
 refine F.gc BG λb0 H vs Q E M h=>?_;obtain⟨R,W,as,n,ts,b,rfl,hR,hN,hn,gY,hW,N,yV,Ö,O,q⟩:=h;have nd:=BG.nd;have hl:=N.1;refine aX 2 nd<|bC GT M<|ai<|U 0<|aA ⟨R,as,n,rfl,hR,hN,hn,gY,λd kvs H1 B Nm ed uv=>?_⟩;have Y:=B _ _ hW;have G:=N.same B;refine aX 3 nd<|kL (aW yZ) Qg BE 1 (gJ bB)<|U 1 ⟨W,rfl,⟨_,av.of Y⟩,λD hD=>?_⟩;refine mI (xs:=ts.map V.ref) (λi c o=>(∃v,c=[some<|.ref R,some<|.ref W,some<|.ref d,none]++[v])/\aj H1 o/\o D=some (Ls<|(b.take i).map<|aw n)) ⟨⟨none,rfl⟩,aM hD _,ay⟩ ?_ ?_ ?_
 ·rintro i c o _ ⟨_,p,_⟩;exact av.of<|p _ _ Y
 ·rintro i x c o hx ⟨⟨v,rfl⟩,p,r⟩;rw[Aj,Ba]at hx;obtain⟨t,ht,rfl⟩:=hx;have hi:i<b.length:=by have:=(Ad.mp ht).1;omega
  have y:=Ab hi;have pR:b.take (i+1)=b.take i++[b[i]]:=by rw[Ck,y];rfl
  generalize oR:b[i]=e at y pR;have sV:=p _ _<|G.2 i t e ht y;have F8:=yV e<|An y;obtain⟨z,A⟩:=af.mp F8;have mO:=cB A;intro s a j m u;refine a9 4 hX ?_;intro s a j m u;refine j5 ?_;rw[BL rfl];intro s a j m u;refine i0 M.u1<|U 2<|U 4 ⟨d,.str z,rfl,(by rw[<-uv e z A];exact bf.t (p _ _ ed) sV),_,r,?_,⟨_,rfl⟩,dR p hD,?_⟩
  ·rw[Aa,Aa,Bm];exact bR<|by lia
  ·rw[ay,pR,Ai];show some (HO.lst<|((b.take i).map<|aw n).map V.str++[V.str z])=some (HO.lst<|((b.take i).map (aw n)++[aw n e]).map V.str);rw[Ai];show some (HO.lst<|((b.take i).map<|aw n).map V.str++[V.str z])=some (HO.lst<|((b.take i).map<|aw n).map V.str++[V.str<|aw n e]);rw[mO]
 rintro c o ⟨_,p,r⟩;have Qh:b.take (ts.map V.ref).length=b:=Dg (by rw[Aa];lia);rw[Qh]at r;generalize I:b.map (aw n)=L at r O q;have XX:L.length<=1000:=by rwa[<-I,Aa]
 refine bQ<|cL Mq T.sorted EY<|ai<|kL (aW yZ) Qg BF 1 (gJ bB)<|U 3 ⟨D,rfl,⟨_,av.of r⟩,λD3 J=>?_⟩;have n3:D≠D3:=bz r J;refine yP (λz=>decide (L.count z=1)) (bR<|by lia) r J (λs a s0 H0 u v v0 o R' h=>a9 4 YA h) (λs a s0 H0 u z zs T' h=>qu<|cA fQ<|yJ DG RX RZ Ym<|U 3 (v:= .ref D) ⟨Or.inl ⟨rfl,_,av.of<|by rwa[ax n3]⟩,U 4 ⟨D,L,z,rfl,rfl,av.of (by rwa[ax n3]),aF ⟨rfl,_,rfl,?_⟩⟩⟩) (λs a s0 H0 u z o R' h=>U 4 h) ?_
 ·have ek:decide (V.int (L.count z:Int)=V.int 1)=decide (L.count z=1):=decide_eq_decide.mpr ⟨λk=>by have:=V.int.inj k;lia,λk=>by rw[k];rfl⟩;show T' (decide (V.int (L.count z:Int)=V.int 1)) _;rwa[ek]
 refine aA ⟨D3,_,rfl,av.of ay,O _ (Zc L) λz A=>(Ao.mp A).1,λl ss j3 pF rY=>?_⟩;have s3:=B.trans<|p.trans<|aM J<|Ls<|L.filter λz=>decide (L.count z=1);exact q l ss _ (s3.trans<|aM j3 _) (s3.free j3) ay (Nw rY<|pF.nodup_iff.mpr<|Zc L) λz=>by rw[pF.mem_iff];exact fy L z
end G8
namespace L2
open PySem PySem.Spec PyProof.Rows bv
end L2
namespace L2
open PySem PySem.Spec PyProof.Rows
end L2
namespace bG
open PySem SetTable
end bG
namespace L2
open PySem PySem.Spec PyProof.Rows bG Classical
end L2
namespace L2
open PySem PySem.Spec PyProof.Rows
end L2
namespace G8
open PySem L2 Nt bv bG
open PyProof.Rows (sortedS)
open Classical
def BI(H:Hp)(L:Addr)(us:List Addr)(a:List<|List Str):Prop:=H L=some (.lst<|us.map V.ref)/\us.length=a.length/\∀(i:Nat)u c,us[i]?=some u->a[i]?=some c->H u=some (Ls c)
inductive iL(vs:List V)(H:Hp)(Q:VK)(_:XK):Prop
 |mk (R:Addr)(as:Ï)(n:bc)(_:vs=[.ref R])(_:aq H R as n)(_:(n.map (·.1)).Nodup)(_:ao n)(_:n.length<=60)(_:(ag n).length<=60)(_:∀L us cs H',aj H H'->H L=none->BI H' L us cs->cM n cs->(∀u∈us,H u=none)->Q (.ref L) H')
structure ri(n:bc)(H:Hp)(D:Addr)(us:List Addr)(cs:List<|List Str)(i:Nat):Prop where
 lst:H D=some (.lst<|us.map V.ref)
 lu:us.length=i
 lc:cs.length=i
 at':∀(j:Nat)u c,us[j]?=some u->cs[j]?=some c->H u=some (Ls c)/\u≠D
 mem:∀(j:Nat)c w,cs[j]?=some c->(aE n)[j]?=some w->∀z,z∈c↔(w.map<|aw n).count z=1
 qR:∀c∈cs,cz c
theorem ri.step(I:ri n H D us p i)(x:aj H q)(r:H k=none)(e2:q k=some (Ls ks))(M:cz ks)(y:(aE n)[i]?=some A)(B:∀z,z∈ks↔(A.map<|aw n).count z=1):ri n (upd q D<|.lst<|us.map V.ref++[.ref k]) D (us++[k]) (p++[ks]) (i+1):=by
 have E:=I.lu;have s:=I.lc;have t:k≠D:=λe=>by rw[e,I.lst]at r;cases r
 have zero:∀{o:Type}{l:List o}{a b:o}{j:Nat},¬ j<l.length->(l++[a])[j]?=some b->j=l.length/\a=b:=λ{o l a b j}h e=>by
  rw[Ay<|by omega]at e;have d:j-l.length=0:=by grind
  rw[d]at e;exact⟨by omega,by cases e;rfl⟩
 refine⟨by rw[ay,Ai];rfl,by rw[Ah,E];rfl,by rw[Ah,s];rfl,λj u c f m=>?_,λj c w f m=>?_,λc G=>?_⟩
 ·by_cases d:j<us.length
  ·rw[Aw d]at f;rw[Aw<|by lia]at m;obtain⟨J,v⟩:=I.at' j u c f m;exact⟨by rw[ax v];exact x _ _ J,v⟩
  ·obtain⟨_,rfl⟩:=zero d f;obtain⟨_,rfl⟩:=zero (by lia) m;exact⟨by rwa[ax t],t⟩
 ·by_cases d:j<p.length
  ·rw[Aw d]at f;exact I.mem j c w f m
  ·obtain⟨L,rfl⟩:=zero d f;rw[L,s,y]at m;cases m;exact B
 ·obtain h|h:=Al.mp G
  ·exact I.qR c h
  ·rwa[Ae.mp h]
def ri.start{n:bc}(h:H D=some (.lst [])):ri n H D [] [] 0:=⟨h,rfl,rfl,λj u c h=>by simp at h,λj c w h=>by simp at h,λc h=>by cases h⟩
def ri.whole{n:bc}(I:ri n H D us d (aE n).length):BI H D us d/\cM n d:=⟨⟨I.lst,I.lu.trans I.lc.symm,λi u c a b=>(I.at' i u c a b).1⟩,I.lc,I.mem,I.qR⟩
def ca{a:List Nt.bi}(h:∀e∈a,e∈ends n):∀z∈a.map (aw n),z∈ag n:=λz c=>by
 obtain⟨e,d,rfl⟩:=Ag.mp c;obtain⟨y,b⟩:=af.mp<|h e d;rw[cB b];exact dP b
section
abbrev Zf:Ñ:=["rows"]
abbrev BM:Ñ:=["rows","walker"]
def BO:ak Zf ["rows"] (aW Hr):=cg
def Q2:BM.Nodup:=by decide +kernel
def ft(F:bA K "cores_of" "cores_of" Hr f fd)(T:Txt mg)(GW:aT P w K mg base 4 "walkers_of" ["rows"] oQ)(GC:aT P w K mg base 4 "core_of" ["rows","walker"] km):aG P w K mg base bF 5 f fd ["rows"] iL:=by
 refine F.gc BO λb0 H vs Q E G h=>?_;obtain⟨R,as,n,rfl,J,L,M,N,gY,q⟩:=h;have sQ:=kQ n;refine bQ (kL (aW Hr) Zf BM 1 (gJ bB)<|bC GW G<|ai<|U 0<|aA ⟨R,as,n,rfl,J,L,M,by lia,by lia,λW ls H1 o n1 p fW=>⟨W,rfl,⟨_,av.of p.lst⟩,λD t=>?_⟩⟩);have wl:(aE n).length<=(ends n).length:=Hu n (ends n) [];have O:=p.len;refine mI (xs:=ls.map V.ref) (λi b m=>(∃v,b=[some<|.ref R]++[v])/\aj H1 m/\∃us r,ri n m D us r i/\∀u∈us,H u=none) ⟨⟨none,rfl⟩,aM t _,[],[],ri.start ay,λu h=>(by cases h)⟩ ?_ ?_ ?_
 ·rintro i b m _ ⟨_,c,_⟩;exact av.of<|c _ _ p.lst
 ·rintro i x b m Y ⟨⟨v,rfl⟩,c,us,r,I,y⟩;rw[Aj,Ba]at Y;obtain⟨l,hl,rfl⟩:=Y;have nQ:i<(aE n).length:=by have:=(Ad.mp hl).1;rwa[<-O]
  have s:=Ab nQ;obtain⟨ts,el,hE⟩:=(p.same c).at' i l _ hl s;have wk:=(sv M (ends n) [] λe he=>he) _<|An s;generalize (aE n)[i]=es at s hE wk;have Ö:=wk.few;have lu:=I.lu;intro cl a d j ex;apply a9 1 Q2;intro cl a d j ex;refine j5<|bK ?_;intro cl a d j ex;refine bC GC G<|ai<|U 0<|ai<|U 1<|aA ⟨R,l,as,n,ts,es,rfl,J.same<|o.trans c,L,by lia,by lia,el,hE,wk.ends,by lia,λl N hm=>?_,λk ks H2 A n2 e2 B m2=>?_⟩
  ·have:=aK N λz hz=>ca wk.ends z<|hm z hz;lia
  exact⟨_,A _ _ I.lst,by rw[Aa];exact bR (by lia),⟨_,rfl⟩,dR (c.trans A) t,_,_,I.step A n2 e2 B s m2,λu hu=>(Al.mp hu).elim (y u) λh=>by rw[Ae.mp h];exact(o.trans c).free n2⟩
 ·rintro b m ⟨_,c,us,r,I,y⟩;rw[Aa,O]at I;exact q D us r m (o.trans c) (o.free t) I.whole.1 I.whole.2 y
open PyProof.Rows (sortedS)
open Classical
structure jC(H:Hp)(S:Addr)(us:List<|Addr×Addr×Addr)(st:dJ):Prop where
 lst:H S=some (.lst<|us.map λu=>V.ref u.1)
 len:us.length=st.length
 at':∀(i:Nat)u s,us[i]?=some u->st[i]?=some s->H u.1=some (.tup [.ref u.2.1,.ref u.2.2])/\H u.2.1=some (Ls s.1)/\H u.2.2=some (Ls s.2)
def jC.same(h:jC H S us st)(s:aj H H'):jC H' S us st:=⟨s _ _ h.lst,h.len,λi u x a b=>let q:=h.at' i u x a b;⟨s _ _ q.1,s _ _ q.2.1,s _ _ q.2.2⟩⟩
def yD(ss:Ñ):(λr:Str×List Str=>!oV ss r)=cW λz=>decide (z∈ss):=by
 funext r
 unfold oV cW;rw[w8];have c:(r.2.filter λz=>ss.contains z)=r.2.filter λz=>decide (z∈ss):=by grind
 rw[c];generalize (r.2.filter λz=>decide (z∈ss)).length=k
 obtain h|h:=QW k<;>rw[h]<;>rfl
def Zh{ss os:Ñ}(h:os.Perm ((n.filter λr=>!oV ss r).map (·.1))):dI n (λz=>decide (z∈ss)) os:=by
 rwa[yD]at h
def mi{l:Ñ}(c:n.length<=31)(a:l.Nodup)(b:∀x∈l,x∈cF n):l.length<=31:=by
 have:=aK a b;rw[Aa]at this;lia
inductive oW(vs:List V)(H:Hp)(Q:VK)(_:XK):Prop
 |mk (S p o:Addr)(us:List<|Addr×Addr×Addr)(n:bc)(st:dJ)(ps os:Ñ)(_:vs=[.ref S,.ref p,.ref o])(_:jC H S us st)(_:P7 n st)(_:n.length<=31)(_:H p=some (Ls ps))(_:H o=some (Ls os))(_:jB n [] ps os ps os)(_:∀(L p' o':Addr) (c7 cv:Ñ) (H':Hp),aj H H'->H L=none->H' L=some (.tup [.ref p',.ref o'])->H' p'=some (Ls c7)->H' o'=some (Ls cv)->(p'=p\/H p'=none)->(o'=o\/H o'=none)->jB n st ps os c7 cv->Q (.ref L) H')
inductive vN(vs:List V)(H:Hp)(Q:VK)(_:XK):Prop
 |mk (R o:Addr)(as:Ï)(n:bc)(os:Ñ)(s:Str->Bool)(_:vs=[.ref R,.ref o])(_:aq H R as n)(_:(cF n).Nodup)(_:ao n)(_:n.length<=31)(_:(ag n).length<=60)(_:H o=some (Ls os))(_:dI n s os)(_:rh n s)(_:∀L ps H',aj H H'->H' L=some (Ls ps)->(∀r∈n,cN n ps r=cW s r)->Q (.ref L) H')
inductive gC(vs:List V)(H:Hp)(Q:VK)(_:XK):Prop
 | mk (R p:Addr) (as:Ï) (n:bc) (ss:Ñ) (_:vs=[.ref R,.ref p]) (_:aq H R as n) (_:(cF n).Nodup) (_:ao n) (_:HF n) (_:n.length<=31) (_:(ag n).length<=60) (_:H p=some (Ls ss)) (_:ss.Nodup) (_:(∀ z∈ss,z∈ag n)) (_:(∀t L c H',aj H H'->H t=none->H L=none->H' t=some (.tup [.str "odd",.ref L])->H' L=some (Ls c)->(∃cs,cM n cs/\c∈cs)->(c.filter λz=>ss.contains z).length%2=1->Q (.ref t) H')) (_:(∀t L M rs cs ps H',aj H H'->H t=none->H L=none->H M=none->L≠M->H' t=some (.tup [.str "parts",.ref L,.ref M])->H' L=some (Ls rs)->H' M=some (Ls cs)->tE n ss->cz rs->cz cs->gg n rs=true->(∀z,z∈cs↔gj n ps z)->i5 ss cs rs->Q (.ref t) H'))
def hZ(T:ao n)(b:HF n)(h:tE n ss):rh n λz=>decide (z∈ss):=by
 obtain⟨i,a,d⟩:=h;refine NH T b a λc f=>?_;have:=d c f;rw[w8];have e:(c.filter λz=>ss.contains z)=c.filter λz=>decide (z∈ss):=by
  congr 1
  funext z
  rw[Ct,CN];exact Bu
 rw[e]at this;exact BR<|by lia
abbrev NLo:Ñ:=["steps","points","odds","tried","left"]
def BQ:ak NLo ["steps","points","odds"] (aW M3):=cg
theorem x07(F:bA K "lowered" "lowered" M3 f fd)(T:Txt mg)(GM:aT P w K mg base 1 "summed" ["one","other"] dL):aG P w K mg base bF 2 f fd ["steps","points","odds"] oW:=by
 refine F.gc BQ λb0 H vs Q E hr h=>?_;obtain⟨S,p,o,us,n,st,ps,os,rfl,v,I,z,hp,ho,lw,q⟩:=h;have nd:=BQ.nd;have hl:=v.len;refine jH<|U 0 ⟨S,rfl,⟨_,av.of v.lst⟩,?_⟩;refine jI (xs:=us.map λu=>V.ref u.1) (λi A B=>E6 λd c b a M N=>A7 (aj H B) (B d=some (Ls b)) (B c=some (Ls a)) (d=p\/H d=none) (c=o\/H c=none) (jB n (st.take i) ps os b a)<|A=[some<|.ref S,some<|.ref d,some<|.ref c,M,N]) ⟨p,o,ps,os,_,_,aj.refl H,hp,ho,.inl rfl,.inl rfl,lw,rfl⟩ ?_ ?_ ?_
 ·rintro i A B _ ⟨_,_,_,_,_,_,e,_⟩;exact av.of<|e _ _ v.lst
 ·rintro i x A H1 hx ⟨d,c,b,a,M,N,e,D,j,f1,f2,lo,rfl⟩;rw[Aj,Ba]at hx;obtain⟨u,hu,rfl⟩:=hx;have hi:i<st.length:=by have:=(Ad.mp hu).1;omega
  have l:=Ab hi;generalize st[i]=s at l;have r:=An l;obtain⟨a1,a2,a3⟩:=(v.same e).at' i u s hu l;obtain⟨y,G,hy⟩:∃y G,s.2=y :: G:=by
   cases k:s.2 with
   |nil=>cases (I.ne s r) k
   |cons y G=>exact⟨y,G,rfl⟩
  have hd:s.2.head?=some y:=by rw[hy];rfl
  have l1:=mi z lo.nd.1 lo.sub.1;have l2:=mi z lo.nd.2 lo.sub.2;have l3:=mi z (I.nd s r).1 (I.sub s r).1;have l4:=mi z (I.nd s r).2 (I.sub s r).2;refine iA rfl (aU.of a1) (a9 3 nd<|a9 4 nd ?_);have ha:gS (s.2.map V.str) ((0:Nat):Int)=some (.str y):=yM (by rw[hy];rfl);refine fk<|cA t8<|bn dZ<|U 4<|aF ⟨u.2.2,_,_,.str y,rfl,rfl,av.of a3,ha,U 2 ⟨c,_,rfl,.inl<|av.of j,rfl,qI _,_,rfl,?_⟩⟩;have fF:∀(x y:Bool),(if false=true then x else y)=y:=λ_ _=>rfl;rw[fF,si,xB]
  by_cases J:y∈a
  ·rw[BW J];refine bK (aX 1 nd<|bC GM hr<|ai<|U 1<|ai<|U 3<|aA ⟨d,u.2.1,b,s.1,rfl,D,a2,by omega,λm ms H2 L n2 em _ O mm=>?_⟩);refine aX 2 nd (bC GM hr<|ai<|U 2<|ai<|U 4<|aA ⟨c,u.2.2,a,s.2,rfl,L _ _ j,L _ _ a3,by omega,λk ks H3 s3 n3 ek _ Y mk=>?_⟩);exact a8<|a8 ⟨m,k,ms,ks,_,_,(e.trans L).trans s3,s3 _ _ em,ek,.inr<|e.free n2,.inr<|(e.trans L).free n3,lo.step I l hd J O Y mm mk,rfl⟩
  ·rw[BR J];exact bU<|a8<|a8 ⟨d,c,b,a,_,_,e,D,j,f1,f2,lo.skip l hd J,rfl⟩
 ·rintro A H1 ⟨d,c,b,a,M,N,e,D,j,f1,f2,lo,rfl⟩;rw[Aa,hl,Bn]at lo;refine bQ<|dk<|ai<|U 1<|ai<|U 2<|aA ⟨Z2,λt ht=>?_⟩;have sT:=aM ht<|.tup [.ref d,.ref c];exact q t d c b a _ (e.trans sT) (e.free ht) ay (sT _ _ D) (sT _ _ j) f1 f2 lo
def q7a(T:ao n){ps a:Ñ}(h:∀z,z∈a↔gj n ps z):(λz=>decide (z∈a))=bH n λy=>decide (y∈ps):=by
 funext z
 rw[P6 T,decide_eq_decide.mpr<|h z]
abbrev Pc:Ñ:=["rows","odds","steps","point","tried","left"]
def BU:ak Pc ["rows","odds"] (aW M1):=cg
theorem JE(F:bA K "points_by" "points_by" M1 f fd)(T:Txt mg)(GP:aT P w K mg base 3 "points_of" ["rows"] oU)(GL:aT P w K mg base 3 "lowered" ["steps","points","odds"] oW)(GO:aT P w K mg base 3 "odd_points" ["rows","some"] lr)(GC:aT P w K mg base 3 "cut_of" ["rows","points"] fK):aG P w K mg base bF 4 f fd ["rows","odds"] vN:=by
 refine F.gc BU λb0 H vs Q E J h=>?_;obtain⟨R,o,as,n,os,s,rfl,hR,M,hT,hn,gY,ho,hO,rX,q⟩:=h;have nd:=BU.nd;refine aX 2 nd<|eQ<|aA ⟨Z0,λS hS=>?_⟩;have s0:=aM hS<|.lst [];have Qj:(upd H S<|.lst []) S=some (.lst []):=ay;generalize upd H S (.lst [])=H0 at s0 Qj;refine jH (bC GP J<|ai<|U 0<|aA ⟨R,as,n,rfl,hR.same s0,by lia,λN H1 s1 n1 eN=>⟨N,rfl,⟨_,av.of eN⟩,?_⟩⟩);have Ö:N≠S:=λe=>by rw[e,Qj]at n1;cases n1
 refine jI (xs:=(cF n).map V.str) (λi σ H'=>E5 λus st u3 u4 u5=>A6 (aj H H') (H' N=some (Ls<|cF n)) (jC H' S us st) (∀u∈us,u.2.1≠S/\u.2.2≠S) (mV n i st)<|σ=[some<|.ref R,some<|.ref o,some<|.ref S,u3,u4,u5]) ⟨[],[],_,_,_,s0.trans s1,eN,⟨s1 _ _ Qj,rfl,λi u s h=>by simp at h⟩,λu h=>(by cases h),mV.start n,rfl⟩ ?_ ?_ ?_
 ·rintro i σ H' _ ⟨_,_,_,_,_,_,eN,_⟩;exact av.of eN
 ·rintro i x σ r l ⟨us,st,u3,u4,u5,Y,Zi,D,fS,I,rfl⟩;rw[Aj,Ba]at l;obtain⟨x,l,rfl⟩:=l;have Wt:=An l;have pV:=hR.same Y;have Jb:=D.lst;apply a9 3 nd;refine yq<|bC GL J<|ai<|U 2<|ai<|eQ<|ai<|U 3<|aA ⟨Z1,λA hA=>ai<|bC GO J<|ai<|U 0<|ai<|bC GC J<|ai<|U 0<|ai<|eQ<|ai<|U 3<|aA ⟨Z1,λB hB=>?_⟩⟩;have G:=aM hA<|.lst [.str x];have sB:=aM hB<|.lst [.str x];have m:(upd r A<|.lst [.str x]) A=some (Ls [x]):=ay;have eB:(upd (upd r A<|.lst [.str x]) B<|.lst [.str x]) B=some (Ls [x]):=ay;have m:=sB _ _ m;have BV:=G.trans sB;generalize upd (upd r A<|.lst [.str x]) B (.lst [.str x])=H3 at m eB BV;refine aA ⟨R,B,as,n,[x],rfl,pV.same BV,hT,by omega,gY,eB,λa cs H4 s4 n4 eC Ø mC lC=>?_⟩;refine aA ⟨R,a,as,n,cs,rfl,(pV.same BV).same s4,by omega,by omega,eC,λO zs H5 s5 n5 eO pO=>?_⟩;have B2:=Zh pO;rw[q7a hT mC]at B2;have Zj:=s4.trans s5;have Qk:=BV.trans Zj;refine aA ⟨S,A,O,us,n,st,[x],zs,rfl,D.same Qk,I.cO,hn,Zj _ _ m,eO,jB.start (Bb.mpr ⟨Cs,Co⟩) (B2.nd M) (λy hy=>by rwa[Ae.mp hy]) B2.sub,λL b d c7 cv H6 s6 n6 eL e1 e2 f1 f2 lo=>?_⟩;have Jc:=Qk.trans s6;have vO:=Y.trans Jc;have Ql:=Jc _ _ Jb;have Zk:=Qk _ _ Jb;have fp:b≠S:=by
   obtain rfl|f1:=f1
   ·exact λe=>by rw[e,Jb]at hA;cases hA
   ·exact λe=>by rw[e,Zk]at f1;cases f1
  have fo:d≠S:=by
   obtain rfl|f2:=f2
   ·exact λe=>by rw[e,s4 _ _<|BV _ _ Jb]at n5;cases n5
   ·exact λe=>by rw[e,Zk]at f2;cases f2
  refine iA rfl (aU.of eL) (a9 4 nd<|a9 5 nd ?_);refine fk (UB<|U 5 (v:= .ref d) ⟨!cv.isEmpty,Or.inl ⟨_,av.of e2,by cases cv<;>rfl⟩,?_⟩);have Zm:=Jc _ _ Zi;have B3:=D.same Jc;have lI:=I.len;have lN:=(Ad.mp l).1;rw[Aa]at lN;cases cv with
  |nil=>exact bU<|a8<|a8 ⟨us,st,_,_,_,vO,Zm,B3,fS,I.skip M l B2 lo,rfl⟩
  |cons y l'=>
   refine bK<|ik<|mH<|U 2 ⟨S,rfl,⟨_,Ql⟩,dk<|ai<|U 4<|ai<|U 5<|aA ⟨Z2,λt ht=>?_⟩⟩;have p:=aM ht<|.tup [.ref b,.ref d];have eT:(upd H6 t<|.tup [.ref b,.ref d]) t=some (.tup [.ref b,.ref d]):=ay;have tS:t≠S:=λe=>by rw[e,Ql]at ht;cases ht
   have hl:=D.len;generalize upd H6 t (.tup [.ref b,.ref d])=H7 at p eT;have B4:=B3.same p;refine⟨_,p _ _ Ql,by rw[Aa];exact bR (by omega),a8<|a8 ⟨us++[(t,b,d)],st++[(c7,y :: l')],_,_,_,dR (vO.trans p) hS,by rw[ax Ö];exact p _ _ Zm,⟨?_,by rw[Ah,Ah,hl];rfl,λj u s c hs=>?_⟩,λu c=>?_,I.step M l B2 lo (λe=>by cases e),rfl⟩⟩
   ·rw[ay,Ai];rfl
   ·by_cases hj:j<us.length
    ·rw[Aw hj]at c;rw[Aw<|by lia]at hs;obtain⟨b1,b2,b3⟩:=B4.at' j u s c hs;obtain⟨g1,g2⟩:=fS u<|An c;exact⟨by rwa[ax<|cm b1 B4.lst λz=>nomatch z],by rwa[ax g1],by rwa[ax g2]⟩
    ·rw[Ay<|by lia]at c hs;have fH:j-us.length=0:=by
      have:=(Ad.mp c).1;simp at this;lia
     rw[fH]at c;rw[<-hl,fH]at hs;cases c;cases hs;exact⟨by rwa[ax tS],by rw[ax fp];exact p _ _ e1,by rw[ax fo];exact p _ _ e2⟩
   ·obtain k|k:=Al.mp c
    ·exact fS u k
    ·rw[Ae.mp k];exact⟨fp,fo⟩
 ·rintro σ r ⟨us,st,u3,u4,u5,Y,Zi,D,fS,I,rfl⟩;rw[Aa,Aa]at I;refine bQ<|bn cw<|bC GL J<|ai<|U 2<|ai<|eQ<|aA ⟨Z0,λA hA=>ai<|U 1<|aA ?_⟩;have G:=aM hA<|.lst [];have m:(upd r A<|.lst []) A=some (Ls []):=ay;generalize upd r A (.lst [])=H3 at G m;refine⟨S,A,o,us,n,st,[],os,rfl,D.same G,I.cO,hn,m,G _ _<|Y _ _ ho,jB.start Co (hO.nd M) (λy hy=>by cases hy) hO.sub,λL b d c7 cv H6 s6 n6 eL e1 e2 f1 f2 lo=>aF ⟨L,_,_,.ref b,rfl,rfl,aU.of eL,rfl,?_⟩⟩;exact q b c7 H6 ((Y.trans G).trans s6) e1<|I.whole M rX hO lo
abbrev Zn:Ñ:=["rows","some","core","cut"]
abbrev B5:Ñ:=["rows","some","core","cut","tie"]
def B6:ak Zn ["rows","some"] (aW Hs):=cg
def ON:B5.Nodup:=by decide +kernel
theorem Tu(F:bA K "parted" "parted" Hs f fd)(T:Txt mg)(GK:aT P w K mg base 5 "cores_of" ["rows"] iL)(GC:aT P w K mg base 5 "cut_of" ["rows","points"] fK)(GB:aT P w K mg base 5 "points_by" ["rows","odds"] vN)(GO:aT P w K mg base 5 "odd_points" ["rows","some"] lr)(GM:aT P w K mg base 5 "summed" ["one","other"] dL):aG P w K mg base bF 6 f fd ["rows","some"] gC:=by
 refine F.gc B6 λb0 H vs Q E m h=>?_;obtain⟨R,p,as,n,ss,rfl,B,hN,j,hf,hn,gY,G,Ö,cU,q1,q2⟩:=h;have nd:=B6.nd;have O6:=NM j Ö cU;refine jH (bC GK m<|ai<|U 0<|aA ⟨R,as,n,rfl,B,hN,j,by lia,gY,λa cu l H1 I n1 J o fC=>⟨a,rfl,⟨_,av.of J.1⟩,?_⟩⟩);have Ø:=J.2.1;have vM:=sv j (ends n) [] λe he=>he;have Ù:=o.len;refine jI (xs:=cu.map V.ref) (λi N Y=>E1 λ(u2:Option V)=>A3 (aj H1 Y) (∀c∈l.take i,(c.filter λz=>ss.contains z).length%2=0)<|N=[some<|.ref R,some<|.ref p,u2,none]) ⟨_,aj.refl _,λc h=>(by rw[List.take_zero]at h;cases h),rfl⟩ ?_ ?_ ?_
 ·rintro i N Y _ ⟨_,b,_⟩;exact av.of<|b _ _ J.1
 ·rintro i x N H2 hx ⟨u2,b,lZ,rfl⟩;rw[Aj,Ba]at hx;obtain⟨u,hu,rfl⟩:=hx;have hi:i<l.length:=by have:=(Ad.mp hu).1;omega
  have hc:=Ab hi;have fv:=J.2.2 i u _ hu hc;have jS:l[i]∈l:=Bq hi;have mW:=Ab (show i<(aE n).length by omega);have wk:=vM _<|An mW;have q:=IM wk.ends<|o.mem i _ _ hc mW;have Zo:=o.qR _ jS;have vD:=AY hc;generalize l[i]=c at hc fv jS q Zo vD;have nO:=NM j (jQ Zo) q;apply a9 2 nd;refine fk<|cA fQ<|bb di<|cL eX T.len DP<|ai<|kL (aW Hs) Zn B5 1 (gJ bB)<|U 2 ⟨u,rfl,⟨_,av.of<|b _ _ fv⟩,λD hD=>?_⟩;refine yP (λz=>ss.contains z) (bR<|by omega) (b _ _ fv) hD (λcl a s0 H0 ex v v0 Y R' h=>a9 4 ON h) (λcl a s0 H0 ex z zs T' h=>qu<|cA t8<|U 4<|U 1 ⟨p,_,rfl,.inl (av.of<|by rw[ax<|bz (b _ _<|I _ _ G) hD];exact b _ _<|I _ _ G),rfl,qI _,_,rfl,?_⟩) (λcl a s0 H0 ex z Y R' h=>U 4 h) ?_
  ·have fF:∀(x y:Bool),(if false=true then x else y)=y:=λ_ _=>rfl;rwa[fF,si]
  have s2:=aM hD<|.lst<|(c.filter λz=>ss.contains z).map V.str;refine aA ⟨D,_,rfl,.inl<|av.of ay,aF ⟨_,_,rfl,rfl,(by show(0:Int)<2;decide),aF ⟨rfl,_,rfl,?_⟩⟩⟩;generalize upd H2 D (.lst<|(c.filter λz=>ss.contains z).map V.str)=H3 at s2;rw[Aa]
  by_cases k:(c.filter λz=>ss.contains z).length%2=1
  ·rw[BW<|BX V.int<|by omega];refine bK<|bQ<|dk<|ai<|eI<|ai<|U 2<|aA ⟨Z2,λt r=>?_⟩;have s3:=aM r<|.tup [.str "odd",.ref u];have s:=(I.trans b).trans s2;exact q1 t u c _ (s.trans s3) (s.free r) (fC u<|An hu) ay (s3 _ _<|s2 _ _<|b _ _ fv) ⟨l,o,jS⟩ k
  ·rw[BR λh=>k<|by have:=V.int.inj h;omega];refine bU<|a8<|a8 ⟨_,b.trans s2,λd hd=>?_,rfl⟩;rw[vD]at hd
   obtain h|h:=Al.mp hd
   ·exact lZ d h
   ·rw[Ae.mp h];omega
 ·rintro N H2 ⟨u2,b,lZ,rfl⟩;rw[Aa,Ø,Bn]at lZ;have ec:tE n ss:=⟨l,o,lZ⟩;have Qm:=I.trans b;refine aX 3 nd (bC GC m<|ai<|U 0<|ai<|bC GB m<|ai<|U 0<|ai<|bC GO m<|ai<|U 0<|ai<|U 1<|aA ⟨R,p,as,n,ss,rfl,B.same Qm,by lia,by lia,Qm _ _ G,λO os H3 s3 n3 eO pO=>?_⟩);have s:=Qm.trans s3;refine aA ⟨R,O,as,n,os,_,rfl,B.same s,hN,j,hn,gY,eO,Zh pO,hZ j hf ec,λA ps H4 s4 eA FK=>?_⟩;have Qn:=s.trans s4;refine aA ⟨R,A,as,n,ps,rfl,B.same Qn,j,by lia,gY,eA,λM ms H5 s5 n5 eM mX mM lM=>?_⟩;have Qo:=Qn.trans s5;have Ú:=NM j (jQ mX) λz hz=>sM<|(mM z).mp hz;refine bQ (dk<|ai<|eI<|ai<|bC GM m<|ai<|U 1<|ai<|U 3<|aA ⟨p,M,ss,ms,rfl,Qo _ _ G,eM,by lia,λL rs H6 s6 n6 eL sL nL mL=>ai<|U 3<|aA ⟨Z3,λt r=>?_⟩⟩);have Zq:=Qo.trans s6;have s7:=aM r<|.tup [.str "parts",.ref L,.ref M];exact q2 t L M rs ms ps _ (Zq.trans s7) (Zq.free r) (Qo.free n6) (Qn.free n5) (λe=>by rw[e,eM]at n6;cases n6) ay (s7 _ _ eL) (s7 _ _<|s6 _ _ eM) ec (Nw sL nL) mX (Oh j FK mM mL) mM mL
end
end G8
namespace L2
open PySem PySem.Spec PyProof.Rows
end L2
namespace G8
open PySem L2 Nt bv bG
open PyProof.Rows (sortedS)
inductive mj(vs:List V)(H:Hp)(Q:VK)(_:XK):Prop
 |mk (R:Addr)(as:Ï)(n:bc)(_:vs=[.ref R])(_:aq H R as n)(_:n.length<=1000)(_:(ag n).length<=900)(_:(∀zs:Ñ,zs.Nodup->(∀z∈zs,z∈ag n)->zs.length<64))(_:∀L ss H',aj H H'->H L=none->H' L=some (Ls ss)->ss.Nodup->sortedS ss=true->(∀z,z∈ss↔z∈ag n)->Q (.ref L) H')
def Zr(h:zs.Nodup):(added zs z).Nodup:=by
 unfold added
 split
 ·exact h
 ·grind
def Zt:y∈added zs z↔y∈zs\/y=z:=by
 unfold added
 split
 ·grind
 ·rw[Al,Ae]
def Zu(h:r<n.length):ag (n.take<|r+1)=ag (n.take r)++row n r:=by
 rw[pI h];unfold ag;rw[Ck,Ab h,Di];simp
def cP:Ñ:=["NoTie","Bridge","Loop"]
structure Cl(K:aa)(mg:Ò)(c:Str->Addr):Prop where
 net:mg "NetError" = some (.ref<|c "NetError")
 x0L:XC K<|c "NetError"
 at':∀ x∈cP,mg x=some (.ref<|c x)/\XC K (c x)/\YJ K (c x) (c "NetError")=true/\YK K (c x)=true/\PySem.W.kitOne K (.ref<|c x) (.type "ValueError")=some true
 kit:∀x∈cP,∀y∈cP,PySem.W.kitOne K (.ref<|c x) (.ref<|c y)=some (decide (x=y))
def ko(K:aa)(x:Str):Addr:=match PySem.W.nsIn K mainGlobals x with
 |some (some<|.ref a)=>a
 |_=>0
def Qp(K:aa):Bool:=(PySem.W.nsIn K mainGlobals "NetError" == some (some<|.ref<|ko K "NetError")) && PySem.W.excIn K (ko K "NetError") rd "ValueError.__new__" &&
 cP.all λx=>(PySem.W.nsIn K mainGlobals x == some (some<|.ref<|ko K x)) && PySem.W.excIn K (ko K x) rd "ValueError.__new__" && YJ K (ko K x) (ko K "NetError") && YK K (ko K x) && (PySem.W.kitOne K (.ref<|ko K x) (.type "ValueError") == some true) &&
  cP.all λy=>PySem.W.kitOne K (.ref<|ko K x) (.ref<|ko K y) == some (decide (x=y))
def x5n(X:K.In h)(G:h.Ns mainGlobals mg)(q:Qp K=true):Cl K mg (ko K):=by
 unfold Qp at q;simp only[Bx,Fh,JQ]at q;obtain⟨⟨c,d⟩,b⟩:=q;exact⟨LQ X G c,d,λx a=>by obtain⟨⟨⟨⟨⟨e,f⟩,i⟩,j⟩,k⟩,_⟩:=b x a;exact⟨LQ X G e,f,i,j,k⟩,λx a y l=>(b x a).2 y l⟩
def Jd(n:bc):Prop:=∀zs:Ñ,zs.Nodup->(∀z∈zs,z∈ag n)->zs.length<64
inductive gE(c:Str->Addr)(vs:List V)(H:Hp)(Q:VK)(E:XK):Prop
 | mk (R:Addr) (as:Ï) (n:bc) (z:Str) (_:vs=[.ref R,.str z]) (_:aq H R as n) (_:n.length<=1000) (_:(ag n).length<=900) (_:Jd n) (_:(z∉ag n->∀ H',aj H H'->E (.ref<|c "NoTie") none H')) (_:(z∈ag n->∀H',aj H H'->Q .non H'))
abbrev B7:Ñ:=["rows"]
abbrev B8:Ñ:=["rows","point","ties","tie"]
def oX:ak B7 ["rows"] (aW Ho):=cg
def Qq:B8.Nodup:=by decide +kernel
theorem jF(F:bA K "ties_of" "ties_of" Ho f fd)(T:Txt mg):aG P w K mg base bF 1 f fd ["rows"] mj:=by
 refine F.gc oX λb0 H vs Q E hr h=>?_;obtain⟨R,as,n,rfl,v,hn,ht,bT,q⟩:=h;have bI:=v.len;have vP:∀r,r<n.length->∀z,z∈ag (n.take r)\/z∈row n r->z∈ag n:=λr pN z J=>by
  have e:ag n=ag (n.take<|r+1)++ag (n.drop<|r+1):=by
   unfold ag;rw[<-Di,Da]
  rw[e,Zu pN]
  obtain h|h:=J<;>simp[h]
 refine bQ<|cL (Vq rfl) T.sorted EY<|ai<|q1y (aW Ho) B7 B8 3 (gJ bB)<|U 0 ⟨R,rfl,⟨_,av.of v.lst⟩,λD hD cl c Ö Ø ex=>?_⟩;refine zT (xs:=as.map λa=>V.ref a.1) (λr d j=>(∃v1 v2 k,d=[some<|.ref R]++[v1,v2,k])/\∃zs:Ñ,aj H j/\j D=some (bu P w D zs)/\zs.Nodup/\∀z,z∈zs↔z∈ag (n.take r)) ⟨⟨none,none,none,rfl⟩,[],aM hD _,ay,Co,λz=>VG⟩ ?_ ?_ ?_
 ·rintro r d j _ ⟨_,zs,i,_⟩;exact av.of<|i _ _ v.lst
 ·rintro r x d j m ⟨⟨v1,v2,k,rfl⟩,zs,i,A,B,s⟩;have L:r<n.length:=by
   have:=(Ad.mp m).1;rw[Aa]at this;omega
  obtain⟨a,ea,cZ,et,M,er⟩:=(v.same i).at L;rw[Aj,ea]at m;cases m;refine iA rfl (aU.of et) (a9 1 Qq<|a9 2 Qq ?_);apply j5;rw[BL rfl];refine Ve rfl rfl (gJ bB) (U 2 ⟨a.2,rfl,⟨_,av.of M⟩,?_⟩);have Qr:=cm M A λz=>nomatch z;refine zT (xs:=(row n r).map V.str) (λp d t=>(∃k,d=[some<|.ref R]++[some<|.str n[r].1,some<|.ref a.2,k])/\∃zs:Ñ,(∀b o,b≠D->j b=some o->t b=some o)/\t D=some (bu P w D zs)/\zs.Nodup/\∀z,z∈zs↔z∈ag (n.take r)\/z∈(row n r).take p)
   ⟨⟨_,rfl⟩,zs,λb o _ h=>h,A,B,λz=>by rw[s z];simp⟩ ?_ ?_ ?_
  ·rintro p d t _ ⟨_,zs,u,_⟩;exact av.of<|u _ _ Qr M
  ·rintro p x d t m ⟨⟨k,rfl⟩,zs,u,N,G,I⟩;rw[Aj,Ba]at m;obtain⟨z,J,rfl⟩:=m;refine a9 3 Qq<|j5 ?_;rw[BL rfl];have O:=bT zs G λy Y=>vP r L y<|((I y).mp Y).imp id λh=>List.mem_of_mem_take h;refine gA (U 3 ⟨z,zs,rfl,N,by omega,⟨_,rfl⟩,added zs z,λb o hb h=>by rw[ax hb];exact u b o hb h,ay,Zr G,λy=>?_⟩);rw[Zt,I y,Ck,J,or_assoc];simp
  ·rintro d t ⟨⟨k,rfl⟩,zs,u,N,G,I⟩;refine⟨⟨_,_,_,rfl⟩,zs,λb o h=>u b o (bz h hD)<|i _ _ h,N,G,λz=>?_⟩;rw[I z,Aa,Bn,Zu L,Al]
 ·rintro d j ⟨_,zs,i,A,B,s⟩;rw[Aa,bI,Bn]at s;refine aA ⟨D,zs,rfl,A,bT zs B λy Y=>(s y).mp Y,λl ss O hp hs=>?_⟩;exact q l ss _ (i.trans<|aM O _) (fI i O) ay (hp.nodup_iff.mpr B) hs λz=>by rw[hp.mem_iff,s z]
abbrev nK:Ñ:=["rows","tie"]
def oY:ak nK ["rows","tie"] (aW MV):=cg
def WE(F:bA K "need_tie" "need_tie" MV f j)(T:Txt mg)(d:Cl K mg c)(GT:aT P w K mg base 1 "ties_of" ["rows"] mj):aG P w K mg base (XF P w) 2 f j ["rows","tie"] (gE c):=by
 refine F.gx oY (λl H Q E h=>?_) λv H l Q m h=>?_
 ·obtain⟨R,as,n,z,rfl,_⟩:=h;rfl
 obtain⟨R,as,n,z,rfl,o,p,q,r,s,t⟩:=h;have e:("NoTie" : Str)∈cP:=by decide
 refine fk<|cA T7<|U 1<|bC GT m<|ai<|U 0<|aA ⟨R,as,n,rfl,o,p,q,r,λL ss x i y u snd A a=>⟨L,_,rfl,.inl<|av.of u,rfl,qI _,_,rfl,?_⟩⟩;rw[BL rfl,si,xB]
 by_cases b:z∈ag n
 ·rw[BW<|(a z).mpr b];exact bU<|a8<|a8<|t b _ i
 ·rw[BR λk=>b<|(a z).mp k];refine bK<|Pz PQ (d.at' _ e).1 (d.at' _ e).2.1 rfl (ai<|eI<|aA ⟨Z1,s b _ i⟩)
end G8
namespace Nt
open PySem L2 Classical
abbrev less(T:Ñ)(t:Str):Ñ:=T.filter λz=>!decide (z=t)
def bx:z∈less T t↔z∈T/\z≠t:=by
 rw[Ao,KY,HJ]
def rm(n:bc)(z:Str)(w:Str)(ss:Ñ):Prop:=cz ss/\(∀y∈ss,y∈ag n)/\z∈ss /\
  ((w = "double" ∧ gg n ss=true ∧ (∃a, bt n ss a) ∧ ∃b, cM n b ∧ ss ∈ b) ∨
   (w = "cut"/\(∃a,bt n ss a)/\gg n (less ss z)=true/\tE n [z]) \/
   (w = "round"/\gg n ss=true/\(∃a,bt n (less ss z) a)/\tE n [z]))
def rj(T:ao n)(k:HF n)(l:(cF n).Nodup)(o:0<n.length)(a:cM n p)(d:c∈p):cz c/\(∀z∈c,z∈ag n)/\gg n c=true/\∃q,bt n c q:=by
 obtain⟨i,f⟩:=Bp d;have h:=(Ad.mp f).1;rw[a.len]at h;have j:=Ab h;have b:=An j;have m:=a.mem i _ _ f j;exact⟨a.qR c d,IM (sv T (ends n) [] (λe r=>r) _ b).ends m,vl T b m,yO T k l o b m⟩
def Zv{c:Ñ}(h:c.Nodup)(z:Str):(c.filter λy=>[z].contains y).length=if z∈c then 1 else 0:=by
 have e:(c.filter λy=>[z].contains y)=c.filter λy=>y == z:=by grind
 rw[e,<-List.count_eq_length_filter]
 by_cases k:z∈c
 ·grind
 ·rw[C k];exact Ey k
def q9b(T:ao n)(f:HF n)(i:(cF n).Nodup)(j:0<n.length)(a:cM n b)(d:c∈b)(h:(c.filter λy=>[z].contains y).length%2=1):rm n z "double" c:=by
 obtain⟨e,l,m,o⟩:=rj T f i j a d;rw[Zv<|jQ e]at h;refine⟨e,l,?_,.inl ⟨rfl,m,o,b,a,d⟩⟩
 by_cases k:z∈c
 ·exact k
 ·rw[C k]at h;cases h
def Je(h:cz ss)(z:Str):cz (less ss z):=h.sublist Hj
def G1(c:cz a)(d:cz b)(e:i5 [z] a b)(h:z∈a):less a z=b:=by
 refine Nx (Je c z) d λy=>?_;rw[bx,e y]
 by_cases k:y=z
 ·grind
 ·grind
def uD(d:cz a)(e:cz b)(c:i5 [z] a b)(h:z∉a):z∈b/\less b z=a:=by
 refine⟨((c z).mpr (by rwa[BL<|Ae.mpr rfl])),Nx (Je e z) d λy=>?_⟩;rw[bx,c y]
 by_cases k:y=z
 ·grind
 ·grind
def q7x(T:ao n)(e:0<n.length)(f:tE n [z])(i:cz c)(b:cz a)(l:gg n c=true)(d:∀y,y∈a↔gj n ps y)(j:i5 [z] a c)(h:z∈a):rm n z "cut" a:=
 ⟨b,λy k=>sM<|(d y).mp k,h,.inr<|.inl ⟨rfl,NU T e ⟨b,ps,d⟩,by rwa[G1 b i j h],f⟩⟩
def k8p(T:ao n)(i:0<n.length)(q:z∈ag n)(j:tE n [z])(c:cz a)(d:cz b)(l:gg n a=true)(e:∀y,y∈b↔gj n ps y)(f:i5 [z] b a)(h:z∉b):rm n z "round" a:=by
 obtain⟨m,o⟩:=uD d c f h;refine⟨c,λy p=>?_,m,.inr<|.inr ⟨rfl,l,by rw[o];exact NU T i ⟨d,ps,e⟩,j⟩⟩;have:=(f y).mp p
 by_cases k:y∈[z]
 ·rwa[Ae.mp k]
 ·rw[C k]at this;exact sM<|(e y).mp this
end Nt
namespace G8
open PySem L2 Nt bv bG
open PyProof.Rows (sortedS)
open Classical
inductive kq(c:Str->Addr)(vs:List V)(H:Hp)(Q:VK)(E:XK):Prop
 | mk (R:Addr) (as:Ï) (n:bc) (z:Str) (_:vs=[.ref R,.str z]) (_:aq H R as n) (_:(cF n).Nodup) (_:ao n) (_:HF n) (_:0 < n.length) (_:n.length<=31) (_:(ag n).length<=60) (_:(z∉ag n->∀ H',aj H H'->E (.ref<|c "NoTie") none H')) (_:(z∈ag n->∀t L w ss H',aj H H'->H t=none->H L=none->H' t=some (.tup [.str w,.ref L])->H' L=some (Ls ss)->rm n z w ss->Q (.ref t) H'))
abbrev P1:Ñ:=["rows","tie","told"]
def B9:ak P1 ["rows","tie"] (aW M4):=cg
theorem ua(F:bA K "kind_of" "kind_of" M4 f fd)(T:Txt mg)(cl:Cl K mg c)(GN:cV P w K mg base 7 "need_tie" ["rows","tie"]<|gE c)(GP:aT P w K mg base 7 "parted" ["rows","some"] gC):
  aG P w K mg base (XF P w) 8 f fd ["rows","tie"] (kq c):=by
 refine F.gx B9 (λvs H Q E h=>?_) λb0 H vs Q D h=>?_
 ·obtain⟨R,as,n,z,rfl,_⟩:=h;rfl
 obtain⟨R,as,n,z,rfl,G,I,m,J,o,hn,gY,qE,p⟩:=h;have q:Jd n:=λzs h1 h2=>by have:=aK h1 h2;omega
 refine ik (xr GN D PH<|ai<|U 0<|ai<|U 1<|aA ⟨R,as,n,z,rfl,G,by omega,by omega,q,λj=>qE j,λj N s1=>?_⟩);refine aX 2 B9.nd<|bC GP D<|ai<|U 0<|ai<|eQ<|ai<|U 1<|aA ⟨Z1,λA hA=>?_⟩;have O:=aM hA<|.lst [.str z];have Y:(upd N A<|.lst [.str z]) A=some (Ls [z]):=ay;generalize upd N A (.lst [.str z])=H2 at O Y;have l:=s1.trans O;refine aA ⟨R,A,as,n,[z],rfl,G.same l,I,m,J,hn,gY,Y,Bb.mpr ⟨Cs,Co⟩,λy hy=>by rwa[Ae.mp hy],λt L c H3 r nt s e v⟨B,a,hc⟩wM=>?_,λt L M rs B ps H3 r nt s nM Ö e v eM ec vQ mX lZ gZ hx=>?_⟩
 ·refine fk<|cA fQ<|bn cw<|U 2<|aF ⟨t,_,_,.str "odd",rfl,rfl,aU.of e,rfl,eI ⟨rfl,_,rfl,?_⟩⟩;rw[BW rfl];refine bK<|bQ<|dk<|ai<|eI<|ai<|bn cw<|U 2<|aF ⟨t,_,_,.ref L,rfl,rfl,aU.of e,rfl,aA ⟨Z2,λu b=>?_⟩⟩;have d:=aM b<|.tup [.str "double",.ref L];have i:=l.trans r;exact p j u L "double" c _ (i.trans d) (i.free b) (l.free s) ay (d _ _ v)<|q9b m J I o a hc wM
 ·refine fk<|cA fQ<|bn cw<|U 2<|aF ⟨t,_,_,.str "parts",rfl,rfl,aU.of e,rfl,eI ⟨rfl,_,rfl,?_⟩⟩;rw[BR<|by decide];refine bU<|a8<|bQ<|Uy<|cA t8<|U 1<|bn cw<|U 2<|aF ⟨t,_,_,.ref M,rfl,rfl,aU.of e,rfl,M,_,rfl,.inl<|av.of eM,rfl,qI _,_,rfl,?_⟩;have fF:∀(x y:Bool),(if false=true then x else y)=y:=λ_ _=>rfl;rw[fF,si,xB];have i:=l.trans r
  by_cases k:z∈B
  ·rw[BW k];refine bK<|dk<|ai<|eI<|ai<|bn cw<|U 2<|aF ⟨t,_,_,.ref M,rfl,rfl,aU.of e,rfl,aA ⟨Z2,λu b=>?_⟩⟩;have d:=aM b<|.tup [.str "cut",.ref M];exact p j u M "cut" B _ (i.trans d) (i.free b) (l.free nM) ay (d _ _ eM)<|q7x m o ec vQ mX lZ gZ hx k
  ·rw[BR k];refine bU<|dk<|ai<|eI<|ai<|bn cw<|U 2<|aF ⟨t,_,_,.ref L,rfl,rfl,aU.of e,rfl,aA ⟨Z2,λu b=>?_⟩⟩;have d:=aM b<|.tup [.str "round",.ref L];exact p j u L "round" rs _ (i.trans d) (i.free b) (l.free s) ay (d _ _ v)<|k8p m o j ec vQ mX lZ gZ hx k
end G8
namespace G8
open PySem L2 Nt bv
abbrev Zw(x:Bl):HO:= .tup [.str x.1,.str x.2.1,.bl x.2.2]
def rq(H:Hp)(us:List Addr)(a:List Bl):Prop:=us.length=a.length/\∀(j:Nat)u x,us[j]?=some u->a[j]?=some x->H u=some (Zw x)
def rq.same(h:rq H us a)(s:aj H H'):rq H' us a:=⟨h.1,λj u x b c=>s _ _<|h.2 j u x b c⟩
inductive gF(vs:List V)(H:Hp)(Q:VK)(_:XK):Prop
 |mk (f:Str)(L:Addr)(us:List Addr)(ls:List Bl)(_:vs=[.str f,.ref L])(_:H L=some (.lst<|us.map V.ref))(_:rq H us ls)(_:ls.length<=60)(_:∀d kvs H',aj H H'->H d=none->H' d=some (.dK kvs)->eS ls f none kvs []->Q (.ref d) H')
abbrev AU:Ñ:=["first","links","odds","waiting","here","one","other","odd","start","goal"]
def CA:ak AU ["first","links"] (aW MY):=cg
def LA(a:Ñ)(h:Str):(((a++[h]).map V.str)[((a++[h]).map V.str).length-1]?=some (.str h))/\((a++[h]).map V.str).dropLast=a.map V.str:=by
 rw[Ai]
 constructor
 ·simp
 ·grind
theorem kw(F:bA K "spread" "spread" MY f fd)(T:Txt mg):aG P w K mg base bF 1 f fd ["first","links"] gF:=by
 refine F.gc CA λb0 H vs Q E hr h=>?_;obtain⟨G,L,us,D,rfl,hL,gW,Ú,q⟩:=h;have nd:=CA.nd;have hu:=hr.u1;have vC:=gW.1;refine aX 2 nd<|Yk hu λd hd=>U 0<|uh ⟨_,bO.k (k:=Sum.inr G) ay<|bR<|By _,?_⟩;rw[pY];refine aX 3 nd<|eQ<|ai<|U 0<|aA ⟨Z1,λM hM=>?_⟩;have jT:M≠d:=λe=>by rw[e,ay]at hM;cases hM
 have AJ:H M=none:=by rwa[ax jT]at hM
 have s0:aj H (upd (upd H d<|.dK<|putK [] (Sum.inr G)<|.bl false) M<|.lst [.str G]):=(aM hd _).trans<|aM hM _;have tj:(upd (upd H d<|.dK<|putK [] (Sum.inr G)<|.bl false) M<|.lst [.str G]) d=some (.dK<|putK [] (Sum.inr G)<|.bl false):=by rw[ax<|CG jT,ay]
 have tu:(upd (upd H d<|.dK<|putK [] (Sum.inr G)<|.bl false) M<|.lst [.str G]) M=some (Ls [G]):=ay;generalize upd (upd H d<|.dK<|putK [] (Sum.inr G)<|.bl false) M (.lst [.str G])=H0 at s0 tj tu;refine uC (λm Y J=>m<=1000/\E8 λkvs p u4 u5 u6 u7 u8 u9=>A6 (aj H J) (J d=some (.dK kvs)) (J M=some (Ls p)) (eS D G none kvs p) (m=2*(1+2*D.length-kvs.length)+p.length)<|Y=[some<|.str G,some<|.ref L,some<|.ref d,some<|.ref M,u4,u5,u6,u7,u8,u9]) (m0:=2*(1+2*D.length-1)+1)
  ⟨by omega,_,[G],_,_,_,_,_,_,s0,tj,tu,eS.start D G,rfl,rfl⟩ ?_
 rintro m Y H1 ⟨hm,kvs,p,u4,u5,u6,u7,u8,u9,s1,Ö,Qs,I,em,rfl⟩;refine UB<|U 3 (v:= .ref M) ⟨!p.isEmpty,Or.inl ⟨p.map V.str,av.of Qs,by cases p<;>rfl⟩,?_⟩
 obtain e|⟨pW,r,e⟩:=VL p
 ·subst e;rw[C<|by decide];exact bQ<|U 2<|q d kvs H1 s1 hd Ö I
 rw[VN]at e;subst e;rw[BL<|by cases pW<;>rfl];obtain⟨hy,gK⟩:=LA pW r;refine aX 4 nd<|Vt DG MP NK Uc<|U 3 (v:= .ref M) ⟨Or.inl ⟨rfl,_,av.of Qs⟩,M,_,.str r,rfl,rfl,Qs,hy,?_⟩;rw[gK];have I1:=I.pop;have lw:(pW++[r]).length=pW.length+1:=by rw[Ah];rfl
 rw[lw]at em;have Zx:∀{J:Hp},aj H J->J L=some (.lst<|us.map V.ref):=λs=>s _ _ hL;have s2:aj H (upd H1 M<|Ls pW):=dR s1 AJ;have mr:(upd H1 M<|Ls pW) d=some (.dK kvs):=by rwa[ax<|CG jT]
 have pX:(upd H1 M<|Ls pW) M=some (Ls pW):=ay;generalize upd H1 M (Ls pW)=H2 at s2 mr pX;refine jH<|U 1 ⟨L,rfl,⟨_,av.of<|Zx s2⟩,jI (xs:=us.map V.ref) (λj Y J=>E7 λ(kvs:List<|Key×V)(p:Ñ)(u5 u6 u7 u8 u9:Option V)=>A7 (aj H J) (J d=some (.dK kvs)) (J M=some (Ls p)) (eS D G (some r) kvs p) (2*(1+2*D.length-kvs.length)+p.length<m) (∀l∈D.take j,(l.1=r->has kvs l.2.1)/\(l.2.1=r->has kvs l.1))<|Y=[some<|.str G,some<|.ref L,some<|.ref d,some<|.ref M,some<|.str r,u5,u6,u7,u8,u9])
  ⟨kvs,pW,_,_,_,_,_,s2,mr,pX,I1,by omega,λl hl=>by simp at hl,rfl⟩ ?_ ?_ ?_⟩
 ·rintro j Y J _ ⟨_,_,_,_,_,_,_,sm,_⟩;exact av.of<|Zx sm
 ·rintro j x Y H3 hx ⟨kvs,p,u5,u6,u7,u8,u9,s3,ed,eM,I,aZ,cD,rfl⟩;rw[Aj,Ba]at hx;obtain⟨u,fv,rfl⟩:=hx;have hj:j<D.length:=by
   have:=(Ad.mp fv).1;omega
  have Zy:D[j]?=some D[j]:=Ab hj;have pT:=(gW.same s3).2 j u _ fv Zy;have gu:D[j]∈D:=Bq hj;have Zz:∀l∈D.take (j+1),l∈D.take j\/l=D[j]:=λl hl=>by
   rw[Ck,Zy]at hl
   obtain q|q:=Al.mp hl
   ·exact .inl q
   ·exact .inr<|by simpa using q
  generalize D[j]=lx at pT gu Zz;obtain⟨A,B,od⟩:=lx;refine O7 rfl (aU.of pT) (a9 5 nd<|a9 6 nd<|a9 7 nd ?_);refine Sc<|dk<|ai<|dk<|ai<|U 5<|ai<|U 6<|aA ⟨Z2,λO N8=>?_⟩;refine ai<|dk<|ai<|U 6<|ai<|U 5<|aA ⟨Z2,λt2 fq=>aA ⟨Z2,λtt Ø=>?_⟩⟩;have n1:=aM N8<|.tup [.str A,.str B];have n2:=aM fq<|.tup [.str B,.str A];have n3:=aM Ø<|.tup [.ref O,.ref t2];have e1:=n3 _ _<|n2 _ _<|ay (H:=H3) (a:=O) (o:= .tup [.str A,.str B]);have e2:=n3 _ _<|ay (H:=upd H3 O<|.tup [.str A,.str B]) (a:=t2) (o:= .tup [.str B,.str A]);have e3:=ay (H:=upd (upd H3 O<|.tup [.str A,.str B]) t2<|.tup [.str B,.str A]) (a:=tt) (o:= .tup [.ref O,.ref t2]);have n:=n1.trans<|n2.trans n3;refine⟨tt,rfl,⟨_,aU.of e3⟩,?_⟩;generalize upd (upd (upd H3 O<|.tup [.str A,.str B]) t2<|.tup [.str B,.str A]) tt (.tup [.ref O,.ref t2])=H4 at e1 e2 e3 n;refine q22 (xs:=[.ref O,.ref t2]) (λi Y J=>E4 λ(kvs:List<|Key×V)(p:Ñ)(u8 u9:Option V)=>UQ (aj H J) (J d=some (.dK kvs)) (J M=some (Ls p)) (J O=some (.tup [.str A,.str B])) (J t2=some (.tup [.str B,.str A])) (J tt=some (.tup [.ref O,.ref t2])) (eS D G (some r) kvs p) (2*(1+2*D.length-kvs.length)+p.length<m) (∀l∈D.take j,(l.1=r->has kvs l.2.1)/\(l.2.1=r->has kvs l.1)) (0<i->A=r->has kvs B) (1<i->B=r->has kvs A)<|Y=[some<|.str G,some<|.ref L,some<|.ref d,some<|.ref M,some<|.str r,some<|.str A,some<|.str B,some<|.bl od,u8,u9])
   ⟨kvs,p,_,_,s3.trans n,n _ _ ed,n _ _ eM,e1,e2,e3,I,aZ,cD,λh=>absurd h (by decide),λh=>absurd h (by decide),rfl⟩ ?_ ?_ ?_
  ·rintro i Y J _ ⟨_,_,_,_,_,_,_,_,_,e,_⟩;exact aU.of e
  ·rintro i x Y H5 hx ⟨kvs,p,u8,u9,s5,ed,eM,e1,e2,e3,I,aZ,cD,d1,d2,rfl⟩;obtain⟨st,N,t,rfl,et,Qt,eU⟩:∃st N t,x=.ref t/\H5 t=some (.tup [.str st,.str N])/\uX D st N od/\∀mv,(∀y,has kvs y->has mv y)->(st=r->has mv N)->(0<i+1->A=r->has mv B)/\(1<i+1->B=r->has mv A):=by
    match i with
    |0=>
     cases hx;exact⟨A,B,O,rfl,e1,.inl gu,λmv mo h=>⟨λ_=>h,λh=>absurd h<|by decide⟩⟩
    |1=>
     cases hx;exact⟨B,A,t2,rfl,e2,.inr gu,λmv mo h=>⟨λ_ e=>mo _ (d1 (by decide) e),λ_=>h⟩⟩
    |i+2=>simp at hx
   refine iA rfl (aU.of et) (a9 8 nd<|a9 9 nd ?_);have skip:(st=r->has kvs N)->E4 λ(kvs:List<|Key×V)(p:Ñ)(u8 u9:Option V)=>UQ (aj H H5) (H5 d=some (.dK kvs)) (H5 M=some (Ls p)) (H5 O=some (.tup [.str A,.str B])) (H5 t2=some (.tup [.str B,.str A])) (H5 tt=some (.tup [.ref O,.ref t2])) (eS D G (some r) kvs p) (2*(1+2*D.length-kvs.length)+p.length<m) (∀l∈D.take j,(l.1=r->has kvs l.2.1)/\(l.2.1=r->has kvs l.1)) (0<i+1->A=r->has kvs B) (1<i+1->B=r->has kvs A) ([some<|V.str G,some<|.ref L,some<|.ref d,some<|.ref M,some<|.str r,some<|.str A,some<|.str B,some<|.bl od,some<|.str st,some<|.str N]=[some<|.str G,some<|.ref L,some<|.ref d,some<|.ref M,some<|.str r,some<|.str A,some<|.str B,some<|.bl od,u8,u9]):=λh=>
    ⟨kvs,p,_,_,s5,ed,eM,e1,e2,e3,I,aZ,cD,(eU kvs (λ_ h=>h) h).1,(eU kvs (λ_ h=>h) h).2,rfl⟩
   refine fk<|wy<|Lg<|cA fQ<|U 8<|U 4 ⟨rfl,_,rfl,?_⟩
   by_cases cU:st=r
   ·rw[BL<|BW<|by rw[cU]];refine Li<|wJ hu<|U 9<|U 2 ⟨d,_,rfl,bf.k (k:=Sum.inr N) ed,?_⟩;cases hg:az kvs (Sum.inr N) with
    |some v=>
     show if false=true then _ else _;rw[C<|by decide];exact a8<|a8<|skip λ_=>⟨v,hg⟩
    |none=>
     show if true=true then _ else _;rw[BL rfl];have Ù:has kvs r:=by
      obtain q:=I.hrk
      exact q
     obtain⟨v,hv⟩:=Ù;obtain⟨b,rfl,_⟩:=I.val r v hv;subst cU;have I':=I.add (o:=od) hg hv Qt;have lk:=I.len;have Qu:=I'.len;have qJ:(putK kvs (Sum.inr N)<|.bl<|b != od).length=kvs.length+1:=by
      have zh:=I.oz hg;have:=BX List.length<|sK kvs (Sum.inr N)<|.bl<|b != od;rwa[C zh,Ah,Aa,Aa]at this
     refine qF hu (qp tX<|i0 hu<|U 2<|U 4 ⟨d,.bl b,rfl,by rw[<-hv];exact bf.k (k:=Sum.inr st) ed,U 7 ⟨rfl,?_⟩⟩);rw[ED];refine U 2 (U 9 ⟨d,_,rfl,bO.k (k:=Sum.inr N) ed (bR<|by omega),?_⟩);have CB:(upd H5 d<|.dK<|putK kvs (Sum.inr N)<|.bl<|b != od) M=some (Ls p):=by rwa[ax jT]
     refine ik (mH<|U 3 ⟨M,rfl,⟨_,CB⟩,U 9 ⟨_,CB,by rw[Aa];exact bR (by omega),?_⟩⟩);have kT:∀c xs,H5 c=some (.tup xs)->(upd (upd H5 d<|.dK<|putK kvs (Sum.inr N)<|.bl<|b != od) M<|.lst<|p.map V.str++[.str N]) c=some (.tup xs):=λc xs h=>by
      rwa[ax (cm h eM λz=>nomatch z),ax<|cm h ed λz=>nomatch z]
     have mo:∀y,has kvs y->has (putK kvs (Sum.inr N)<|.bl<|b != od) y:=λy h=>zg h;have hn:=eU _ mo (λ_=>⟨.bl<|b != od,by rw[cR,BL rfl]⟩);refine a8<|a8 ⟨_,p++[N],_,_,dR (dR s5 hd) AJ,?_,?_,kT _ _ e1,kT _ _ e2,kT _ _ e3,I',?_,λl hl=>⟨λe=>mo _<|(cD l hl).1 e,λe=>mo _<|(cD l hl).2 e⟩,hn.1,hn.2,rfl⟩
     ·rw[ax<|CG jT];exact ay
     ·rw[ay];show some (HO.lst<|p.map V.str++[.str N])=some (HO.lst<|(p++[N]).map V.str);rw[Ai];rfl
     ·rw[qJ,Ah];rw[qJ]at Qu;show _+(p.length+1)<m;omega
   ·rw[C λh=>cU<|V.str.inj<|BZ h];show if false=true then _ else _;rw[C<|by decide];exact a8<|a8<|skip λh=>absurd h cU
  ·rintro Y H5 ⟨kvs,p,u8,u9,s5,ed,eM,_,_,_,I,aZ,cD,d1,d2,rfl⟩;refine a8 ⟨kvs,p,_,_,_,_,_,s5,ed,eM,I,aZ,λl hl=>?_,rfl⟩
   obtain q|q:=Zz l hl
   ·exact cD l q
   ·subst q;exact⟨d1 (by show 0<2;decide),d2<|by show 1<2;decide⟩
 ·rintro Y H3 ⟨kvs,p,u5,u6,u7,u8,u9,s3,ed,eM,I,aZ,cD,rfl⟩;rw[Aa,vC,Bn]at cD;refine a8 ⟨_,aZ,by lia,kvs,p,_,_,_,_,_,_,s3,ed,eM,I.close λy o ht=>?_,rfl,rfl⟩
  obtain h|h:=ht
  ·exact(cD _ h).1 rfl
  ·exact(cD _ h).2 rfl
end G8
namespace Nt
open PySem L2
def cX(n:bc)(z:Str)(k:Nat):List Nat:=(range k).filter λr=>decide (z∈row n r)
abbrev d8(n:bc)(z:Str):List Nat:=cX n z n.length
def Qv:cX n z (k+1)=cX n z k++(if z∈row n k then [k]else []):=by
 unfold cX;rw[Cu,Cf]
 congr 1
 by_cases h:z∈row n k
 ·grind
 ·grind
def bX:r∈cX n z k↔r<k/\z∈row n r:=by
 unfold cX;rw[Ao,Bg,CN]
def qb:(cX n z k).Nodup:=List.Pairwise.filter _ Fi
def lv(h:r<n.length):row n r=n[r].2:=by unfold row;rw[Ab h];rfl
def CD(h:r<n.length):ag (n.take<|r+1)=ag (n.take r)++row n r:=by
 rw[lv h];unfold ag;rw[Ck,Ab h,Di];simp
def Qw:ag n=ag (n.take k)++ag (n.drop k):=by
 unfold ag;rw[<-Di,Da]
def CF(h:r<n.length)(q:z∈row n r):z∈ag n:=by
 rw[Qw,CD h];simp[q]
def tF(h:r<n.length):(row n r).length<=(ag n).length:=by
 rw[Qw,CD h];simp only[Ah];lia
def xD(q:z∈ag n):∃r,r<n.length/\z∈row n r:=by
 unfold ag at q;obtain⟨x,b,c⟩:=Dd.mp q;obtain⟨r,a,e⟩:=Bv.mp b;exact⟨r,a,by rwa[lv a,e]⟩
section
variable{n:bc}{z:Str}
theorem ZA:∀{k},k<=n.length->(cX n z k).length<=(ag<|n.take k).count z
 |0,_=>By _
 |k+1,h=>by
  have a:=ZA (k:=k) (by lia);rw[Qv,CD (by lia),Ah,Dw]
  by_cases c:z∈row n k
  ·grind
  ·grind
end
theorem Jf(T:ao n)(f:z∈ag n):(∃r,d8 n z=[r])\/∃r0 r1,d8 n z=[r0,r1]:=by
 have d:(cX n z n.length).length<=_:=ZA<|Aq n.length;rw[Bn,T z f]at d;obtain⟨r,i,q⟩:=xD f;have e:r∈d8 n z:=bX.mpr ⟨i,q⟩
 match h:d8 n z,d,e with
 |[],_,e=>exact nomatch e
 |[a],_,_=>exact .inl ⟨a,rfl⟩
 |[a,b],_,_=>exact .inr ⟨a,b,rfl⟩
 |a :: b :: c :: l,d,_=>rw[show cX n z n.length=_ from h]at d;simp only[Au]at d;lia
structure mY(n:bc)(z:Str)(r0 r1:Nat):Prop where
 ne:r0≠r1
 l0:r0<n.length
 l1:r1<n.length
 m0:z∈row n r0
 m1:z∈row n r1
 only:∀r,r<n.length->z∈row n r->r=r0\/r=r1
def xE(h:d8 n z=[r0,r1]):mY n z r0 r1:=by
 have nd:(d8 n z).Nodup:=qb;have c:r0∈d8 n z:=by rw[h];simp
 have d:r1∈d8 n z:=by rw[h];simp
 have a:=bX.mp c;have b:=bX.mp d;refine⟨λe=>?_,a.1,b.1,a.2,b.2,λr f q=>?_⟩
 ·grind
 ·have:r∈d8 n z:=bX.mpr ⟨f,q⟩;rw[h]at this
  simpa using this
def aN:Ñ->Str->Nat
 |[],_=>0
 |y :: a,z=>if y=z then 0 else aN a z+1
section
variable{z:Str}
theorem Qx:∀{zs},z∈zs->zs[aN zs z]?=some z/\z∉zs.take (aN zs z)
 |[],h=>nomatch h
 |y :: c,h=>by
  unfold aN
  by_cases e:y=z
  ·grind
  ·rw[C e];obtain⟨a,b⟩:=Qx (by
    obtain q|q:=Ak.mp h
    ·exact absurd q.symm e
    ·exact q)
   refine⟨a,λq=>?_⟩;rw[List.take_succ_cons]at q
   obtain q|q:=Ak.mp q
   ·exact e q.symm
   ·exact b q
end
def i6(a b:Ñ)(z:Str):Ñ:=a.take (aN a z)++(b.drop (aN b z+1)++b.take (aN b z))++a.drop (aN a z+1)
def iM(n:bc)(z:Str)(r0 r1 r:Nat):Str×List Str:=(aB n r,if r=r0 then i6 (row n r0) (row n r1) z else row n r)
def iN(n:bc)(z:Str)(r0 r1 k:Nat):bc:=((range k).filter λr=>decide (r≠r1)).map<|iM n z r0 r1
abbrev shr(n:bc)(z:Str)(r0 r1:Nat):bc:=iN n z r0 r1 n.length
def ZC:iN n z r0 r1 (k+1)=iN n z r0 r1 k++(if k=r1 then []else [iM n z r0 r1 k]):=by
 unfold iN;rw[Cu,Cf,Ai]
 congr 1
 by_cases h:k=r1
 ·grind
 ·grind
def Qy:(iN n z r0 r1 k).length<=k:=by
 unfold iN;rw[Aa];exact Cd (Db ..)<|Cw▸(Aq _)
abbrev AE:=Str ⊕ bc
def iO(n:bc)(z:Str):AE:=match d8 n z with
 |[]=> .inl "NoTie"
 |[_]=> .inl "Loop"
 |a :: b :: _=> .inr<|shr n z a b
def x0f(h:z∉ag n):iO n z=.inl "NoTie":=by
 have:d8 n z=[]:=List.eq_nil_iff_forall_not_mem.mpr λr q=>h<|CF (bX.mp q).1 (bX.mp q).2;unfold iO;rw[this]
def xO(h:d8 n z=[r]):iO n z=.inl "Loop":=by
 unfold iO;rw[h]
def ZD(h:d8 n z=[r0,r1]):iO n z=.inr (shr n z r0 r1):=by
 unfold iO;rw[h]
structure jW(H0 H:Hp)(D:Addr)(bs:Ï)(m:bc):Prop where
 rows:aq H D bs m
 new:∀a∈bs,H0 a.1=none/\H0 a.2=none
 nD:∀a∈bs,a.1≠D/\a.2≠D
def jW.same(b:jW a H D bs m)(s:aj H H'):jW a H' D bs m:=⟨b.rows.same s,b.new,b.nD⟩
def jW.nil(h:H D=some (.lst [])):jW b H D [] []:=⟨⟨rfl,h,λi a r h=>(by simp at h),Co⟩,λa h=>(by simp at h),λa h=>(by simp at h)⟩
def jW.iP(b:jW f H D bs m)(h:a∈bs):H a.1≠none/\H a.2≠none:=by
 obtain⟨i,c⟩:=Bp h;have j:=(Ad.mp c).1;have:=b.rows.len;obtain⟨d,e⟩:=b.rows.tup i a _ c (Ab<|by lia);exact⟨by rw[d];simp,by rw[e];simp⟩
def jW.add(b:jW j H D bs m)(n:H l=some (Ls zs))(u:j l=none)(v:l∉bs.map (·.2))(nl:l≠D)(f:H t=none)(w:j t=none):
  jW j (upd (upd H t<|.tup [.str p,.ref l]) D<|.lst<|(bs.map λa=>V.ref a.1)++[.ref t]) D (bs++[(t,l)]) (m++[(p,zs)]):=by
 have q:t≠D:=λe=>by rw[e,b.rows.lst]at f;cases f
 have G:t≠l:=λe=>by rw[e,n]at f;cases f
 have len:=b.rows.len;have keep:∀x o,x≠D->H x=some o->(upd (upd H t<|.tup [.str p,.ref l]) D<|.lst<|(bs.map λa=>V.ref a.1)++[.ref t]) x=some o:=λx o c d=>by
  rwa[ax c,ax<|bz d f]
 refine⟨⟨by rw[Ah,Ah,len];rfl,by rw[ay,Ai];rfl,λi a r c d=>?_,?_⟩,λa k=>?_,λa k=>?_⟩
 ·by_cases z:i<bs.length
  ·rw[Aw z]at c;rw[Aw<|by lia]at d;have s:=b.nD a<|An c;obtain⟨A,B⟩:=b.rows.tup i a r c d;exact⟨keep _ _ s.1 A,keep _ _ s.2 B⟩
  ·rw[Ay<|by lia]at c;rw[Ay<|by lia]at d;have e:i-bs.length=0:=by
    have:=(Ad.mp c).1;simp at this;lia
   rw[e]at c;rw[<-len,e]at d;cases c;cases d;exact⟨by rw[ax q,ay],keep _ _ nl n⟩
 ·rw[Ai];refine Bj.mpr ⟨b.rows.inj,by simp,λx I y E e=>?_⟩;exact v<|by rwa[<-show y=l from (Ae.mp E),<-e]
 ·obtain h|h:=Al.mp k
  ·exact b.new a h
  ·rw[Ae.mp h];exact⟨w,u⟩
 ·obtain h|h:=Al.mp k
  ·exact b.nD a h
  ·rw[Ae.mp h];exact⟨q,nl⟩
def d9(n:bc)(as:Ï):List (Key×V):=List.zipWith (λr a=>(Sum.inr r.1,V.ref a.2)) n as
theorem Qz:∀n as,as.length=n.length->(d9 n as).map (·.1)=(n.map (·.1)).map Sum.inr
 |[],_,_=>by simp[d9]
 |r :: n,[],h=>by simp at h
 |r :: n,a :: as,h=>by
  have:=Qz n as (by simpa using h);show Sum.inr r.1 :: (d9 n as).map (·.1)=_;rw[this];rfl
def ZE{i:Nat}(b:n[i]?=some r)(c:as[i]?=some a):(d9 n as)[i]?=some (Sum.inr r.1,.ref a.2):=by
 rw[d9,VJ,b,c]
theorem ZF[DecidableEq κ]:∀{kvs:List (κ×V)}{i:Nat}{p:κ×V},(kvs.map (·.1)).Nodup->kvs[i]?=some p->az kvs p.1=some p.2
 |[],_,_,_,h=>by simp at h
 |q :: r,0,p,_,h=>by
  cases h;exact jG rfl
 |q :: r,i+1,p,a,h=>by
  rw[Be,Bb]at a;have b:r[i]?=some p:=by simpa using h
  rw[ji λe=>a.1<|by rw[e];exact Ag.mpr ⟨p,An b,rfl⟩];exact ZF a.2 b
def q79{k:Key}(h:k∉kvs.map (·.1)):putK kvs k v=kvs++[(k,v)]:=by
 rw[putK,C];intro q;rw[Gy]at q;obtain⟨x,a,e⟩:=q;exact h<|Ag.mpr ⟨x,a,BZ e⟩
theorem ZG:∀{kvs acc:List (Key×V)},((acc++kvs).map (·.1)).Nodup->kvs.foldl (λa p=>putK a p.1 p.2) acc=acc++kvs
 |[],acc,_=>by simp
 |p :: kvs,acc,h=>by
  rw[Dq,q79 (v:=p.2) (k:=p.1) (by
   rw[Ai,Be]at h;exact λq=>(Bj.mp h).2.2 _ q _ (Ac ..) rfl),ZG (by rwa[Ap]),Ap]
  rfl
def Rk(c:as.length=n.length)(d:(n.map (·.1)).Nodup):((d9 n as).map (·.1)).Nodup:=by
 rw[Qz n as c];exact GX _ (λa b h e=>h<|Sum.inr.inj e) d
end Nt
namespace L2
open PySem Nt
def ZH{pos c:Pos}{i:Nat}(d:H a=some (Ls zs))(f:∀R:VK,R (.ref a) H->Ev X o b H R)(j:∀R:VK,R (.int (i:Int)) H->Ev X e b H R)(h:∀p,H p=none->Q (.ref p) (upd H p<|Ls<|zs.take i)):Ev X (.Subscript o (.Slice none (some e) none c) pos) b H Q:=by
 refine EL EF<|f _<|ER<|EV<|j _ ⟨_,rfl,a,_,rfl,av.of d,λp k=>?_⟩;rw[V2];exact h p k
def ZI{pos c d f:Pos}{i:Nat}(j:H a=some (Ls zs))(k:∀R:VK,R (.ref a) H->Ev X o b H R)(l:∀R:VK,R (.int (i:Int)) H->Ev X e b H R)(h:∀p,H p=none->Q (.ref p) (upd H p<|Ls<|zs.drop<|i+1)):Ev X (.Subscript o (.Slice (some<|.BinOp e .Add (.Constant (.int 1) n d) f) none none c) pos) b H Q:=by
 refine EL EF<|k _<|EV<|bb gR<|l _<|aF ⟨_,_,rfl,rfl,_,rfl,ER ⟨a,_,rfl,av.of j,λp m=>?_⟩⟩;rw[show((i:Int)+1)=((i+1:Nat):Int) by lia,V1];exact h p m
def QA(a:H p=some (Ls ys))(b:H q=some (Ls zs))(d:ys.length+zs.length<=100000)(h:∀r,H r=none->Q (.ref r) (upd H r<|Ls<|ys++zs)):yl (.ref p) (.ref q) H Q:=by
 refine⟨p,q,_,_,rfl,rfl,a,b,?_,λr c=>?_⟩
 ·rw[Aa,Aa,DW];lia
 ·rw[<-Ai];exact h r c
def ZJ{pos:Pos}(c:H a=some (Ls zs))(i:z∈zs)(s:zs.length<=1000)(j:∀R:VK,R (.ref a) H->Ev X o d H R)(k:∀R:VK,R (.str z) H->Ev X e d H R)(h:Q (.int (aN zs z:Int)) H)
  (l:attributeBase o "index" X.env (eval o X.env)=eval o X.env:=by rfl)
  (m:((backTo pos<|starEach [e] X.env).all (λx=>!x.1) && (backToKw pos<|keywordEach [] X.env).all (λx=>x.1.isSome) && decide ([e].length+([]:List Keyword).length+(if([]:List Keyword).isEmpty then 0 else 1)<30))=true:=by rfl)
  (b:(ap.endLine == pos.line)=true:=by rfl) (n:starEach [e] X.env=(false,eval e X.env) :: starEach [] X.env:=by rfl) (p:(backTo pos<|starEach [] X.env).any (·.1)=false:=by rfl) (q:ff e=false:=by rfl):Ev X (.Call (.Attribute o "index" ap) [e] [] pos) d H Q:=by
 obtain⟨f,r⟩:=Qx i;have t:=(Ad.mp f).1;exact yJ DG RW PySem.F.type_list_index gs (j _ ⟨Or.inl ⟨rfl,_,av.of c⟩,k _ ⟨a,zs,z,aN zs z,rfl,rfl,av.of c,f,r,by lia,h⟩⟩) l m b n p q
end L2
namespace Nt
open PySem L2 Classical
theorem m3(h:Way e f x b)(g:Way e x y c):∃d,Way e f y d:=by
 induction g with
 |here=>exact⟨b,h⟩
 |there _ m a=>obtain⟨d,hd⟩:=a;exact⟨_,.there hd m⟩
 |back _ m a=>obtain⟨d,hd⟩:=a;exact⟨_,.back hd m⟩
theorem ZK(e:∀x y o,(x,y,o)∈i->∃a,uX j x y a)(h:Way i f x b):∃d,Way j f x d:=by
 induction h with
 |here=>exact⟨_,.here⟩
 |there _ m c=>
  obtain⟨d,hd⟩:=c;obtain⟨a,t|t⟩:=e _ _ _ m
  ·exact⟨_,.there hd t⟩
  ·exact⟨_,.back hd t⟩
 |back _ m c=>
  obtain⟨d,hd⟩:=c;obtain⟨a,t|t⟩:=e _ _ _ m
  ·exact⟨_,.back hd t⟩
  ·exact⟨_,.there hd t⟩
def QE(n:bc)(T:Ñ):List Bl:=((ends n).filter λe=>decide (∃z,aH n e=some z/\z∈T)).map λe=>(aB n e.1,aB n (other n e).1,false)
def dM:(x,y,o)∈QE n T↔∃e z,aH n e=some z/\z∈T/\x=aB n e.1/\y=aB n (other n e).1/\o=false:=by
 rw[QE,Ag]
 constructor
 ·grind
 ·rintro ⟨e,z,a,b,rfl,rfl,rfl⟩;exact⟨e,Ao.mpr ⟨af.mpr ⟨z,a⟩,BW ⟨z,a,b⟩⟩,rfl⟩
def Rt(n:bc)(T:Ñ)(x y:Str):Prop:=∃b,Way (QE n T) x y b
def Rt.refl(n:bc)(T:Ñ)(x:Str):Rt n T x x:=⟨_,.here⟩
def Rt.trans(h:Rt n T x y)(g:Rt n T y z):Rt n T x z:=by
 obtain⟨_,h⟩:=h;obtain⟨_,g⟩:=g;exact m3 h g
def Rt.step(h:aH n e=some z)(a:z∈T):Rt n T (aB n e.1) (aB n (other n e).1):=⟨_,.there .here<|dM.mpr ⟨e,z,h,a,rfl,rfl,rfl⟩⟩
theorem Rt.ind(i:ao n){P:Str->Prop}(h:Rt n T x y)(j:P x)(f:∀e z,aH n e=some z->z∈T->P (aB n e.1)->P (aB n (other n e).1)):P y:=by
 obtain⟨b,h⟩:=h
 induction h with
 |here=>exact j
 |there _ m a=>
  obtain⟨e,z,c,d,rfl,rfl,rfl⟩:=dM.mp m;exact f e z c d a
 |back _ m a=>
  obtain⟨e,z,c,d,rfl,rfl,rfl⟩:=dM.mp m;have o:=cS i c;have:=f (other n e) z o.1 d a;rwa[o.2.1]at this
def nj(k:ao n)(l:cC n)(b:0<n.length)(h:∀e z,aH n e=some z->Rt n T (aB n e.1) (aB n (other n e).1)):∀x∈n.map (·.1),Rt n T (bw n) x:=by
 intro x m;obtain⟨r,a,rfl⟩:=Ag.mp m;refine l (λx=>Rt n T (bw n) x) ⟨n[0],Bq b,?_⟩ (λr a s o z t zs w=>?_) r a
 ·have:bw n=n[0].1:=fG b;rw[<-this];exact Rt.refl ..
 ·obtain⟨i,c,rfl⟩:=Bv.mp a;obtain⟨j,d,rfl⟩:=Bv.mp o;obtain⟨p,v⟩:=Bp t;obtain⟨q,y⟩:=Bp zs;have f:aH n (i,p)=some z:=by show(row n i)[p]?=_;rwa[pI c]
  have u:aH n (j,q)=some z:=by show(row n j)[q]?=_;rwa[pI d]
  obtain e|e:=(kc k f).mp u
  ·have:j=i:=BX (·.1) e;subst this;exact w
  ·have:=h (i,p) z f;rw[<-e]at this;rw[show aB n ((i,p):bi).1=n[i].1 from fG c,show aB n ((j,q):bi).1=n[j].1 from fG d]at this;exact w.trans this
def ZL{α:Type}[DecidableEq α]{a b:List α}(c:a.Nodup)(j:b.Nodup)(d:∀x∈a,x∈b):a.length=b.length↔∀x∈b,x∈a:=by
 constructor
 ·intro h x f;refine CJ λk=>?_;have:=aK c λz i=>(Fp λe:z=x=>k<|e ▸ i).mpr<|d z i;rw[Ex f]at this;have:0<b.length:=Fe f;lia
 ·intro h;have l:=aK c d;have m:=aK j h;lia
abbrev cQ(kvs:List<|Key×V)(r:Nat):Prop:=az kvs (Sum.inl (r:Int))=some (.bl true)
structure dU(n:bc)(ss:Ñ)(hr:Option<|Nat×Nat)(kvs:List<|Key×V)(lf:List Nat):Prop where
 eZ:(kvs.map (·.1)).Nodup
 num:∀k∈kvs.map (·.1),∃r:Nat,k=Sum.inl (r:Int)/\r<n.length
 val:∀(r:Nat)v,az kvs (Sum.inl (r:Int))=some v->v=.bl true/\Rt n ss (bw n) (aB n r)
 fst:cQ kvs 0
 xF:∀r∈lf,cQ kvs r
 qP:∀x p,hr=some (x,p)->cQ kvs x
 cls:∀r,cQ kvs r->r∈lf\/(∃p,hr=some (r,p))\/∀p z,aH n (r,p)=some z->z∈ss->cQ kvs (other n (r,p)).1
 Jg:∀x p,hr=some (x,p)->∀p',p'<p->∀z,aH n (x,p')=some z->z∈ss->cQ kvs (other n (x,p')).1
def dU.lt(I:dU n ss a kvs lf)(h:cQ kvs r):r<n.length:=by
 obtain⟨b,e,c⟩:=I.num _<|Nz h;have:=Sum.inl.inj e;lia
def dU.len(I:dU n ss b kvs lf):kvs.length<=n.length:=by
 have:=aK I.eZ λk a=>by
  obtain⟨r,e,h⟩:=I.num k a;exact Ag.mpr ⟨r,Bg.mpr h,e.symm⟩
 rwa[Aa,Aa,Cw]at this
def dU.start(b:0<n.length):dU n ss none (putK [] (Sum.inl 0)<|.bl true) [0]:=by
 have d:∀r:Nat,az (putK ([]:List<|Key×V) (Sum.inl 0)<|.bl true) (Sum.inl (r:Int))=if r=0 then some (.bl true)else none:=λr=>by
  rw[cR]
  by_cases h:r=0
  ·subst h;rfl
  ·rw[C h,C λq=>h<|by have:=Sum.inl.inj q;lia];rfl
 have a:cQ (putK ([]:List<|Key×V) (Sum.inl 0)<|.bl true) 0:=by grind
 refine⟨by show([Sum.inl 0]:List Key).Nodup;simp,λk e=>⟨0,by simpa[putK]using e,b⟩,λr v h=>?_,a,λr f=>by rwa[Ae.mp f],λx p h=>(by cases h),λr h=>?_,λx p h=>(by cases h)⟩
 ·rw[d]at h
  by_cases c:r=0
  ·rw[BL c]at h;cases h;subst c;exact⟨rfl,Rt.refl ..⟩
  ·rw[C c]at h;cases h
 ·grind
def dU.pop(I:dU n ss none kvs<|lf++[h]):dU n ss (some (h,0)) kvs lf:=by
 refine⟨I.eZ,I.num,I.val,I.fst,λr a=>I.xF r<|As _ a,λx p e=>?_,λr b=>?_,λx p e d f=>?_⟩
 ·cases e;exact I.xF h<|Ar _<|Ae.mpr rfl
 ·obtain c|c|c:=I.cls r b
  ·obtain c|c:=Al.mp c
   ·exact .inl c
   ·exact .inr<|.inl ⟨0,by rw[Ae.mp c]⟩
  ·obtain⟨p,e⟩:=c;cases e
  ·exact .inr<|.inr c
 ·grind
def dU.close(I:dU n ss (some (h,p)) kvs lf)(d:(row n h).length<=p):dU n ss none kvs lf:=by
 refine⟨I.eZ,I.num,I.val,I.fst,I.xF,λx p e=>(by cases e),λr f=>?_,λx p e=>(by cases e)⟩
 obtain c|c|c:=I.cls r f
 ·exact .inl c
 ·obtain⟨a,e⟩:=c;cases e;exact .inr<|.inr λa z b=>I.Jg h p rfl a (Br (iy b) d) z b
 ·exact .inr<|.inr c
def dU.step(I:dU n ss (some (h,p)) kvs lf)(d:aH n (h,p)=some z)(f:z∈ss->cQ kvs (other n (h,p)).1):dU n ss (some (h,p+1)) kvs lf:=by
 refine⟨I.eZ,I.num,I.val,I.fst,I.xF,λx q e=>?_,λr i=>?_,λx q e a j y b c=>?_⟩
 ·cases e;exact I.qP h p rfl
 ·obtain k|k|k:=I.cls r i
  ·exact .inl k
  ·obtain⟨q,e⟩:=k;cases e;exact .inr<|.inl ⟨_,rfl⟩
  ·exact .inr<|.inr k
 ·cases e
  by_cases k:a<p
  ·exact I.Jg h p rfl a k y b c
  ·have:a=p:=by lia
   subst this;rw[d]at b;cases b;exact f c
def dU.new(T:ao n)(I:dU n ss (some (h,p)) kvs lf)(f:aH n (h,p)=some z)(i:z∈ss)(s:az kvs (Sum.inl ((other n (h,p)).1:Int))=none):
  dU n ss (some (h,p+1)) (putK kvs (Sum.inl ((other n (h,p)).1:Int))<|.bl true) (lf++[(other n (h,p)).1]):=by
 have j:=Ny s;have w:Rt n ss (bw n) (aB n (other n (h,p)).1):=(I.val h _<|I.qP h p rfl).2.trans<|Rt.step f i;have t:cQ (putK kvs (Sum.inl ((other n (h,p)).1:Int))<|.bl true) (other n (h,p)).1:=by
  show az _ _=_;rw[cR,BL rfl]
 have up:∀{r:Nat},cQ kvs r->cQ (putK kvs (Sum.inl ((other n (h,p)).1:Int))<|.bl true) r:=λ{r}a=>by
  show az _ _=_;rw[cR]
  split
  ·rfl
  ·exact a
 have dn:∀{r:Nat},cQ (putK kvs (Sum.inl ((other n (h,p)).1:Int))<|.bl true) r->r=(other n (h,p)).1\/cQ kvs r:=λ{r}a=>by
  have a:az _ _=_:=a;rw[cR]at a
  by_cases q:r=(other n (h,p)).1
  ·exact .inl q
  ·grind
 have u:dU n ss (some (h,p)) (putK kvs (Sum.inl ((other n (h,p)).1:Int))<|.bl true) (lf++[(other n (h,p)).1]):=by
  refine⟨?_,λk b=>?_,λr v c=>?_,up I.fst,λr d=>?_,λx q e=>up<|I.qP x q e,λr a=>?_,λx q e l A y m o=>up<|I.Jg x q e l A y m o⟩
  ·rw[sK,C j];exact pC I.eZ j
  ·rw[sK,C j]at b
   obtain b|b:=Al.mp b
   ·exact I.num k b
   ·exact⟨_,Ae.mp b,sN T f⟩
  ·rw[cR]at c
   by_cases q:r=(other n (h,p)).1
   ·rw[BL<|by rw[q]]at c;cases c;exact⟨rfl,by rwa[q]⟩
   ·rw[C<|WX q]at c;exact I.val r v c
  ·obtain d|d:=Al.mp d
   ·exact up<|I.xF r d
   ·rwa[Ae.mp d]
  ·obtain q|a:=dn a
   ·exact .inl<|Ar _<|q▸(Ae.mpr rfl)
   ·obtain k|k|k:=I.cls r a
    ·exact .inl<|As _ k
    ·exact .inr<|.inl k
    ·exact .inr<|.inr λl y m o=>up<|k l y m o
 exact u.step f λ_=>t
def dU.whole(T:ao n)(w:0<n.length)(d:(n.map (·.1)).Nodup)(I:dU n ss none kvs []):kvs.length=n.length↔∀x∈n.map (·.1),Rt n ss (bw n) x:=by
 have j:∀r,r<n.length->Rt n ss (bw n) (aB n r)->cQ kvs r:=λr a h=>by
  obtain⟨A,l,m⟩:=h.ind T (P:=λx=>∃r,cQ kvs r/\aB n r=x) ⟨0,I.fst,rfl⟩ λe z o B⟨r,a,q⟩=>by
   have:=w6 d (I.lt a) (dB o) q;subst this
   obtain c|c|c:=I.cls _ a
   ·cases c
   ·grind
   ·grind
  rwa[<-w6 d (I.lt l) a m]
 have k:=ZL I.eZ (b:=(range n.length).map λr=>(Sum.inl ((r:Nat):Int):Key)) (by
  rw[Cg,Ez];exact(Cg.mp Fi).imp λh e=>h<|by have:=Sum.inl.inj e;lia) λk p=>by
  obtain⟨r,e,h⟩:=I.num k p;exact Ag.mpr ⟨r,Bg.mpr h,e.symm⟩
 rw[Aa,Aa,Cw]at k;rw[k]
 constructor
 ·intro h x s;obtain⟨i,t,rfl⟩:=Zg s;cases f:az kvs (Sum.inl (i:Int)) with
  |none=>exact absurd (h (Sum.inl (i:Int))<|Ag.mpr ⟨i,Bg.mpr t,rfl⟩)<|Ny f
  |some v=>exact(I.val i v f).2
 ·intro h y u;obtain⟨r,a,rfl⟩:=Ag.mp u;have a:=Bg.mp a;exact Nz<|j r a<|h _<|jR a
def bd(n:bc)(z:Str):bc:=n.map λr=>(r.1,r.2.filter λy=>decide (y≠z))
def rz:(bd n z).length=n.length:=Aa ..
def QI:(bd n z).map (·.1)=n.map (·.1):=by
 unfold bd;rw[Bi];rfl
def QN:ag (bd n z)=(ag n).filter λy=>decide (y≠z):=by
 unfold ag bd;rw[List.flatMap_map,List.filter_flatMap]
def QO:(ag<|bd n z).length<=(ag n).length:=by
 rw[QN];exact Db ..
def Jh(T:ao n):ao (bd n z):=λy b=>by
 rw[QN]at b ⊢;obtain⟨c,d⟩:=Ao.mp b;rw[List.count_filter (a:=y) d];exact T y c
def rc(h:(ag n).length<=900):∀r∈bd n z,r.2.length<=5000:=λr b=>by
 obtain⟨s,c,rfl⟩:=Ag.mp b;have f:(s.2.filter λy=>decide (y≠z)).length<=s.2.length:=Db ..;obtain⟨i,a,e⟩:=Bv.mp c;have d:=tF a;rw[lv a,e]at d;show(s.2.filter λy=>decide (y≠z)).length<=5000;lia
def ZM(h:i<n.length):bd (n.take<|i+1) z=bd (n.take i) z++[(aB n i,(row n i).filter λy=>decide (y≠z))]:=by
 unfold bd;rw[Ck,Ab h,Ai,fG h,lv h];rfl
def mZ(n:bc):Prop:=∀x∈n.map (·.1),Rt n (ag n) (bw n) x
def gG(n:bc)(z:Str):AE:=if z∈ag n then(if mZ (bd n z)then .inr (bd n z)else .inl "Bridge")else .inl "NoTie"
def q68(h:z∉ag n):gG n z=.inl "NoTie":=by unfold gG;rw[C h]
def ur(h:z∈ag n)(k:¬ mZ (bd n z)):gG n z=.inl "Bridge":=by unfold gG;rw[BL h,C k]
def rH(h:z∈ag n)(k:mZ<|bd n z):gG n z=.inr (bd n z):=by unfold gG;rw[BL h,BL k]
def gH(a:List Lk):List Bl:=a.map λx=>(x.2.1,x.2.2,false)
def qh(T:ao n)(h:∀x,x∈d↔pM n x):(∃b,Way (gH d) f x b)↔Rt n (ag n) f x:=by
 have a:∀{x y:Str}{o:Bool},(x,y,o)∈gH d↔∃l∈d,x=l.2.1/\y=l.2.2/\o=false:=λ{x y o}=>by
  unfold gH;rw[Ag]
  constructor
  ·grind
  ·grind
 constructor
 ·rintro ⟨b,w⟩;refine ZK (λx y o i=>?_) w;obtain⟨l,j,rfl,rfl,rfl⟩:=a.mp i;obtain⟨e,c,k,m⟩:=WU T<|(h l).mp j;exact⟨false,.inl<|dM.mpr ⟨e,l.1,c,dP c,k,m,rfl⟩⟩
 ·rintro ⟨b,w⟩;refine ZK (λx y o i=>?_) w;obtain⟨e,z,c,p,rfl,rfl,rfl⟩:=dM.mp i
  obtain q|q:=WV T c
  ·exact⟨false,.inl<|a.mpr ⟨_,(h _).mpr q,rfl,rfl,rfl⟩⟩
  ·exact⟨false,.inr<|a.mpr ⟨_,(h _).mpr q,rfl,rfl,rfl⟩⟩
def YE(T:ao n)(i:(n.map (·.1)).Nodup)(j:0<n.length)(h:∀x,x∈l↔pM n x)(I:eS (gH l) (bw n) none kvs []):kvs.length=n.length↔mZ n:=by
 have key:∀x,Sum.inr x∈kvs.map (·.1)↔Rt n (ag n) (bw n) x:=λx=>by
  rw[<-qh T h]
  constructor
  ·intro c;cases d:az kvs (Sum.inr x) with
   |none=>exact absurd c<|I.oz d
   |some v=>
    obtain⟨b,_,w⟩:=I.val x v d;exact⟨b,w⟩
  ·rintro ⟨b,w⟩;obtain⟨s,m⟩:=I.whole x b w;exact Nz m
 have names:∀x,Rt n (ag n) (bw n) x->x∈n.map (·.1):=λx c=>c.ind T (jR j) λe z o _ _=>jR<|sN T o;have p:((n.map (·.1)).map (Sum.inr:Str->Key)).Nodup:=GX _ (λa b h e=>h<|Sum.inr.inj e) i;have k:=ZL I.eZ p λk f=>by
  obtain⟨x,rfl,_⟩:=I.txt k f;exact Ag.mpr ⟨x,names x<|(key x).mp f,rfl⟩
 rw[Aa,Aa,Aa]at k;rw[k]
 constructor
 ·exact λq x c=>(key x).mp<|q _<|Ag.mpr ⟨x,c,rfl⟩
 ·intro q y r;obtain⟨x,c,rfl⟩:=Ag.mp r;exact(key x).mpr<|q x c
def dU.back(I:dU n ss (some (h,p+1)) kvs lf):dU n ss (some (h,p)) kvs lf:=by
 refine⟨I.eZ,I.num,I.val,I.fst,I.xF,λx q e=>?_,λr a=>?_,λx q e b c=>?_⟩
 ·cases e;exact I.qP h _ rfl
 ·obtain k|k|k:=I.cls r a
  ·exact .inl k
  ·obtain⟨q,e⟩:=k;cases e;exact .inr<|.inl ⟨_,rfl⟩
  ·exact .inr<|.inr k
 ·cases e;exact I.Jg h _ rfl b (Bz c)
abbrev Lr(lf:List Nat):HO:= .lst<|lf.map λ(r:Nat)=>V.int (r:Int)
def QP(h:H p=none)(o:HO):aj H (upd H p o):=λb u q=>by rwa[ax<|bz q h]
def QQ(s:aj a c)(h:a r=none):aj a (upd c r o):=λb u q=>by
 rw[ax<|bz q h];exact s _ _ q
structure oZ(H0 H:Hp)(d:Addr)(done:List<|Str×bi)(kvs:List<|Key×V)(ks:Ñ):Prop where
 dict:H d=some (.dK kvs)
 free:H0 d=none
 same:aj H0 H
 keys:kvs.map (·.1)=ks.map Sum.inr
 eZ:ks.Nodup
 mem:∀z,z∈ks↔bq done z≠[]
 o6:∀z,bq done z=[]->az kvs (Sum.inr z)=none
 mw:∀z,bq done z≠[]->∃a,az kvs (Sum.inr z)=some (.ref a)/\H a=some (Lr ((bq done z).map (·.1)))/\H0 a=none/\a≠d
 inj:∀z y a,az kvs (Sum.inr z)=some (.ref a)->az kvs (Sum.inr y)=some (.ref a)->z=y
def oZ.start(h:H d=none):oZ H (upd H d<|.dK []) d [] [] []:=
 ⟨ay,h,QP h _,rfl,Co,λz=>⟨λq=>(nomatch q),λq=>absurd rfl q⟩,λz _=>rfl,λz q=>absurd rfl q,λz y a q=>(nomatch q)⟩
def oZ.old(I:oZ n H d done kvs ks)(j:bq done z≠[])(i:az kvs (Sum.inr z)=some (.ref a))(h:H k=none):
  oZ n (upd (upd H k<|.lst []) a (Lr ((bq done z).map (·.1)++[e.1]))) d (done++[(z,e)]) kvs ks:=by
 obtain⟨t,v1,u,l,v4⟩:=I.mw z j;rw[i]at v1;cases v1;have o:k≠d:=λq=>by rw[q,I.dict]at h;cases h
 have snoc:=λy=>dQ done z y e;refine⟨by rw[ax<|CG v4,ax<|CG o];exact I.dict,I.free,QQ (I.same.trans<|QP h _) l,I.keys,I.eZ,λy=>?_,λy f=>?_,λy f=>?_,I.inj⟩
 ·rw[snoc]
  by_cases c:z=y
  ·subst c;rw[BL rfl];exact⟨λ_ q=>(by simp at q),λ_=>(I.mem z).mpr j⟩
  ·rw[C c,Bd];exact I.mem y
 ·rw[snoc]at f;exact I.o6 y (Ek.mp f).1
 ·rw[snoc]at f ⊢
  by_cases c:z=y
  ·subst c;refine⟨a,i,?_,l,v4⟩;rw[BL rfl,ay,Ai];rfl
  ·rw[C c,Bd]at f ⊢;obtain⟨b,m,p,r,s⟩:=I.mw y f;refine⟨b,m,?_,r,s⟩;rwa[ax (λq=>c<|I.inj z y a i<|by rw[<-q];exact m),ax<|bz p h]
section
variable{H0 H:Hp}{d l0:Addr}{done:List (Str×bi)}{kvs:List (Key×V)}{ks:Ñ}{z:Str}{e:bi}
def oZ.new(I:oZ H0 H d done kvs ks)(p:bq done z=[])(f:H l0=none):
  oZ H0 (upd (upd (upd H l0<|.lst []) d<|.dK<|putK kvs (Sum.inr z)<|.ref l0) l0<|Lr [e.1]) d (done++[(z,e)]) (putK kvs (Sum.inr z)<|.ref l0) (ks++[z]):=by
 have r:l0≠d:=λq=>by rw[q,I.dict]at f;cases f
 have s:H0 l0=none:=by
  cases q:H0 l0 with
  |none=>rfl
  |some v=>rw[I.same _ _ q]at f;cases f
 have snoc:=λy=>dQ done z y e;have t:=λq=>(I.mem z).mp q p;have old:∀{y:Str},y≠z->az (putK kvs (Sum.inr z)<|.ref l0) (Sum.inr y)=az kvs (Sum.inr y):=λ{y}c=>by
  rw[cR,C λq=>c<|Sum.inr.inj q]
 have new:az (putK kvs (Sum.inr z)<|.ref l0) (Sum.inr z)=some (.ref l0):=by rw[cR,BL rfl]
 have h:∀y b,az kvs (Sum.inr y)=some (.ref b)->H b≠none:=λy b l=>by
  have:bq done y≠[]:=λq=>by rw[I.o6 y q]at l;cases l
  obtain⟨B,m,n,_⟩:=I.mw y this;rw[l]at m;cases m;rw[n];simp
 refine⟨by rw[ax<|CG r];exact ay,I.free,QQ (QQ (I.same.trans<|QP f _) I.free) s,?_,pC I.eZ t,λy=>?_,λy a=>?_,λy a=>?_,λy x b a i=>?_⟩
 ·rw[sK,I.keys,C,Ai]
  ·rfl
  ·intro q;obtain⟨y,a,e⟩:=Ag.mp q;cases e;exact t a
 ·rw[snoc,Al,Ae]
  by_cases c:z=y
  ·subst c;rw[BL rfl];exact⟨λ_ q=>(by simp at q),λ_=> .inr rfl⟩
  ·rw[C c,Bd,I.mem y];exact⟨λq=>q.elim id λk=>absurd k.symm c,.inl⟩
 ·rw[snoc]at a
  by_cases c:z=y
  ·subst c;rw[BL rfl]at a;simp at a
  ·rw[C c,Bd]at a;rw[old<|CG c];exact I.o6 y a
 ·rw[snoc]at a ⊢
  by_cases c:z=y
  ·subst c;refine⟨l0,new,?_,s,r⟩;rw[BL rfl,ay,p];rfl
  ·rw[C c,Bd]at a ⊢;obtain⟨b,m,n,A,u⟩:=I.mw y a;refine⟨b,by rwa[old<|CG c],?_,A,u⟩;have w:=bz n f;rwa[ax w,ax u,ax w]
 ·by_cases o:y=z
  ·by_cases j:x=z
   ·rw[o,j]
   ·rw[o,new]at a;cases a;rw[old j]at i;exact absurd f<|h x _ i
  ·rw[old o]at a
   by_cases j:x=z
   ·rw[j,new]at i;cases i;exact absurd f<|h y _ a
   ·rw[old j]at i;exact I.inj y x b a i
end
end Nt
namespace G8
open PySem L2 Nt bv bG
open PyProof.Rows (sortedS)
open Classical
def Sm(m:bc):Prop:=m.length<=1000/\∀r∈m,r.2.length<=5000
inductive eF(c:Str->Addr)(out:bc->Str->AE)(vs:List V)(H:Hp)(Q:VK)(E:XK):Prop
 |mk (R:Addr)(as:Ï)(n:bc)(z:Str)(_:vs=[.ref R,.str z])(_:aq H R as n)(_:ao n)(_:(n.map (·.1)).Nodup)(_:n.length<=60)(_:(ag n).length<=60)(_:Jd n)(_:(∀x,out n z=.inl x->∀H',aj H H'->E (.ref<|c x) none H'))(_:∀m,out n z=.inr m->∀L bs H',aj H H'->H L=none->(∀a∈bs,H a.1=none/\H a.2=none)->aq H' L bs m->Sm m->Q (.ref L) H')
theorem rq.snoc(h:rq H us c)(e:H u=some (Zw x)):rq H (us++[u]) (c++[x]):=by
 refine⟨by rw[Ah,Ah,h.1];rfl,λj v y a b=>?_⟩;have f:=h.1
 by_cases d:j<us.length
 ·rw[Aw d]at a;rw[Aw<|by omega]at b;exact h.2 j v y a b
 ·grind
inductive mD(vs:List V)(H:Hp)(Q:VK)(_:XK):Prop
 |mk (R:Addr)(as:Ï)(n:bc)(_:vs=[.ref R])(_:aq H R as n)(_:ao n)(_:(n.map (·.1)).Nodup)(_:0<n.length)(_:n.length<=60)(_:(ag n).length<=60)(_:∀H',aj H H'->Q (.bl<|decide (mZ n)) H')
inductive o7(vs:List V)(H:Hp)(Q:VK)(_:XK):Prop
 |mk (R:Addr)(as:Ï)(n:bc)(z:Str)(_:vs=[.ref R,.str z])(_:aq H R as n)(_:n.length<=1000)(_:(ag n).length<=900)(_:∀L bs H',aj H H'->H L=none->(∀a∈bs,H a.1=none/\H a.2=none)->aq H' L bs (bd n z)->Q (.ref L) H')
def q1t{a:List Lk}(h:i<a.length):gH (a.take<|i+1)=gH (a.take i)++[((a[i]).2.1,(a[i]).2.2,false)]:=by
 unfold gH;rw[Ck,Ab h,Ai];rfl
def ne_str(y z:Str):(!decide (V.str y=V.str z))=decide (y≠z):=by
 by_cases c:y=z
 ·grind
 ·grind
def q64(b:n.length<=1000)(a:(ag n).length<=900):Sm (bd n z):=⟨by rwa[rz],rc a⟩
section
abbrev ZP:Ñ:=["rows","links"]
abbrev CH:Ñ:=["rows","links","tie","one","other"]
def CI:ak ZP ["rows"] (aW G0):=cg
def QR:CH.Nodup:=by decide +kernel
theorem ux(F:bA K "hangs_together" "hangs_together" G0 f fd)(T:Txt mg)(GL:aT P w K mg base 1 "links_of" ["rows"] fJ)(GS:aT P w K mg base 1 "spread" ["first","links"] gF):
  aG P w K mg base bF 2 f fd ["rows"] mD:=by
 refine F.gc CI λb0 H vs Q E M h=>?_;obtain⟨R,as,n,rfl,A,N,hN,B,hn,gY,q⟩:=h;have bI:=A.len;refine LN 1 (aW G0) ZP CH 3 CI.nd (gJ bB) (bC GL M<|ai<|U 0<|aA ⟨R,as,n,rfl,A,N,by lia,gY,λL us p H1 s1 n1 O Y rY gu Ö=>?_⟩);refine⟨L,rfl,⟨_,av.of O⟩,λD hD=>?_⟩;have vC:=Y.1;refine mI (xs:=us.map V.ref) (λi a m=>(∃v1 v2 v3,a=[some<|.ref R,none]++[v1,v2,v3])/\∃b:List Addr,aj H1 m/\m D=some (.lst<|b.map V.ref)/\rq m b (gH<|p.take i)) ⟨⟨_,_,_,rfl⟩,[],aM hD _,ay,rfl,λj u x h=>by simp at h⟩ ?_ ?_ ?_
 ·rintro i a m _ ⟨_,b,r,_⟩;exact av.of<|r _ _ O
 ·rintro i x a m hx ⟨⟨v1,v2,v3,rfl⟩,b,r,o,l⟩;rw[Aj,Ba]at hx;obtain⟨u,fv,rfl⟩:=hx;have hi:i<p.length:=by
   have:=(Ad.mp fv).1;omega
  have pT:=r _ _<|Y.2 i u _ fv<|Ab hi;rw[q1t hi];have lw:b.length<=i:=by
   have:=l.1;unfold gH at this;rw[Aa,Bm]at this;omega
  generalize p[i]=lx at pT;obtain⟨ti,on,ot⟩:=lx;intro cl C' c k ex;refine O7 rfl (aU.of pT) (a9 2 QR<|a9 3 QR<|a9 4 QR ?_);intro cl C' c k ex;refine j5<|bK ?_;intro cl C' c k ex;refine dk<|ai<|U 3<|ai<|U 4<|ai<|uh<|aA ⟨Z3,λt G=>?_⟩;have vh:t≠D:=λe=>by rw[e,o]at G;cases G
  have s:=aM G<|.tup [.str on,.str ot,.bl false];refine⟨_,s _ _ o,by rw[Aa];exact bR (by omega),⟨_,_,_,rfl⟩,b++[t],dR (r.trans s) hD,?_,?_⟩
  ·rw[ay,Ai];rfl
  ·refine rq.snoc ⟨l.1,λj v y h1 h2=>?_⟩ ?_
   ·have e:=s _ _<|l.2 j v y h1 h2;rwa[ax<|cm e (s _ _ o) λz=>nomatch z]
   ·rw[ax vh];exact ay
 ·rintro a H2 ⟨_,b,s2,o,l⟩;rw[Aa,vC,Bn]at l;have xa:=s1.trans s2;have J:=A.same xa;obtain⟨a0,NX,uZ,zj,sP,W'⟩:=J.at B;rw[<-fG B]at zj;refine bQ<|qp fQ<|cL Uo T.len DP<|ai<|bC GS M<|ai<|bn cw<|bn dZ<|U 0<|aF ⟨R,_,_,.ref a0.1,rfl,rfl,av.of J.lst,uZ,aF ⟨a0.1,_,_,.str<|aB n 0,rfl,rfl,aU.of zj,rfl,?_⟩⟩;refine ai (U 1<|aA ⟨bw n,D,b,gH p,rfl,o,l,by unfold gH;rw[Aa];lia,λd kvs H3 s3 Ø Jj I=>aA ⟨d,kvs,rfl,Jj,?_⟩⟩);refine cL eX T.len DP<|ai<|U 0<|aA ⟨R,_,rfl,.inl<|av.of<|s3 _ _ J.lst,rfl,?_⟩;rw[Aa,bI];have e:decide (V.int (kvs.length:Int)=V.int (n.length:Int))=decide (mZ n):=by
   rw[decide_eq_decide,<-(YE N hN B gu I)]
   constructor
   ·intro h;have:=V.int.inj h;lia
   ·intro h;rw[h]
  rw[e];exact q H3<|xa.trans s3
abbrev CL:Ñ:=["rows","tie","rest"]
abbrev QU:Ñ:=["rows","tie","rest","point","ties"]
abbrev ZQ:Ñ:=["rows","tie","rest","point","ties","each"]
def CM:ak CL ["rows","tie"] (aW uM):=cg
def ZR:QU.Nodup:=by decide +kernel
def Zp:ZQ.Nodup:=by decide +kernel
def UF:Scope:=match iW uM with
 |_ :: .Assign _ (.ListComp _ _ a _) _ :: _=>a
 |_=>aW uM
def mP:Scope:=relabel UF<|PyProof.Rows.envOfC "taken_out" (aW uM) 0 0 .none
theorem xR(F:bA K "taken_out" "taken_out" uM f fd)(T:Txt mg)(u:Cl K mg c)(GN:cV P w K mg base 2 "need_tie" ["rows","tie"]<|gE c)(GH:aT P w K mg base 2 "hangs_together" ["rows"] mD):
  aG P w K mg base (XF P w) 3 f fd ["rows","tie"] (eF c gG):=by
 refine F.gx CM (λvs H Q E h=>?_) λb0 H vs Q hr h=>?_
 ·obtain⟨R,as,n,z,rfl,_⟩:=h;rfl
 obtain⟨R,as,n,z,rfl,N,hT,hN,yt,Ih,bT,qE,qQ⟩:=h;have hn:n.length<=1000:=by lia
 have ht:(ag n).length<=900:=by lia
 have bI:=N.len;have mB:("Bridge" : Str)∈cP:=by decide
 refine ik<|xr GN hr PH<|ai<|U 0<|ai<|U 1<|aA ⟨R,as,n,z,rfl,N,hn,ht,bT,λA=>qE _<|q68 A,λA H1 B=>?_⟩;have O:=N.same B;refine LN 2 (aW uM) CL QU 2 CM.nd (gJ bB)<|U 0 ⟨R,rfl,⟨_,av.of O.lst⟩,λD Y=>?_⟩;refine mI (xs:=as.map λa=>V.ref a.1) (λi l o=>(∃v1 v2,l=[some<|.ref R,some<|.str z,none]++[v1,v2])/\aj H1 o/\∃p,jW H o D p<|bd (n.take i) z) ⟨⟨none,none,rfl⟩,aM Y _,[],jW.nil ay⟩ ?_ ?_ ?_
 ·rintro i l o _ ⟨_,q,_⟩;exact av.of<|q _ _ O.lst
 ·rintro i x l o hx ⟨⟨v1,v2,rfl⟩,q,p,m⟩;have L:i<n.length:=by
   have:=(Ad.mp hx).1;rw[Aa]at this;omega
  obtain⟨a,ea,cZ,et,el,er⟩:=(O.same q).at L;rw[Aj,ea]at hx;cases hx;rw[<-fG L]at et;have bl:=m.rows.len;rw[rz,Bm]at bl;have k8:=tF L;rw[ZM L];intro o9 C' d j G;refine iA rfl (aU.of et) (a9 3 ZR<|a9 4 ZR ?_);intro o9 C' d j G;refine j5<|bK ?_;intro o9 C' d j G;refine dk<|ai<|U 3<|ai<|kL mP QU ZQ 1 (gJ bB)<|U 4 ⟨a.2,rfl,⟨_,av.of el⟩,λD2 s=>?_⟩;refine yP (λy=>decide (y≠z)) (bR<|by omega) el s (λu b d j G v v0 o R' h=>a9 5 Zp h) (λu b d j G y ys T' h=>?_) (λu b d j G y o R' h=>U 5 h) ?_
  ·refine qu<|cA tX<|U 5<|U 1 ⟨rfl,_,rfl,?_⟩;rwa[ne_str]
  ·have I:=aM s<|Ls<|(row n i).filter λy=>decide (y≠z);have vS:=m.same I;have e2:(upd o D2<|Ls<|(row n i).filter λy=>decide (y≠z)) D2=some (Ls<|(row n i).filter λy=>decide (y≠z)):=ay;refine aA ⟨Z2,λt J=>⟨p.map λa=>V.ref a.1,?_,?_,⟨_,_,rfl⟩,?_,p++[(t,D2)],?_⟩⟩
   ·rw[ax λe=>by rw[<-e]at J;exact absurd (vS.rows.lst.symm.trans J)<|by simp];exact vS.rows.lst
   ·rw[Aa];exact bR<|by omega
   ·exact dR (q.trans<|I.trans<|aM J _) Y
   ·exact vS.add e2 (fI (B.trans q) s) (λk=>by
     obtain⟨a',jP,e'⟩:=Ag.mp k;have:=(m.iP jP).2;rw[e',s]at this;exact this rfl) (λe=>by rw[e,m.rows.lst]at s;cases s) J<|fI (B.trans<|q.trans I) J
 rintro l H2 ⟨_,I,p,m⟩;rw[Aa,bI,Bn]at m;have CO:=B.trans I;have h0:0<n.length:=by
  obtain⟨r,pN,_⟩:=xD A;omega
 have lo:=QO (n:=n) (z:=z);refine fk (T2<|UA<|bC GH hr<|ai<|U 2<|aA ⟨D,p,_,rfl,m.rows,Jh hT,by rwa[QI],by rwa[rz],by rw[rz];omega,by omega,λH3 s3=>⟨_,rfl,?_⟩⟩);have xG:=CO.trans s3
 by_cases M:mZ<|bd n z
 ·rw[BW M];exact bU<|a8<|bQ<|U 2<|qQ _ (rH A M) D p H3 xG (fI B Y) m.new (m.rows.same s3)<|q64 hn ht
 ·rw[BR M];exact bK<|Pz PQ (u.at' _ mB).1 (u.at' _ mB).2.1 rfl (ai<|eI<|aA ⟨Z1,qE _ (ur A M) _ xG⟩)
abbrev ZS:Ñ:=["_law_rows","_law_tie"]
abbrev QY:Ñ:=["_law_rows","_law_tie","_law_point","_law_row"]
abbrev ZT:Ñ:=["_law_rows","_law_tie","_law_point","_law_row","_law_name"]
def tG:ak ZS ["_law_rows","_law_tie"] (aW uS):=cg
def ZU:QY.Nodup:=by decide +kernel
def Ji:ZT.Nodup:=by decide +kernel
def x2j:Scope:=match iW uS with
 |[.Return (some<|.ListComp _ _ a _) _]=>a
 |_=>aW uS
def bN:Scope:=relabel x2j<|PyProof.Rows.envOfC "_law_out" (aW uS) 0 0 .none
theorem q80(F:bA K "_law_out" "_law_out" uS f fd)(T:Txt mg):aG P w K mg base bF 1 f fd ["_law_rows","_law_tie"] o7:=by
 refine F.gc tG λb0 H vs Q E hr h=>?_;obtain⟨R,as,n,z,rfl,B,hn,ht,q⟩:=h;have bI:=B.len;refine bQ<|kL (aW uS) ZS QY 2 (gJ bB)<|U 0 ⟨R,rfl,⟨_,av.of B.lst⟩,λD I=>?_⟩;refine mI (xs:=as.map λa=>V.ref a.1) (λi j m=>(∃v1 N,j=[some<|.ref R,some<|.str z]++[v1,N])/\aj H m/\∃o,jW H m D o<|bd (n.take i) z) ⟨⟨none,none,rfl⟩,aM I _,[],jW.nil ay⟩ ?_ ?_ ?_
 ·rintro i j m _ ⟨_,p,_⟩;exact av.of<|p _ _ B.lst
 ·rintro i x j m J ⟨⟨v1,N,rfl⟩,p,o,l⟩;have G:i<n.length:=by
   have:=(Ad.mp J).1;rw[Aa]at this;omega
  obtain⟨a,ea,cZ,O,Y,er⟩:=(B.same p).at G;rw[Aj,ea]at J;cases J;rw[<-fG G]at O;have bl:=l.rows.len;rw[rz,Bm]at bl;have k8:=tF G;rw[ZM G];intro o9 C' c d s;refine iA rfl (aU.of O) (a9 2 ZU<|a9 3 ZU ?_);intro o9 C' c d s;refine j5<|bK ?_;intro o9 C' c d s;refine dk<|ai<|U 2<|ai<|kL bN QY ZT 1 (gJ bB)<|U 3 ⟨a.2,rfl,⟨_,av.of Y⟩,λL r=>?_⟩;refine yP (λy=>decide (y≠z)) (bR<|by omega) Y r (λcl b c d s v v0 m R' h=>a9 4 Ji h) (λcl b c d s y ys T' h=>?_) (λcl b c d s y m R' h=>U 4 h) ?_
  ·refine qu<|cA tX<|U 4<|U 1 ⟨rfl,_,rfl,?_⟩;rwa[ne_str]
  ·have u:=aM r<|Ls<|(row n i).filter λy=>decide (y≠z);have M:=l.same u;have e2:(upd m L<|Ls<|(row n i).filter λy=>decide (y≠z)) L=some (Ls<|(row n i).filter λy=>decide (y≠z)):=ay;refine aA ⟨Z2,λt A=>⟨o.map λa=>V.ref a.1,?_,?_,⟨_,_,rfl⟩,?_,o++[(t,L)],?_⟩⟩
   ·rw[ax λe=>by rw[<-e]at A;exact absurd (M.rows.lst.symm.trans A)<|by simp];exact M.rows.lst
   ·rw[Aa];exact bR<|by omega
   ·exact dR (p.trans<|u.trans<|aM A _) I
   ·exact M.add e2 (fI p r) (λk=>by
     obtain⟨a',jP,e'⟩:=Ag.mp k;have:=(l.iP jP).2;rw[e',r]at this;exact this rfl) (λe=>by rw[e,l.rows.lst]at r;cases r) A<|fI (p.trans u) A
 rintro j H2 ⟨_,u,o,l⟩;rw[Aa,bI,Bn]at l;exact q D o H2 u I l.new l.rows
open PyProof.Rows (sortedS)
open Classical
inductive ku(vs:List V)(H:Hp)(Q:VK)(_:XK):Prop
 |mk (a b:Addr)(xs ys:Ñ)(z:Str)(_:vs=[.ref a,.ref b,.str z])(_:H a=some (Ls xs))(_:H b=some (Ls ys))(_:z∈xs)(_:z∈ys)(_:xs.length<=1000)(_:ys.length<=1000)(_:∀l H',aj H H'->H l=none->H' l=some (Ls<|i6 xs ys z)->Q (.ref l) H')
abbrev NJ:Ñ:=["ties","others","tie","place","turn"]
def ZV:ak NJ ["ties","others","tie"] (aW MZ):=cg
def om(F:bA K "joined" "joined" MZ f D)(T:Txt mg):aG P w K mg base bF 1 f D ["ties","others","tie"] ku:=by
 refine F.gc ZV λb0 H vs Q E hr h=>?_;obtain⟨a,b,xs,c,z,rfl,e,i,G,I,J,L,q⟩:=h;have nd:=ZV.nd;refine aX 3 nd<|ZJ e G J (λR h=>U 0 h) (λR h=>U 2 h)<|aX 4 nd<|ZJ i I L (λR h=>U 1 h) (λR h=>U 2 h) ?_;refine bQ<|bb EG<|bb EG<|bb EG<|ZH e (λR h=>U 0 h) (λR h=>U 3 h) λj M=>?_;have k:=aM M<|Ls<|xs.take<|aN xs z;have p:(upd H j<|Ls<|xs.take<|aN xs z) j=some (Ls<|xs.take<|aN xs z):=ay;generalize upd H j (Ls<|xs.take<|aN xs z)=r at k p;refine ZI (k _ _ i) (λR h=>U 1 h) (λR h=>U 4 h) λs N=>?_;have t:=aM N<|Ls<|c.drop<|aN c z+1;refine QA (t _ _ p) ay (by simp only[Bm,Cy];lia) λl O=>?_;have u:(upd (upd r s<|Ls<|c.drop<|aN c z+1) l<|Ls<|xs.take (aN xs z)++c.drop (aN c z+1)) l=some (Ls<|xs.take (aN xs z)++c.drop (aN c z+1)):=ay;have m:=k.trans<|t.trans (aM O<|Ls<|xs.take (aN xs z)++c.drop (aN c z+1));generalize upd (upd r s<|Ls<|c.drop<|aN c z+1) l (Ls<|xs.take (aN xs z)++c.drop (aN c z+1))=v at m u;refine ZH (m _ _ i) (λR h=>U 1 h) (λR h=>U 4 h) λx Y=>?_;have y:=aM Y<|Ls<|c.take<|aN c z;refine QA (y _ _ u) ay (by simp only[Ah,Bm,Cy];lia) λn h5=>?_;have A:(upd (upd v x<|Ls<|c.take<|aN c z) n<|Ls<|xs.take (aN xs z)++c.drop (aN c z+1)++c.take (aN c z)) n=some (Ls<|xs.take (aN xs z)++c.drop (aN c z+1)++c.take (aN c z)):=ay;have d:=m.trans<|y.trans (aM h5<|Ls<|xs.take (aN xs z)++c.drop (aN c z+1)++c.take (aN c z));generalize upd (upd v x<|Ls<|c.take<|aN c z) n (Ls<|xs.take (aN xs z)++c.drop (aN c z+1)++c.take (aN c z))=H5 at d A;refine ZI (d _ _ e) (λR h=>U 0 h) (λR h=>U 3 h) λp6 h6=>?_;have o:=aM h6<|Ls<|xs.drop<|aN xs z+1;refine QA (o _ _ A) ay (by simp only[Ah,Bm,Cy];lia) λp7 B=>?_;refine q p7 _ (d.trans<|o.trans (aM B<|Ls<|xs.take (aN xs z)++c.drop (aN c z+1)++c.take (aN c z)++xs.drop (aN xs z+1))) (fI (d.trans o) B) ?_;rw[ay];unfold i6;rw[Ap<|xs.take<|aN xs z]
abbrev Q0:Ñ:=["rows","tie","holders","stays","goes","lists","both"]
abbrev vT:Ñ:=["rows","tie","holders","stays","goes","lists","both","point","ties"]
def tH:ak Q0 ["rows","tie"] (aW yY):=cg
def Jl:vT.Nodup:=by decide +kernel
def q2k(c:a.length<=900)(d:b.length<=900):(i6 a b z).length<=5000:=by
 unfold i6;simp only[Ah,Bm,Cy];lia
def q94(a:mY n z r0 r1)(c:n.length<=1000)(e:(ag n).length<=900):Sm (shr n z r0 r1):=by
 refine⟨Cd Qy c,λr b=>?_⟩;unfold shr iN at b;obtain⟨i,d,rfl⟩:=Ag.mp b;show(if i=r0 then i6 (row n r0) (row n r1) z else row n i).length<=5000;have f:=tF a.l0;have h:=tF a.l1;have j:=tF (Bg.mp (Ao.mp d).1)
 split
 ·exact q2k (by lia)<|by lia
 ·lia
def D4:((cX n z i).map<|aB n).length<=i:=by
 rw[Aa];unfold cX;exact Cd (Db ..)<|Cw▸(Aq _)
theorem Po(F:bA K "shrunk" "shrunk" yY f fd)(T:Txt mg)(cl:Cl K mg c)(GN:cV P w K mg base 2 "need_tie" ["rows","tie"]<|gE c)(GJ:aT P w K mg base 2 "joined" ["ties","others","tie"] ku):
  aG P w K mg base (XF P w) 3 f fd ["rows","tie"] (eF c iO):=by
 refine F.gx tH (λvs H Q E h=>?_) λb0 H vs Q I h=>?_
 ·obtain⟨R,as,n,z,rfl,_⟩:=h;rfl
 obtain⟨R,as,n,z,rfl,hR,hT,hN,yt,Ih,bT,qE,qQ⟩:=h;have hn:n.length<=1000:=by lia
 have q:(ag n).length<=900:=by lia
 have nd:=tH.nd;have bI:=hR.len;have hu:=I.u1;have mL:("Loop" : Str)∈cP:=by decide
 refine ik<|xr GN I PH<|ai<|U 0<|ai<|U 1<|aA ⟨R,as,n,z,rfl,hR,hn,q,bT,λhz=>qE _<|x0f hz,λhz H1 s1=>?_⟩;have o8:=hR.same s1;refine LN 2 (aW yY) Q0 vT 2 nd (gJ bB)<|U 0 ⟨R,rfl,⟨_,av.of o8.lst⟩,λD hD=>?_⟩;refine mI (xs:=as.map λa=>V.ref a.1) (λi b s=>(∃v1 v2,b=[some<|.ref R,some<|.str z,none,none,none,none,none]++[v1,v2])/\aj H1 s/\s D=some (Ls<|(cX n z i).map<|aB n)) ⟨⟨none,none,rfl⟩,aM hD _,ay⟩ ?_ ?_ ?_
 ·rintro i b s _ ⟨_,d,_⟩;exact av.of<|d _ _ o8.lst
 ·rintro i x b s J ⟨⟨v1,v2,rfl⟩,d,eD⟩;have L:i<n.length:=by
   have:=(Ad.mp J).1;rw[Aa]at this;lia
  obtain⟨a,N,cZ,et,O,er⟩:=(o8.same d).at L;rw[Aj,N]at J;cases J;rw[<-fG L]at et;intro o9 C' m o ex;refine iA rfl (aU.of et) (a9 7 Jl<|a9 8 Jl ?_);intro o9 C' m o ex;refine qu<|cA t8<|U 1<|U 8 ⟨a.2,_,rfl,.inl<|av.of O,rfl,qI _,_,rfl,?_⟩;rw[C Av,si,xB];refine jh (λk=>?_) λk=>⟨⟨_,_,rfl⟩,d,?_⟩
  ·intro o9 C' m o ex;have:=D4 (n:=n) (z:=z) (i:=i);refine U 7 ⟨_,eD,bR (by rw[Aa];lia),⟨_,_,rfl⟩,dR d hD,?_⟩;rw[Qv,BL<|BZ k,ay,Ai];show _=some (HO.lst<|List.map V.str<|_++_);rw[Ai];rfl
  ·rwa[Qv,C λy=>k<|BW y,Bd]
 rintro b H2 ⟨_,s2,eD⟩;rw[Aa,bI]at eD;have pV:=o8.same s2;have CO:=s1.trans s2;refine fk<|cA fQ<|cL eX T.len DP<|ai<|U 2<|aA ⟨D,_,rfl,.inl<|av.of eD,aF ⟨rfl,_,rfl,?_⟩⟩;rw[Aa,Aa]
 obtain⟨r,h1⟩|⟨u,v,h2⟩:=Jf hT hz
 ·rw[show cX n z n.length=[r]from h1];exact bK<|Pz PQ (cl.at' _ mL).1 (cl.at' _ mL).2.1 rfl (ai<|eI<|aA ⟨Z1,qE _ (xO h1) _ CO⟩)
 rw[show cX n z n.length=[u,v]from h2];rw[show cX n z n.length=[u,v]from h2]at eD;have A:=xE h2;refine bU<|a8<|yq<|U 2<|q47 rfl (av.of (xs:=[.str<|aB n u,.str<|aB n v]) eD) (a9 3 nd<|a9 4 nd ?_);have knd:=Rk bI hN;have vx:(d9 n as).length=n.length:=by have:=BX List.length<|Qz n as bI;simpa using this
 refine aX 5 nd (qt (V7 rfl) T.sj UG (ai (U 0 (aA ⟨R,as.map (·.1),d9 n as,rfl,?_,?_,?_,?_,λdl gK=>?_⟩))))
 ·rw[Bi];exact pV.lst
 ·rw[Aa,vx,bI]
 ·rw[Aa];exact bR<|by lia
 ·intro j t kv h1 h2;rw[Aj,Ba]at h1;obtain⟨a,N,rfl⟩:=h1;have hj:j<n.length:=by have:=(Ad.mp N).1;omega
  have e:=ZE (Ab hj) N;rw[h2]at e;cases e;exact(pV.tup j a n[j] N<|Ab hj).1
 rw[ZG (acc:=[]) (by rw[Ga];exact knd),Ga];have s3:=aM gK<|.dK<|d9 n as;have O:(upd H2 dl<|.dK<|d9 n as) dl=some (.dK<|d9 n as):=ay;generalize upd H2 dl (.dK<|d9 n as)=H3 at s3 O;have mK:=pV.same s3;obtain⟨a0,NX,_,zj,sP,W'⟩:=mK.at A.l0;obtain⟨a1,Ö,_,pR,Jm,Û⟩:=mK.at A.l1;have val:∀{r:Nat}{a:Addr×Addr}(I:r<n.length),as[r]?=some a->az (d9 n as) (Sum.inr<|aB n r)=some (.ref a.2):=λ{r a}I ha=>by
  have:=ZF knd<|ZE (Ab I) ha;rwa[fG I]
 have l0:=tF A.l0;have l1:=tF A.l1;refine aX 6 nd (bC GJ I<|ai<|i0 hu<|U 5<|U 3 ⟨dl,.ref a0.2,rfl,by rw[<-val A.l0 NX];exact bf.k (k:=Sum.inr<|aB n u) O,?_⟩);refine ai (i0 hu<|U 5<|U 4 ⟨dl,.ref a1.2,rfl,by rw[<-val A.l1 Ö];exact bf.k (k:=Sum.inr<|aB n v) O,?_⟩);refine ai (U 1<|aA ⟨a0.2,a1.2,_,_,z,rfl,sP,Jm,A.m0,A.m1,by omega,by omega,λY H4 s4 nb eb=>?_⟩);have xH:=CO.trans<|s3.trans s4;have oE:=hR.same xH;have Ø:H Y=none:=fI (CO.trans s3) nb;refine bQ<|kL (aW yY) Q0 vT 2 (gJ bB)<|U 0 ⟨R,rfl,⟨_,av.of oE.lst⟩,λM hM=>?_⟩;have Ù:=fI xH hM;have Ú:Y≠M:=bz eb hM;refine mI (xs:=as.map λa=>V.ref a.1) (λi b s=>(∃v1 v2,b=[some<|.ref R,some<|.str z,some<|.ref D,some<|.str<|aB n u,some<|.str<|aB n v,some<|.ref dl,some<|.ref Y]++[v1,v2])/\aj H4 s/\∃G,jW H s M G (iN n z u v i)/\∀a∈G,a.2=Y->u<i)
  ⟨⟨none,none,rfl⟩,aM hM _,[],jW.nil ay,λa h=>(by simp at h)⟩ ?_ ?_ ?_
 ·rintro i b s _ ⟨_,d,_⟩;exact av.of<|d _ _ oE.lst
 ·rintro i x b s J ⟨⟨v1,v2,rfl⟩,d,G,B,Q3⟩;have L:i<n.length:=by
   have:=(Ad.mp J).1;rw[Aa]at this;omega
  obtain⟨a,N,cZ,et,O,er⟩:=(oE.same d).at L;rw[Aj,N]at J;cases J;rw[<-fG L]at et;have bl:=B.rows.len;have kl:=Qy (n:=n) (z:=z) (r0:=u) (r1:=v) (k:=i);have ZW:=d _ _ eb;intro o9 C' m o ex;refine iA rfl (aU.of et) (a9 7 Jl<|a9 8 Jl ?_);intro o9 C' m o ex;refine qu<|cA tX<|U 7<|U 4 ⟨rfl,_,rfl,?_⟩
  by_cases c1:i=v
  ·subst c1;rw[BW (rfl:V.str (aB n i)=V.str (aB n i))];refine bU ⟨⟨_,_,rfl⟩,d,G,?_,λa ha e=>Bz<|Q3 a ha e⟩;rwa[ZC,BL rfl,Bd]
  rw[BR λk:V.str (aB n i)=V.str (aB n v)=>c1<|w6 hN L A.l1<|V.str.inj k];rw[ZC,C c1];refine bK ?_;intro o9 C' m o ex;refine dk<|ai<|U 7<|ai<|Uy<|cA fQ<|U 7<|U 3 ⟨rfl,_,rfl,?_⟩
  by_cases c0:i=u
  ·subst c0;rw[BW (rfl:V.str (aB n i)=V.str (aB n i))];refine bK<|U 6<|aA ⟨Z2,λt q=>⟨G.map λa=>V.ref a.1,?_,?_,⟨_,_,rfl⟩,?_,G++[(t,Y)],?_,λa ha e=>Gh _⟩⟩
   ·rw[ax λe=>by rw[<-e,B.rows.lst]at q;cases q];exact B.rows.lst
   ·rw[Aa];exact bR<|by omega
   ·exact dR (d.trans<|aM q _) hM
   ·have:=B.add (p:=aB n i) (l:=Y) (t:=t) (zs:=i6 (row n i) (row n v) z) ZW Ø (λk=>by
     obtain⟨a',jP,e'⟩:=Ag.mp k;exact absurd (Q3 a' jP e')<|Dl _) Ú q<|fI (xH.trans d) q
    unfold iM;rwa[BL rfl]
  ·rw[BR λk:V.str (aB n i)=V.str (aB n u)=>c0<|w6 hN L A.l0<|V.str.inj k];refine bU<|qt T8 T.nY LK<|ai<|U 8<|aA ⟨a.2,_,rfl,.inl<|av.of O,λl hl=>aA ⟨Z2,λt q=>?_⟩⟩;have s5:=aM hl<|Ls<|row n i;have Q4:=B.same s5;have jJ:=fI (xH.trans d) hl;refine⟨G.map λa=>V.ref a.1,?_,?_,⟨_,_,rfl⟩,?_,G++[(t,l)],?_,λa ha e=>?_⟩
   ·rw[ax λe=>by rw[<-e,Q4.rows.lst]at q;cases q];exact Q4.rows.lst
   ·rw[Aa];exact bR<|by omega
   ·exact dR (d.trans<|s5.trans<|aM q _) hM
   ·have:=Q4.add (p:=aB n i) (l:=l) (t:=t) (zs:=row n i) ay jJ (λk=>by
     obtain⟨a',jP,e'⟩:=Ag.mp k;have:=(B.iP jP).2;rw[e',hl]at this;exact this rfl) (λe=>by rw[e,B.rows.lst]at hl;cases hl) q<|fI (xH.trans<|d.trans s5) q
    unfold iM;rwa[C c0]
   ·obtain k|k:=Al.mp ha
    ·exact Bz<|Q3 a k e
    ·rw[Ae.mp k]at e;have e:l=Y:=e;rw[e,ZW]at hl;cases hl
 ·rintro b s ⟨_,d,G,B,_⟩;rw[Aa,bI]at B;have:=Qy (n:=n) (z:=z) (r0:=u) (r1:=v) (k:=n.length);exact qQ _ (ZD h2) M G s (xH.trans d) Ù B.new B.rows<|q94 A hn q
open PyProof.Rows (sortedS)
open Classical
def Z9(lf:List Nat)(h:Nat):(((lf++[h]).map λ(r:Nat)=>V.int (r:Int))[((lf++[h]).map λ(r:Nat)=>V.int (r:Int)).length-1]?=some (.int (h:Int)))/\((lf++[h]).map λ(r:Nat)=>V.int (r:Int)).dropLast=lf.map λ(r:Nat)=>V.int (r:Int):=by
 rw[Ai]
 constructor
 ·simp
 ·grind
def P2(c:r<n.length)(d:(row n r)[p]?=some z)(h:bq (bg (n.take r)++bh r ((row n r).take p) 0) y≠[]):y∈ag n:=by
 obtain⟨b,e⟩:=vi c d;unfold bq at h;obtain⟨x,f⟩:=Dy _ h;obtain⟨⟨i,j⟩,a,_⟩:=Ag.mp f;rw[Ao,CP]at a;obtain⟨a,rfl⟩:=a;have:(i,j)∈bg n:=e▸(As _ a)
 exact dP<|aY.mp this
abbrev Y5:Ñ:=["_law_rows","_law_found","_law_point","_law_row","_law_tie"]
def CU:ak Y5 ["_law_rows"] (aW Nc):=cg
def tv{kvs:List (Key×V)}(h:kvs.map (·.1)=zs.map Sum.inr)(z:Str)(v:V):(putK kvs (Sum.inr z) v).map (·.1)=(added zs z).map Sum.inr:=by
 rw[sK,h];unfold added
 by_cases q:z∈zs
 ·grind
 ·grind
theorem iv(F:bA K "_law_ties" "_law_ties" Nc f fd)(T:Txt mg):aG P w K mg base bF 1 f fd ["_law_rows"] mj:=by
 refine F.gc CU λb0 H vs Q E hr h=>?_;obtain⟨R,as,n,rfl,u,hn,ht,bT,q⟩:=h;have nd:=CU.nd;have bI:=u.len;have hu:=hr.u1;refine aX 1 nd<|yK λd hd=>?_;have s0:=aM hd<|.dK [];have vP:∀r,r<n.length->∀z,z∈ag (n.take r)\/z∈row n r->z∈ag n:=λr pN z I=>by
  rw[Qw,CD pN]
  obtain h|h:=I<;>simp[h]
 refine jH (U 0 ⟨R,rfl,⟨_,av.of<|s0 _ _ u.lst⟩,jI (xs:=as.map λa=>V.ref a.1) (λr c i=>(∃J L v4,c=[some<|.ref R,some<|.ref d,J,L,v4])/\∃kvs zs,aj H i/\i d=some (.dK kvs)/\kvs.map (·.1)=zs.map Sum.inr/\zs.Nodup/\∀z,z∈zs↔z∈ag (n.take r)) ⟨⟨none,none,none,rfl⟩,[],[],s0,ay,rfl,Co,λz=>VG⟩ ?_ ?_ ?_⟩)
 ·rintro r c i _ ⟨_,_,_,e,_⟩;exact av.of<|e _ _ u.lst
 ·rintro r x c i j ⟨⟨J,L,v4,rfl⟩,kvs,zs,e,v,M,A,m⟩;have N:r<n.length:=by
   have:=(Ad.mp j).1;rw[Aa]at this;omega
  obtain⟨a,ea,cZ,et,O,er⟩:=(u.same e).at N;rw[Aj,ea]at j;cases j;refine iA rfl (aU.of et) (a9 2 nd<|a9 3 nd ?_);have Qr:a.2≠d:=cm O v λz=>nomatch z;refine jH (U 3 ⟨a.2,rfl,⟨_,av.of O⟩,jI (xs:=(row n r).map V.str) (λp c s=>(∃v4,c=[some<|.ref R,some<|.ref d,some<|.str n[r].1,some<|.ref a.2,v4])/\∃(kvs:List<|Key×V)(zs:Ñ),(∀b o,b≠d->i b=some o->s b=some o)/\s d=some (.dK kvs)/\kvs.map (·.1)=zs.map Sum.inr/\zs.Nodup/\∀z,z∈zs↔z∈ag (n.take r)\/z∈(row n r).take p) ⟨⟨_,rfl⟩,kvs,zs,λb o _ h=>h,v,M,A,λz=>by rw[m z];simp⟩ ?_ ?_ ?_⟩)
  ·rintro p c s _ ⟨_,_,_,t,_⟩;exact av.of<|t _ _ Qr O
  ·rintro p x c s j ⟨⟨v4,rfl⟩,kvs,zs,t,Y,B,D,G⟩;rw[Aj,Ba]at j;obtain⟨z,I,rfl⟩:=j;have hl:zs.length<64:=bT zs D λy hy=>vP r N y<|((G y).mp hy).imp id λh=>List.mem_of_mem_take h;have lk:kvs.length=zs.length:=by have:=BX List.length B;simpa using this
   refine a9 4 nd ?_;refine qF hu (uh<|U 1<|U 4 ⟨d,_,rfl,bO.k (k:=Sum.inr z) Y (bR<|by omega),a8 ⟨⟨_,rfl⟩,_,added zs z,λb o hb h=>by rw[ax hb];exact t b o hb h,ay,tv B z _,Zr D,λy=>?_⟩⟩);rw[Zt,G y,Ck,I,or_assoc];simp
  ·rintro c s ⟨⟨v4,rfl⟩,kvs,zs,t,Y,B,D,G⟩;refine a8 ⟨⟨_,_,_,rfl⟩,kvs,zs,λb o h=>t b o (bz h hd)<|e _ _ h,Y,B,D,λz=>?_⟩;rw[G z,Aa,Bn,CD N,Al]
 ·rintro c i ⟨⟨J,L,v4,rfl⟩,kvs,zs,e,v,M,A,m⟩;rw[Aa,bI,Bn]at m;refine bQ<|cL Mq T.sorted EY<|ai<|qt (hY rfl) T.nY LK<|ai<|U 1<|aA ⟨d,kvs,rfl,.inl v,λl hl=>?_⟩;have Ö:(kvs.map λp=>kV p.1)=zs.map V.str:=by
   rw[show(kvs.map λp=>kV p.1)=(kvs.map (·.1)).map kV by rw[Bi];rfl,M,Bi];rfl
  rw[Ö];have s2:=aM hl<|.lst<|zs.map V.str;refine aA ⟨l,zs,rfl,av.of ay,bT zs A λy hy=>(m y).mp hy,λl2 ss j3 hp hs=>?_⟩;exact q l2 ss _ (e.trans<|s2.trans (aM j3<|.lst<|ss.map V.str)) (fI (e.trans s2) j3) ay (hp.nodup_iff.mpr A) hs λz=>by rw[hp.mem_iff,m z]
abbrev Mb:Ñ:=["_law_rows","_law_at","_law_r","_law_tie","_law_met","_law_left","_law_there"]
def CY:ak Mb ["_law_rows"] (aW Nf):=cg
theorem yQ(F:bA K "_law_hangs" "_law_hangs" Nf f fd)(T:Txt mg):aG P w K mg base bF 1 f fd ["_law_rows"] mD:=by
 refine F.gc CY λb0 H vs Q E hr h=>?_;obtain⟨R,as,n,rfl,Y,hT,hN,h0,hn,gY,q⟩:=h;have nd:=CY.nd;have bI:=Y.len;have fv:=hr.u1;refine aX 1 nd<|yK λG xI=>?_;refine nF T.range (cL eX T.len DP<|ai<|U 0<|aA ⟨R,_,rfl,.inl<|av.of<|aM xI _ _ _ Y.lst,_,rfl,by omega,by rw[Aa];omega,?_⟩);rw[Aa,bI,Bt];refine nG (λr o O=>∃kvs B u2 t,oZ H O G (bg<|n.take r) kvs B/\o=[some<|.ref R,some<|.ref G,u2,t,none,none,none]) ⟨_,_,_,_,oZ.start xI,rfl⟩ ?_ ?_
 ·rintro r o O hi ⟨kvs,B,u2,t,S,rfl⟩;rw[Ed];refine a9 2 nd ?_;obtain⟨a,ea,cZ,et,el,er⟩:=(Y.same S.same).at hi;have sP:=(Y.tup r a n[r] ea<|Ab hi).2;rw[<-er]at sP;refine jH<|bn cw<|bn dZ<|U 0<|U 2 ⟨R,_,_,.ref a.1,rfl,rfl,av.of<|S.same _ _ Y.lst,cZ,aF ⟨a.1,_,_,.ref a.2,rfl,rfl,aU.of et,rfl,a.2,rfl,⟨_,av.of el⟩,?_⟩⟩;refine jI (xs:=(row n r).map V.str) (λp o H4=>∃kvs B t,oZ H H4 G (bg (n.take r)++bh r ((row n r).take p) 0) kvs B/\o=[some<|.ref R,some<|.ref G,some<|.int (r:Int),t,none,none,none]) ⟨kvs,B,_,by simpa[bh]using S,rfl⟩ ?_ ?_ ?_
  ·rintro p o H4 _ ⟨kvs,B,t,S,rfl⟩;exact av.of<|S.same _ _ sP
  ·rintro p x o H4 s ⟨kvs,B,t,S,rfl⟩;rw[Aj,Ba]at s;obtain⟨z,u,rfl⟩:=s;have next:bg (n.take r)++bh r ((row n r).take<|p+1) 0=(bg (n.take r)++bh r ((row n r).take p) 0)++[(z,(r,p))]:=by
    rw[qH u,Ap]
   have hk:kvs.length<sizeLine:=by
    have h1:B.length<=60:=Cd (aK (b:=ag n) S.eZ λy hy=>P2 hi u<|(S.mem y).mp hy) gY;have h2:=BX List.length S.keys;rw[Aa,Aa]at h2;exact bR<|by omega
   have Ie:=Yh hT hi u;refine a9 3 nd<|ik<|mH<|FO RV QF QG Vv<|U 1 ⟨Wr S.dict,U 3<|eQ<|aA ⟨Z0,λl0 jJ=>?_⟩⟩;have gK:G≠l0:=bz S.dict jJ;refine⟨G,kvs,Sum.inr z,.ref l0,rfl,rfl,by rw[ax gK];exact S.dict,hk,?_⟩
   by_cases Jo:bq (bg (n.take r)++bh r ((row n r).take p) 0) z=[]
   ·refine .inr ⟨S.o6 z Jo,l0,rfl,⟨_,by rw[ax gK.symm];exact ay⟩,?_⟩;refine U 2 ⟨[],by rw[ax gK.symm,ay],by show 0<sizeLine;decide,?_⟩;refine a8 ⟨putK kvs (Sum.inr z)<|.ref l0,B++[z],_,?_,rfl⟩;rw[next];exact S.new (e:=(r,p)) Jo jJ
   ·obtain⟨a2,w1,w2,w3,w4⟩:=S.mw z Jo;have uF:a2≠l0:=bz w2 jJ;refine .inl ⟨.ref a2,w1,a2,rfl,⟨_,by rwa[ax uF]⟩,?_⟩;refine U 2 ⟨_,by rwa[ax uF],?_,?_⟩
    ·rw[Aa,Aa];exact bR<|by omega
    ·refine a8 ⟨kvs,B,_,?_,rfl⟩;rw[next];have:=S.old (e:=(r,p)) Jo w1 jJ;unfold Lr at this;rwa[Ai]at this
  ·rintro o H4 ⟨kvs,B,t,S,rfl⟩;refine a8 ⟨kvs,B,_,_,?_,rfl⟩;rw[sg hi];rwa[Aa,Bn]at S
 ·rintro o D ⟨Ö,Û,u2,t,S,rfl⟩;rw[Bn]at S;have s1:=S.same;have Ø:∀z∈ag n,∃la,az Ö (Sum.inr z)=some (.ref la)/\D la=some (Lr ((pos n z).map (·.1))):=λz u=>by
   obtain⟨la,w1,w2,_⟩:=S.mw z λk=>by
    have:=qG n z;rw[hT z u]at this;rw[show pos n z=bq (bg n) z from rfl,k]at this;cases this
   exact⟨la,w1,w2⟩
  refine aX 4 nd<|Yk fv λd hd=>aF<|uh ⟨_,bO.k (k:=Sum.inl 0) ay<|bR<|By _,?_⟩;rw[pY];refine aX 5 nd<|eQ<|ai<|aF<|aA ⟨Z1,λM hM=>?_⟩;have jT:M≠d:=λe=>by rw[e,ay]at hM;cases hM
  have ZX:D M=none:=by rwa[ax jT]at hM
  have s0:aj D (upd (upd D d<|.dK<|putK [] (Sum.inl 0)<|.bl true) M<|.lst [.int 0]):=(aM hd _).trans<|aM hM _;have tj:(upd (upd D d<|.dK<|putK [] (Sum.inl 0)<|.bl true) M<|.lst [.int 0]) d=some (.dK<|putK [] (Sum.inl 0)<|.bl true):=by rw[ax<|CG jT,ay]
  have tu:(upd (upd D d<|.dK<|putK [] (Sum.inl 0)<|.bl true) M<|.lst [.int 0]) M=some (Lr [0]):=ay;generalize upd (upd D d<|.dK<|putK [] (Sum.inl 0)<|.bl true) M (.lst [.int 0])=H0 at s0 tj tu;refine uC (λm o A=>m<=1000/\E4 λ(kvs:List<|Key×V)(lf:List Nat)(t J:Option V)=>A6 (aj D A) (A d=some (.dK kvs)) (A M=some (Lr lf)) (dU n (ag n) none kvs lf) (m=2*(n.length-kvs.length)+lf.length)<|o=[some<|.ref R,some<|.ref G,u2,t,some<|.ref d,some<|.ref M,J]) (m0:=2*(n.length-1)+1) ⟨by omega,_,[0],_,_,s0,tj,tu,dU.start h0,rfl,rfl⟩ ?_;rintro m o H2 ⟨hm,kvs,lf,t,J,s2,mr,pX,I,em,rfl⟩;refine cA (yI hr.j6)<|U 5<|eQ<|aA ⟨Z0,λpe OS=>?_⟩;have se:=aM OS<|.lst [];have s2:=s2.trans se;have mr:=se _ _ mr;have pX:=se _ _ pX;have Q5:(upd H2 pe<|.lst []) pe=some (.lst []):=ay;generalize upd H2 pe (.lst [])=O at s2 mr pX Q5 ⊢
  obtain e|⟨L,c,e⟩:=VL lf
  ·subst e;refine⟨1,_,by decide,Mr (k:=0) (xs:=[]) (ys:=[]) (λ_=>true) (av.of pX) (av.of Q5) rfl (λj x y s _=>by simp at s),_,rfl,bU ?_⟩;refine bQ<|qp fQ<|cL Uo T.len DP<|ai<|U 4<|aA ⟨d,kvs,rfl,mr,cL eX T.len DP<|ai<|U 0<|aA ⟨R,_,rfl,.inl<|av.of<|(s1.trans s2) _ _ Y.lst,rfl,?_⟩⟩;rw[Aa,bI];have e:decide (V.int (kvs.length:Int)=V.int (n.length:Int))=decide (mZ n):=by
    rw[decide_eq_decide];refine Iff.trans ?_<|I.whole hT h0 hN
    constructor
    ·intro h;have h:=V.int.inj h;lia
    ·intro h;rw[h]
   rw[e];exact q O<|s1.trans s2
  rw[VN]at e;subst e;have lw:(L++[c]).length=L.length+1:=by rw[Ah];rfl
  refine⟨1,_,by decide,Mt (k:=1) (av.of pX) (av.of (xs:=[]) Q5) (by rw[Aa,lw];exact Nat.succ_ne_zero _),_,rfl,bK ?_⟩;obtain⟨hy,gK⟩:=Z9 L c;have I1:=I.pop;rw[lw]at em;have Ù:=I1.lt<|I1.qP c 0 rfl;have o8:=Y.same s1;obtain⟨a,ea,cZ,pR,Jm,er⟩:=o8.at Ù;have sA:aj D (upd O M<|Lr L):=dR s2 ZX;have C0:(upd O M<|Lr L) d=some (.dK kvs):=by rwa[ax<|CG jT]
  have ZY:(upd O M<|Lr L) M=some (Lr L):=ay;refine jH<|bn cw<|bn dZ<|U 0<|Vt DG MP NK Uc<|U 5 (v:= .ref M) ⟨Or.inl ⟨rfl,_,av.of pX⟩,M,_,.int (c:Int),rfl,rfl,pX,hy,?_⟩;rw[gK];generalize upd O M (Lr L)=HA at sA C0 ZY;refine⟨R,_,_,.ref a.1,rfl,rfl,av.of<|sA _ _ o8.lst,cZ,aF ⟨a.1,_,_,.ref a.2,rfl,rfl,aU.of<|sA _ _ pR,rfl,a.2,rfl,⟨_,av.of<|sA _ _ Jm⟩,?_⟩⟩;refine jI (xs:=(row n c).map V.str) (λi o A=>E4 λ(kvs:List<|Key×V)(lf:List Nat)(t J:Option V)=>A6 (aj D A) (A d=some (.dK kvs)) (A M=some (Lr lf)) (dU n (ag n) (some (c,i)) kvs lf) (2*(n.length-kvs.length)+lf.length<m)<|o=[some<|.ref R,some<|.ref G,u2,t,some<|.ref d,some<|.ref M,J]) ⟨kvs,L,_,_,sA,C0,ZY,I1,by lia,rfl⟩ ?_ ?_ ?_
  ·rintro i o A _ ⟨_,_,_,_,sm,_⟩;exact av.of<|sm _ _ Jm
  ·rintro i x o HB s ⟨kvs,lf,t,J,sB,N,eM,I,aZ,rfl⟩;rw[Aj,Ba]at s;obtain⟨z,u,rfl⟩:=s;have u:aH n (c,i)=some z:=u;have iJ:=dP u;obtain⟨la,w1,w2⟩:=Ø z iJ;obtain⟨pa,pb,hp,g6,rX⟩:=sf hT u;have vU:(pos n z).map (·.1)=[c,(other n (c,i)).1]\/(pos n z).map (·.1)=[(other n (c,i)).1,c]:=by
    obtain k|k:=rX
    ·left
     rw[hp,show other n (c,i)=pb from ?_,<-k]
     ·rfl
     ·unfold other;rw[u];simp only[hp];rw[k];simp
    ·right
     rw[hp,show other n (c,i)=pa from ?_,<-k]
     ·rfl
     ·unfold other;rw[u];simp only[hp];rw[k];simp[CG g6,g6]
   generalize hl:(pos n z).map (·.1)=l at w2 vU;have ml:∀x∈l,x=c\/x=(other n (c,i)).1:=λx s=>by
    obtain k|k:=vU<;>(rw[k]at s;simp at s;lia)
   have mo:(other n (c,i)).1∈l:=by obtain k|k:=vU<;>(rw[k];simp)
   refine a9 3 nd ?_;refine jH (i0 fv<|U 1<|U 3 ⟨G,.ref la,rfl,by rw[<-w1];exact bf.k (k:=Sum.inr z)<|sB _ _ S.dict,la,rfl,⟨_,av.of<|sB _ _ w2⟩,?_⟩);refine jI (xs:=l.map λ(r:Nat)=>V.int (r:Int)) (λj o A=>E3 λ(kvs:List<|Key×V)(lf:List Nat)(J:Option V)=>A7 (aj D A) (A d=some (.dK kvs)) (A M=some (Lr lf)) (dU n (ag n) (some (c,i)) kvs lf) ((other n (c,i)).1∈l.take j->cQ kvs (other n (c,i)).1) (2*(n.length-kvs.length)+lf.length<m)<|o=[some<|.ref R,some<|.ref G,u2,some<|.str z,some<|.ref d,some<|.ref M,J]) ⟨kvs,lf,_,sB,N,eM,I,λh=>(by simp at h),aZ,rfl⟩ ?_ ?_ ?_
   ·rintro j o A _ ⟨_,_,_,sm,_⟩;exact av.of<|sm _ _ w2
   ·rintro j x o HC s ⟨kvs,lf,J,sC,N,eM,I,ho,aZ,rfl⟩;rw[Aj,Ba]at s;obtain⟨x,s,rfl⟩:=s;have tk:l.take (j+1)=l.take j++[x]:=by rw[Ck,s];rfl
    refine a9 6 nd ?_;refine fk<|wJ fv<|U 6<|U 4 ⟨d,_,rfl,bf.k (k:=Sum.inl (x:Int)) N,?_⟩;cases hg:az kvs (Sum.inl (x:Int)) with
    |some v=>
     refine bU<|a8<|a8 ⟨kvs,lf,_,sC,N,eM,I,λh=>?_,aZ,rfl⟩;rw[tk]at h
     obtain k|k:=Al.mp h
     ·exact ho k
     ·rw[Ae.mp k];rwa[(I.val x v hg).1]at hg
    |none=>
     have Ú:x=(other n (c,i)).1:=by
      obtain k|k:=ml x (An s)
      ·have:=I.qP c i rfl;rw[k]at hg;exact absurd (hg.symm.trans this)<|by simp
      ·exact k
     subst Ú;refine bK ?_;have I':=I.new hT u iJ hg;have lk:=I.len;have Qu:=I'.len;have qJ:(putK kvs (Sum.inl ((other n (c,i)).1:Int))<|.bl true).length=kvs.length+1:=by
      have:=BX List.length<|sK kvs (Sum.inl ((other n (c,i)).1:Int))<|.bl true;rwa[C<|Ny hg,Ah,Aa,Aa]at this
     refine qF fv (uh<|U 4<|U 6 ⟨d,_,rfl,bO.k (k:=Sum.inl ((other n (c,i)).1:Int)) N (bR<|by lia),?_⟩);have CB:(upd HC d<|.dK<|putK kvs (Sum.inl ((other n (c,i)).1:Int))<|.bl true) M=some (Lr lf):=by rwa[ax jT]
     refine ik (mH<|U 5 ⟨M,rfl,⟨_,CB⟩,U 6 ⟨_,CB,by rw[Aa];exact bR (by lia),?_⟩⟩);refine a8<|a8 ⟨_,lf++[(other n (c,i)).1],_,dR (dR sC hd) ZX,?_,?_,I'.back,λ_=>?_,?_,rfl⟩
     ·rw[ax<|CG jT];exact ay
     ·rw[ay];show some (HO.lst<|(lf.map λ(r:Nat)=>V.int (r:Int))++[.int ((other n (c,i)).1:Int)])=some (HO.lst<|(lf++[(other n (c,i)).1]).map λ(r:Nat)=>V.int (r:Int));rw[Ai];rfl
     ·show az _ _=_;rw[cR,BL rfl]
     ·rw[qJ,Ah];rw[qJ]at Qu;show _+(lf.length+1)<m;lia
   ·rintro o HC ⟨kvs,lf,J,sC,N,eM,I,ho,aZ,rfl⟩;rw[Aa,Bn]at ho;exact a8 ⟨kvs,lf,_,_,sC,N,eM,I.step u λ_=>ho mo,aZ,rfl⟩
  ·rintro o HB ⟨kvs,lf,t,J,sB,N,eM,I,aZ,rfl⟩;rw[Aa]at I;exact a8 ⟨_,aZ,by lia,kvs,lf,_,_,sB,N,eM,I.close<|Aq _,rfl,rfl⟩
end
end G8
namespace Dt
variable{κ:Type}
section
variable(l:κ->κ->Int)
variable{l}
end
variable{κ:Type}
section
variable [DecidableEq κ] {a b:κ}
end
section
variable [DecidableEq κ]
end
variable{κ:Type} [DecidableEq κ]
section
variable{κ:Type}
end
variable{κ:Type} [DecidableEq κ]
end Dt
namespace Nt
open PySem L2
theorem Q6:∀{l:List α},l.Nodup->∀{i j:Nat}{x:α},l[i]?=some x->l[j]?=some x->i=j
 |[],_,i,j,x,h,_=>by simp at h
 |a :: l,e,i,j,x,b,c=>by
  obtain⟨d,f⟩:=Bb.mp e;cases i with
  |zero=>
   cases j with
   |zero=>rfl
   |succ j=>
    cases b;rw[Eh]at c;exact absurd (An c) d
  |succ i=>
   cases j with
   |zero=>
    cases c;rw[Eh]at b;exact absurd (An b) d
   |succ j=>
    rw[Eh]at b c;rw[Q6 f b c]
def rn(n:bc)(p:Str):Nat:=(n.map (·.1)).idxOf p
def x5k(h:p∈n.map (·.1)):rn n p<n.length/\(n.map (·.1))[rn n p]?=some p:=by
 have a:rn n p<(n.map (·.1)).length:=List.idxOf_lt_length_iff.mpr h;refine⟨by rwa[Aa]at a,?_⟩;rw[Ab a]
 congr 1
 exact List.getElem_idxOf a
def pu(a:(n.map (·.1)).Nodup){r:Nat}(h:r<n.length):rn n (aB n r)=r:=by
 have e:(n.map (·.1))[r]?=some (aB n r):=by rw[Aj,Ab h,fG h];rfl
 exact Q6 a (x5k<|An e).2 e
def Jp(h:e∈pos n z):e.1<n.length/\z∈row n e.1:=by
 have h:=aJ.mp h;unfold aH at h;have a:=An h;refine⟨?_,a⟩
 by_cases b:e.1<n.length
 ·exact b
 ·unfold row at a;rw[Bh<|by lia]at a;cases a
def jD(n:bc)(z:Str):Nat×Nat:=match pos n z with
 |[a,b]=>(a.1,b.1)
 |_=>(0,0)
def ZZ(h:pos n z=[a,b]):jD n z=(a.1,b.1):=by
 unfold jD;rw[h]
theorem Z4(T:ao n)(h:z∈ag n):∃a b,pos n z=[a,b]:=by
 have:=qG n z;rw[T z h]at this
 match c:pos n z,this with
 |[a,b],_=>exact⟨a,b,rfl⟩
def Q7(T:ao n)(h:z∈ag n):(jD n z).1<n.length/\(jD n z).2<n.length:=by
 obtain⟨a,b,c⟩:=Z4 T h;rw[ZZ c];exact⟨(Jp (e:=a)<|by rw[c];simp).1,(Jp<|by rw[c];simp).1⟩
end Nt
namespace Dt
end Dt
namespace Nt
open PySem L2
theorem Z5(z:Str)(k:Nat):∀m j,k<j->(bq (eR j m) z).filter (λe=>decide (e.1=k+0))=[]
 |[],j,_=>rfl
 |y :: m,j,b=>by
  have e:eR j (y :: m)=bh j y.2 0++eR (j+1) m:=rfl;rw[e,ND,Cf,Z5 z k m (j+1) (by lia),Bd];exact El.mpr λe a q=>by
   have:=zi a;have:=BZ q;lia
theorem Z6(z:Str):∀m k r,((bq (eR k m) z).filter λe=>decide (e.1=k+r)).length=(row m r).count z
 |[],k,r=>by
  unfold row;rfl
 |x :: m,k,r=>by
  have e:eR k (x :: m)=bh k x.2 0++eR (k+1) m:=rfl;rw[e,ND,Cf,Ah];cases r with
  |zero=>
   have a:(bq (bh k x.2 0) z).filter (λe=>decide (e.1=k+0))=bq (bh k x.2 0) z:=Fc.mpr λe b=>BW<|zi b;rw[a,Z5 z k m (k+1) (by lia),NA];rfl
  |succ r=>
   have a:(bq (bh k x.2 0) z).filter (λe=>decide (e.1=k+(r+1)))=[]:=El.mpr λe b q=>by
    have:=zi b;have:=BZ q;lia
   have c:=Z6 z m (k+1) r;rw[show k+1+r=k+(r+1) by lia]at c;rw[a,c];show 0+_=(row m r).count z;lia
def Q8(n:bc)(z:Str)(p:Nat×Nat):Prop:=∀r,(row n r).count z=(if r=p.1 then 1 else 0)+(if r=p.2 then 1 else 0)
def Jq(T:ao n)(d:z∈ag n):Q8 n z (jD n z):=λr=>by
 obtain⟨a,b,c⟩:=Z4 T d;have:=Z6 z n 0 r;rw[show bq (eR 0 n) z=pos n z from rfl,c]at this;rw[<-this,ZZ c];simp only[Cn,List.filter_nil,Es]
 by_cases e:a.1=r<;>by_cases f:b.1=r<;>simp[e,f,@eq_comm Nat r]
def pg:w∈ag (bd n z)↔w∈ag n/\w≠z:=by
 rw[QN,Ao,CP]
def C1(h:d8 n z=[r0,r1]):r0<r1:=by
 have p:(d8 n z).Pairwise (· < ·):=List.Pairwise.filter _ List.pairwise_lt_range;rw[h]at p;exact(Cz.mp p).1 r1<|Ae.mpr rfl
def Jr(h:z∈a)(i:z∈b):(i6 a b z).count w+(if w=z then 2 else 0)=a.count w+b.count w:=by
 have q:∀{l:Ñ},z∈l->(l.take<|aN l z).count w+(l.drop<|aN l z+1).count w+(if w=z then 1 else 0)=l.count w:=λ{l}j=>by
  obtain⟨m,_⟩:=Qx j;obtain⟨n,e⟩:=Ad.mp m;have s:l=l.take (aN l z)++l[aN l z]:: l.drop (aN l z+1):=by rw[<-Gj n,Da]
  rw[e]at s;have c:=BX (List.count w) s;rw[Dw,Dj]at c
  by_cases k:w=z
  ·grind
  ·grind
 have d:=q h;have f:=q i;unfold i6;simp only[Dw]
 by_cases k:w=z
 ·rw[BL k]at d f ⊢;lia
 ·rw[C k]at d f ⊢;lia
def Q9(a:mY n z r0 r1)(i:Nat):(shr n z r0 r1)[i]?=if i<n.length-1 then some (iM n z r0 r1 (if i<r1 then i else i+1))else none:=by
 have b:=a.l1;have e:(range n.length).filter (λr=>decide (r≠r1))=(range n.length).eraseIdx r1:=by
  rw[show(range n.length).filter (λr=>decide (r≠r1))=(range n.length).filter (λx=>x != r1) by
   refine Gw λx _=>?_
   by_cases k:x=r1<;>simp[k],<-((Fi (n:=n.length)).erase_eq_filter r1),List.erase_eq_eraseIdx]
  have:List.idxOf? r1 (range n.length)=some r1:=by
   rw[List.idxOf?_eq_some_iff];refine⟨by rwa[Cw],by simp,λj c=>by simp;lia⟩
  rw[this]
 show(((range n.length).filter λr=>decide (r≠r1)).map<|iM n z r0 r1)[i]?=_;rw[e,Aj,Fy]
 by_cases d:i<r1
 ·grind
 ·grind
def C2(a:mY n z r0 r1):(shr n z r0 r1).length=n.length-1:=by
 have h:=Q9 a;refine TQ ?_ ?_
 ·refine RK λk=>?_;have:=h<|n.length-1;rw[C (by lia),List.getElem?_eq_none_iff]at this;lia
 ·grind
def Ra(a:mY n z r0 r1)(i:Nat):row (shr n z r0 r1) i=if i<n.length-1 then(if(if i<r1 then i else i+1)=r0 then i6 (row n r0) (row n r1) z else row n (if i<r1 then i else i+1))else []:=by
 unfold row;rw[Q9 a]
 by_cases h:i<n.length-1
 ·rw[BL h,BL h];rfl
 ·rw[C h,C h];rfl
def YO(h:n.length<=i):row n i=[]:=by
 unfold row;rw[Bh h];rfl
def dn(r0 r1 r:Nat):Nat:=if r=r1 then r0 else if r1<r then r-1 else r
def Z7(e:mY n z r0 r1)(lt:r0<r1)(l:w≠z)(b:Q8 n w p):Q8 (shr n z r0 r1) w (dn r0 r1 p.1,dn r0 r1 p.2):=λi=>by
 have s:=e.l1;have c:∀r,n.length<=r->(row n r).count w=0:=λr m=>by rw[YO m];rfl
 have j:=Jr (w:=w) e.m0 e.m1;rw[C l]at j;rw[Ra e];have t:=Nat.lt_of_not_le λk=>by
  have:=b p.1;rw[c _ k,BL rfl]at this;lia
 have u:p.2<n.length:=Nat.lt_of_not_le λk=>by
  have:=b p.2;rw[c _ k,BL rfl]at this;lia
 have v:=b r0;have y:=b r1;show _=(if i=dn r0 r1 p.1 then 1 else 0)+(if i=dn r0 r1 p.2 then 1 else 0);have d:∀x,(if i=dn r0 r1 x then(1:Nat)else 0)=if i<r1 then(if i=r0 then(if r0=x then 1 else 0)+(if r1=x then 1 else 0)else if i=x then 1 else 0)else if i+1=x then 1 else 0:=λx=>by
  unfold dn
  by_cases f:i<r1<;>by_cases a:i=r0<;>by_cases o:x=r1<;>by_cases q:r1<x<;>simp only[f,a,o,q,DQ,CW]<;>(repeat' split)<;>lia
 rw[d,d]
 by_cases h:i<n.length-1
 ·rw[BL h]
  by_cases f:i<r1
  ·simp only[f,DQ]
   by_cases a:i=r0
   ·rw[BL a,BL a,BL a];lia
   ·rw[C a,C a,C a];exact b i
  ·simp only[f,CW];rw[C (show ¬ i+1=r0 by lia)];exact b<|i+1
 ·grind
theorem k9(m:bc)(w:Str):(ag m).count w=((range m.length).map λr=>(row m r).count w).sum:=by
 induction m with
 |nil=>rfl
 |cons x m a=>
  have e:ag (x :: m)=x.2++ag m:=rfl;rw[e,Dw,a,Au,TY,Be,Ff,Bi];rfl
def K2(c:p<m)(d:q<m):((range m).map λr=>(if r=p then 1 else 0)+(if r=q then 1 else 0)).sum=2:=by
 have one:∀(m p:Nat),((range m).map λr=>if r=p then 1 else 0).sum=if p<m then 1 else 0:=λm p=>by
  induction m with
  |zero=>rfl
  |succ m b=>
   rw[Cu,Ai,List.sum_append,b];simp only[Be,RJ,Ff,List.sum_nil]
   by_cases h:m=p
   ·grind
   ·grind
 have add:∀(l:List Nat)(f g:Nat->Nat),(l.map λr=>f r+g r).sum=(l.map f).sum+(l.map g).sum:=λl f g=>by
  induction l with
  |nil=>rfl
  |cons a l b=>simp only[Be,Ff,b];lia
 rw[add,one,one,BL c,BL d]
def iI(T:ao n)(k:z∈ag n)(a:mY n z r0 r1)(lt:r0<r1):z∉ag (shr n z r0 r1):=λh=>by
 obtain⟨i,d,b⟩:=xD h;rw[C2 a]at d;rw[Ra a,BL d]at b;have f:=Jq T k;have l:=f r0;have m:=f r1;have j:=Jr (w:=z) a.m0 a.m1;rw[BL rfl]at j;have ne:=a.ne
 by_cases c:(if i<r1 then i else i+1)=r0
 ·grind
 ·rw[C c]at b
  obtain e|e:=a.only _ (by split<;>lia) b
  ·exact c e
  ·split at e<;>lia
def Rb(T:ao n)(l:z∈ag n)(a:mY n z r0 r1)(lt:r0<r1):w∈ag (shr n z r0 r1)↔w∈ag n/\w≠z:=by
 have m:=a.l1
 constructor
 ·intro h;have d:w≠z:=λe=>iI T l a lt<|e ▸ h;refine⟨?_,d⟩;obtain⟨i,f,b⟩:=xD h;rw[C2 a]at f;rw[Ra a,BL f]at b;have j:=Jr (w:=w) a.m0 a.m1;rw[C d]at j
  by_cases c:(if i<r1 then i else i+1)=r0
  ·rw[BL c]at b;have:=Bo.mpr b
   by_cases k:0<(row n r0).count w
   ·exact CF a.l0<|Bo.mp k
   ·exact CF a.l1<|Bo.mp<|by lia
  ·rw[C c]at b;exact CF (by split<;>lia) b
 ·rintro ⟨h,d⟩;obtain⟨r,o,b⟩:=xD h;have:=Z7 a lt d (Jq T h)<|dn r0 r1 (jD n w).1;have p:=(Q7 T h).1;have:0<(row (shr n z r0 r1)<|dn r0 r1 (jD n w).1).count w:=by
   rw[this,BL rfl];lia
  refine CF ?_<|Bo.mp this;rw[C2 a];unfold dn
  split
  ·lia
  ·split<;>lia
def Rc(T:ao n)(b:z∈ag n)(a:mY n z r0 r1)(lt:r0<r1):ao (shr n z r0 r1):=λw c=>by
 obtain⟨h,e⟩:=(Rb T b a lt).mp c;have j:=a.l1;obtain⟨f,i⟩:=Q7 T h;rw[k9,show(λr=>(row (shr n z r0 r1) r).count w)=λr=>(if r=dn r0 r1 (jD n w).1 then 1 else 0)+(if r=dn r0 r1 (jD n w).2 then 1 else 0)from funext (Z7 a lt e<|Jq T h)];have d:∀x,x<n.length->dn r0 r1 x<(shr n z r0 r1).length:=λx k=>by
  rw[C2 a];unfold dn
  split
  ·lia
  ·split<;>lia
 exact K2 (d _ f)<|d _ i
def sa(b:mY n z r0 r1)(a:(n.map (·.1)).Nodup):((shr n z r0 r1).map (·.1)).Nodup:=by
 have e:n.map (·.1)=(range n.length).map (aB n):=by
  refine Dz λi=>?_;rw[Aj,Aj]
  by_cases h:i<n.length
  ·rw[Dc h,Ab h];show some _=some (aB n i);rw[fG h]
  ·rw[Bh (by lia),Bh<|by rw[Cw];lia];rfl
 show((((range n.length).filter λr=>decide (r≠r1)).map<|iM n z r0 r1).map (·.1)).Nodup;rw[Bi];rw[e]at a;exact a.sublist<|List.filter_sublist.map _
def US(T:ao n)(h:mZ n):cC n:=λP⟨r,k,pr⟩d x l=>by
 have one:=λy m=>by
  refine(h y.1<|Ag.mpr ⟨y,m,rfl⟩).ind T (P:=λq=>P (bw n)↔P q) VG λe w c p o=>o.trans ?_;have a:=(Jp<|aJ.mpr c).1;have f:=(cS T c).1;have b:=(Jp<|aJ.mpr f).1;have i:w∈(n[e.1]'a).2:=by rw[<-lv a];exact An c
  have j:w∈(n[(other n e).1]'b).2:=by rw[<-lv b];exact An f
  rw[fG a,fG b];exact⟨d _ (Bq a) _ (Bq b) w i j,d _ (Bq b) _ (Bq a) w j i⟩
 exact(one x l).mp<|(one r k).mpr pr
def rk(h:d8 n z=[r])(p:cC n):cC (bd n z):=λP⟨x,q,px⟩v y w=>by
 have mp:∀s∈n,∃t∈bd n z,t.1=s.1/\∀u∈s.2,u≠z->u∈t.2:=λs c=>⟨_,Ag.mpr ⟨s,c,rfl⟩,rfl,λu A B=>Ao.mpr ⟨A,BW B⟩⟩;have d:∀t∈bd n z,∃s∈n,s.1=t.1:=λt D=>by
  obtain⟨s,c,rfl⟩:=Ag.mp D;exact⟨s,c,rfl⟩
 obtain⟨E,G,H⟩:=d x q;obtain⟨I,J,L⟩:=d y w;rw[<-L];refine p P ⟨E,G,by rwa[H]⟩ (λa f b k t M N O=>?_) I J
 by_cases e:t=z
 ·subst e;obtain⟨i,l,rfl⟩:=Bv.mp f;obtain⟨j,m,rfl⟩:=Bv.mp k;have ii:i∈d8 n t:=bX.mpr ⟨l,by rwa[lv l]⟩;have o:j∈d8 n t:=bX.mpr ⟨m,by rwa[lv m]⟩;rw[h]at ii o;have:i=j:=(Ae.mp ii).trans (Ae.mp o).symm;subst this;exact O
 ·obtain⟨Q,T,Y,ia⟩:=mp a f;obtain⟨b',kS,eb,ib⟩:=mp b k;rw[<-eb];exact v Q T b' kS t (ia t M e) (ib t N e)<|by rwa[Y]
def iS(T:ao n)(l:mY n z r0 r1)(lt:r0<r1)(D:(n.map (·.1)).Nodup)(E:cC n):cC (shr n z r0 r1):=λP⟨x,G,px⟩H y I=>by
 have l1:=l.l1;have A:∀i,i<n.length->∃t∈shr n z r0 r1,t.1=aB n (if i=r1 then r0 else i)/\∀u∈row n i,u≠z->u∈t.2:=λi h=>by
  have r:dn r0 r1 i<n.length-1:=by
   unfold dn
   split
   ·lia
   ·split<;>lia
  have f:(if dn r0 r1 i<r1 then dn r0 r1 i else dn r0 r1 i+1)=if i=r1 then r0 else i:=by
   unfold dn
   by_cases c:i=r1
   ·rw[BL c,BL c,BL lt]
   ·rw[C c,C c]
    by_cases d:r1<i
    ·rw[BL d,C<|by lia];lia
    ·rw[C d,BL<|by lia]
  have o:=Q9 l<|dn r0 r1 i;rw[BL r,f]at o;refine⟨_,An o,rfl,λu hu J=>?_⟩;show u∈if(if i=r1 then r0 else i)=r0 then i6 (row n r0) (row n r1) z else row n (if i=r1 then r0 else i);have j:=Jr (w:=u) l.m0 l.m1;rw[C J]at j
  by_cases c:i=r1
  ·grind
  ·grind
 have B:∀t∈shr n z r0 r1,∃i,i<n.length/\i≠r1/\t.1=aB n i:=λt L=>by
  obtain⟨i,h,rfl⟩:=Ag.mp L;rw[Ao,CP,Bg]at h;exact⟨i,h.1,h.2,rfl⟩
 obtain⟨i,h,M,N⟩:=B x G;obtain⟨j,r,O,Q⟩:=B y I;have s:∀k(f:k<n.length),rn n n[k].1=k:=λk f=>by
  have:=pu D f;rwa[fG f]at this
 have:=(E λp=>P<|aB n (if rn n p=r1 then r0 else rn n p)) ⟨n[i],Bq h,by
  show P (aB n (if rn n n[i].1=r1 then r0 else rn n n[i].1));rwa[s i h,C M,<- N]⟩ (λa Y b hb t h1 h2 v=>by
   obtain⟨k,f,rfl⟩:=Bv.mp Y;obtain⟨m,q,rfl⟩:=Bv.mp hb;have v:P (aB n (if rn n n[k].1=r1 then r0 else rn n n[k].1)):=v;show P (aB n (if rn n n[m].1=r1 then r0 else rn n n[m].1));rw[s k f]at v;rw[s m q]
   by_cases e:t=z
   ·subst e;have ek:=l.only k f (by rwa[lv f]);have em:=l.only m q (by rwa[lv q]);have a1:(if k=r1 then r0 else k)=r0:=by split<;>lia
    have a2:(if m=r1 then r0 else m)=r0:=by split<;>lia
    rw[a2];rwa[a1]at v
   ·obtain⟨a',jP,ea,ia⟩:=A k f;obtain⟨b',kS,eb,ib⟩:=A m q;rw[<-eb];exact H a' jP b' kS t (ia t (by rwa[lv f]) e) (ib t (by rwa[lv q]) e)<|by rwa[ea]) n[j]<|Bq r
 have this:P (aB n (if rn n n[j].1=r1 then r0 else rn n n[j].1)):=this;rwa[s j r,C O,<-Q]at this
end Nt
namespace G8
open PySem L2 Nt bv bG
open PyProof.Rows (sortedS)
open Classical
def knd(n:bc)(z:Str):Str:=if(d8 n z).length=1 then "loop" else if mZ (bd n z)then "free" else "bridge"
inductive kz(vs:List V)(H:Hp)(Q:VK)(_:XK):Prop
 |mk (R:Addr)(as:Ï)(n:bc)(z:Str)(_:vs=[.ref R,.str z])(_:aq H R as n)(_:ao n)(_:(n.map (·.1)).Nodup)(_:0<n.length)(_:n.length<=60)(_:(ag n).length<=58)(_:z∈ag n)(_:∀H',aj H H'->Q (.str<|knd n z) H')
theorem Z8:∀(a b:Ñ),(∀y,a.count y<=b.count y)->a.length<=b.length
 |[],b,_=>By _
 |x :: a,b,h=>by
  have c:x∈b:=Bo.mp (by have:=h x;rw[List.count_cons_self]at this;lia);have d:=Z8 a (b.erase x) λy=>by
   have:=h y
   by_cases e:y=x
   ·grind
   ·grind
  rw[Ex c]at d;have:=Fe c;rw[Au];lia
theorem Sr(T:ao n)(e:z∈ag n):(d8 n z).length=1↔∃r,r<n.length/\(row n r).count z=2:=by
 have b:=Jq T e;obtain⟨l,m⟩:=Q7 T e
 constructor
 ·intro h
  match o:d8 n z,h with
  |[r],_=>
   have q:=λx p a=>by
    have:x∈d8 n z:=bX.mpr ⟨p,Bo.mp a⟩;rw[o]at this;exact Ae.mp this
   have c:=q _ l (by rw[b,BL rfl];lia);have d:=q _ m (by rw[b,BL rfl];lia);exact⟨r,by rwa[<-c],by rw[b r,BL c.symm,BL d.symm]⟩
 ·rintro ⟨r,w,a⟩;rw[b r]at a;have c:=CJ λk=>by rw[C k]at a;split at a<;>lia
  have d:r=(jD n z).2:=CJ λk=>by rw[C k]at a;split at a<;>lia
  obtain⟨x,h⟩|⟨s,t,h⟩:=Jf T e
  ·rw[h];rfl
  ·exfalso
   have f:=xE h;have i:=Bo.mpr f.m0;have j:=Bo.mpr f.m1;rw[b s,<-c,<-d]at i;rw[b t,<-c,<-d]at j;have u:=CJ λk=>by rw[C k]at i;omega
   have v:=CJ λk=>by rw[C k]at j;omega
   exact f.ne<|u.trans v.symm
abbrev FR:Ñ:=["_law_rows","_law_tie","_law_point","_law_row"]
def C3:ak FR ["_law_rows","_law_tie"] (aW Ng):=cg
theorem Th(F:bA K "_law_sort" "_law_sort" Ng f B)(T:Txt mg)(D:aT P w K mg base 2 "_law_hangs" ["_law_rows"] mD)(G:aT P w K mg base 2 "_law_out" ["_law_rows","_law_tie"] o7):aG P w K mg base bF 3 f B ["_law_rows","_law_tie"] kz:=by
 refine F.gc C3 λb0 H vs Q E l h=>?_;obtain⟨R,as,n,z,rfl,i,t,hN,h0,hn,ht,I,q⟩:=h;have nd:=C3.nd;have J:=i.len;have u:=Sr t I;refine jH<|U 0 ⟨R,rfl,⟨_,av.of i.lst⟩,jI (xs:=as.map λa=>V.ref a.1) (λr b j=>(∃o p,b=[some<|.ref R,some<|.str z,o,p])/\j=H/\∀k,k<r->(row n k).count z≠2) ⟨⟨none,none,rfl⟩,rfl,λk d=>absurd d<|Ep _⟩ ?_ ?_ ?_⟩
 ·rintro r b j _ ⟨_,rfl,_⟩;exact av.of i.lst
 ·rintro r x b j s ⟨⟨o,p,rfl⟩,rfl,no⟩;have y:r<n.length:=by
   have:=(Ad.mp s).1;rw[Aa]at this;omega
  obtain⟨a,M,cZ,N,A,er⟩:=i.at y;rw[Aj,M]at s;cases s;refine iA rfl (aU.of N) (a9 2 nd<|a9 3 nd ?_);refine fk<|cA fQ<|yJ DG RX RZ Ym<|U 3 (v:= .ref a.2) ⟨Or.inl ⟨rfl,_,av.of A⟩,U 1 ⟨a.2,row n r,z,rfl,rfl,av.of A,aF ⟨rfl,_,rfl,?_⟩⟩⟩;refine jh (λc=>?_) λc=>a8<|a8 ⟨⟨_,_,rfl⟩,rfl,λk d=>?_⟩
  ·refine bQ<|eI ?_;have c:=V.int.inj<|BZ c;have:=q j<|aj.refl _;unfold knd at this;rwa[BL<|u.mpr ⟨r,y,by omega⟩]at this
  ·obtain d|d:=Gm.mp d
   ·exact no k d
   ·intro e;rw[d]at e;exact c<|BW<|by rw[e];rfl
 ·rintro b j ⟨⟨o,p,rfl⟩,rfl,no⟩;rw[Aa,J]at no;have nl:¬(d8 n z).length=1:=λk=>by
   obtain⟨r,l,O⟩:=u.mp k;exact no r l O
  refine fk (UA<|bC D l<|ai<|bC G l<|ai<|U 0<|ai<|U 1<|aA ⟨R,as,n,z,rfl,i,by lia,by lia,λL Y H1 s1 n1 f1 hL=>aA ⟨L,Y,bd n z,rfl,hL,Jh t,by rwa[QI],by rwa[rz],by rwa[rz],Cd QO (by lia),λH2 s2=>⟨_,rfl,?_⟩⟩⟩);have m:=q H2<|s1.trans s2;unfold knd at m;rw[C nl]at m;refine jh (λc=>bQ<|eI ?_) λc=>a8<|bQ<|eI ?_
  ·rwa[BL<|BZ c]at m
  ·rwa[C λk=>c<|BW k]at m
end G8
namespace Dt
end Dt
namespace Nt
open PySem L2 Dt
end Nt
namespace L2
open PySem PySem.Spec PyProof.Rows
def q3t(i:Nat)(d:X.N.Nodup)(f:Kh X op j)(h:Ev X e b H λy k=>j v y k λz l=>fg X a D (b.set i<|some z) l)
  (m:b[i]?=some (some v):=by rfl) (n:X.N[i]?=some x:=by rfl) (o:xp X.env.scope x:=by first|exact Or.inl rfl|exact Or.inr rfl) (p:X.fn x=true\/X.env.scope.names.lookup x=some .local:=by first|exact .inl rfl|exact .inr rfl):
  fg X (.AugAssign (.Name x c) op e pos :: a) D b H:=nw (x3g d n o bB f p) ⟨v,m,h⟩
end L2
namespace G8
open PySem L2 Nt bv
abbrev bD(e:Nt.bi):List Key:=[Sum.inl (e.1:Int),Sum.inl (e.2:Int)]
def Z'(h:bD a=bD b):a=b:=by
 have c:=List.cons.inj h;have d:=Sum.inl.inj c.1;have e:=Sum.inl.inj ((List.cons.inj c.2).1);exact FZ (by lia)<|by lia
structure ww(n:bc)(kvs:List<|List Key×V)(told:Ñ):Prop where
 mem:∀e∈ends n,(az kvs<|bD e).isSome=true↔aw n e∈told
def ww.put(T:ao n)(h:ww n kvs b)(f:x∈ends n)(u v:V):ww n (putK (putK kvs (bD x) u) (bD<|other n x) v) (b++[aw n x]):=⟨λa i=>by
 have l:aw n (other n x)=aw n x:=by
  obtain⟨z,j⟩:=af.mp f;rw[cB j,cB (cS T j).1]
 rw[cR,Al,Ae]
 by_cases c:bD a=bD (other n x)
 ·grind
 ·rw[C c,cR]
  by_cases d:bD a=bD x
  ·rw[BL d,Z' d];exact⟨λ_=> .inr rfl,λ_=>rfl⟩
  ·rw[C d,h.mem a i];refine⟨.inl,λk=>k.elim id λe=>?_⟩
   obtain q|q:=xn T f i e.symm
   ·exact absurd (by rw[q]) d
   ·exact absurd (by rw[q]) c⟩
def q32(T:ao n)(f:e∈ends n)(b:vJ n c)(l:aw n e∉c)(p:kU n e k)(m:j<k):aw n (it (two n) j e)∉c++(range j).map λi=>aw n (it (two n) i e):=λo=>by
 obtain h|h:=Al.mp o
 ·exact l<|(Pj T b f j).mp h
 ·obtain⟨i,d,q⟩:=Ag.mp h;have d:=Bg.mp d;have nd:=(IJ T [e] [] (λa r=>by rwa[Ae.mp r])<|Pk n).nd;have s:dE n [e] []=[walker n e]:=by
   unfold dE;rw[C λz=>nomatch z];rfl
  rw[s,Cm,List.flatMap_nil,Bd]at nd;have t:ah (walker n e)=(range k).map λi=>it (two n) i e:=AK p;rw[t,Bi]at nd;have u:((range k).map<|(aw n) ∘ λi=>it (two n) i e)[i]?=some (aw n<|it (two n) j e):=by
   rw[Aj,Dc<|by lia];exact BX some q
  have v:((range k).map<|(aw n) ∘ λi=>it (two n) i e)[j]?=some (aw n<|it (two n) j e):=by
   rw[Aj,Dc m];rfl
  have:=Q6 nd u v;lia
inductive iQ(vs:List V)(H:Hp)(Q:VK)(_:XK):Prop
 |mk (R:Addr)(as:Ï)(n:bc)(_:vs=[.ref R])(_:aq H R as n)(_:ao n)(_:n.length<=60)(_:(ag n).length<=60)(_:∀H',aj H H'->Q (.int ((aE n).length:Nat)) H')
def q13(n:bc):(bg n).length=(ag n).length:=by
 have:=BX List.length<|nU n 0;rwa[Aa]at this
abbrev NLw:Ñ:=["_law_rows","_law_seats_here","_law_met","_law_many","_law_r","_law_place","_law_end","_law_turn"]
def C4:ak NLw ["_law_rows"] (aW Nh):=cg
theorem gB(F:bA K "_law_walks" "_law_walks" Nh f fd)(T:Txt mg)
  (GS:aT P w K mg base 2 "_law_seats" ["_law_rows"] fz) (GO:aT P w K mg base 2 "_law_other" ["_law_rows","_law_seats_here","_law_end"] fE)
  (GT:aT P w K mg base 2 "_law_step" ["_law_rows","_law_seats_here","_law_end","_law_turn"] iE):
  aG P w K mg base bF 3 f fd ["_law_rows"] iQ:=by
 refine F.gc C4 λb0 H vs Q E hr h=>?_;obtain⟨R,as,n,rfl,L,G,hn,gY,q⟩:=h;have nd:=C4.nd;have hu:=hr.u1;have sQ:=kQ n;have O6:=q13 n;refine aX 1 nd (bC GS hr<|ai<|U 0<|aA ⟨R,as,n,rfl,L,by omega,by omega,λJ ks I s1 n1 Rf=>?_⟩);refine aX 2 nd<|Vy λd hd=>?_;have s2:aj I (upd I d<|.dT []):=aM hd _;have mr:(upd I d<|.dT []) d=some (.dT []):=ay;refine aX 3 nd<|aF ?_;generalize upd I d (.dT [])=H2 at s2 mr
 let St:List (Str×Nt.bi)->Nat->Hp->Prop:=λdone cnt B=>∃(kvs:List<|List Key×V)(l:Ñ),aj I B/\B d=some (.dT kvs)/\ww n kvs l/\vJ n l/\kvs.length<=200*cnt/\cnt<=done.length /\
  ∀s,ends n=done.map (·.2)++s->(aE n).length=cnt+(dE n s l).length
 have HV:(as.map λa=>V.ref a.1).length=n.length:=by rw[Aa,L.len]
 refine nF T.range<|cL eX T.len DP<|ai<|U 0<|aA ⟨R,_,rfl,.inl<|av.of<|s2 _ _<|s1 _ _ L.lst,?_⟩;rw[HV];refine⟨(n.length:Int),rfl,by lia,by lia,nG (n:=n.length) (λr D B=>∃(cnt:Nat)(u4 M N O:Option V),St (bg<|n.take r) cnt B/\D=[some<|.ref R,some<|.ref J,some<|.ref d,some<|.int (cnt:Int),u4,M,N,O])
  ⟨0,_,_,_,_,⟨[],[],s2,mr,⟨λe _=>by simp[az]⟩,Pk n,Aq _,By _,λs h=>by rw[Es];show(dE n (ends n) []).length=_;rw[h];rfl⟩,rfl⟩ ?_ ?_⟩
 ·rintro r D B hi ⟨cnt,u4,M,N,O,st,rfl⟩;refine a9 4 nd ?_;rw[Ed];have sm:aj I B:=by obtain⟨_,_,sm,_⟩:=st;exact sm
  have Ia:=(L.same s1).same sm;obtain⟨a,ea,cZ,et,el,er⟩:=Ia.at hi;have k8:(row n r).length<=60:=Cd (lS n r) gY;have Ü:St (bg (n.take r)++bh r ((row n r).take 0) 0) cnt B:=by
   have:bh r ((row n r).take 0) 0=[]:=by simp[bh]
   rwa[this,Bd]
  refine nF T.range<|cL eX T.len DP<|ai<|bn cw<|bn dZ<|U 0<|U 4 ⟨R,_,_,.ref a.1,rfl,rfl,av.of Ia.lst,cZ,aF ⟨a.1,_,_,.ref a.2,rfl,rfl,aU.of et,rfl,aA ⟨a.2,_,rfl,.inl<|av.of el,?_⟩⟩⟩;rw[Aa];refine⟨((row n r).length:Int),rfl,by lia,by lia,nG (n:=(row n r).length) (λp D B=>∃(cnt:Nat)(M N O:Option V),St (bg (n.take r)++bh r ((row n r).take p) 0) cnt B/\D=[some<|.ref R,some<|.ref J,some<|.ref d,some<|.int (cnt:Int),some<|.int (r:Int),M,N,O])
   ⟨cnt,_,_,_,Ü,rfl⟩ ?_ ?_⟩
  ·rintro p D H3 hp ⟨cnt,M,N,O,⟨kvs,l,Y,Jj,sn,b,qJ,pA,Jt⟩,rfl⟩;rw[Ed];have hz:(row n r)[p]?=some (row n r)[p]:=Ab hp;have jL:=qH (r:=r) hz;obtain⟨s,eG⟩:=vi hi hz;have mO:aH n (r,p)=some (row n r)[p]:=hz;generalize (row n r)[p]=z at hz jL eG mO;have he:((r,p):Nt.bi)∈ends n:=af.mpr ⟨z,mO⟩;have tI:ends n=(bg (n.take r)++bh r ((row n r).take p) 0).map (·.2)++(r,p):: s.map (·.2):=by
    unfold ends;rw[eG,Ai];rfl
   have dl:(bg (n.take r)++bh r ((row n r).take p) 0).length<60:=by
    have:=BX List.length eG;rw[Ah,Au]at this;lia
   have lh:∀gI,ends n=(bg (n.take r)++bh r ((row n r).take<|p+1) 0).map (·.2)++gI->gI=s.map (·.2):=λgI h=>by
    rw[jL,<-Ap,Ai,Ap,tI]at h;exact((List.cons.inj<|List.append_cancel_left h).2).symm
   have ß:(bg (n.take r)++bh r ((row n r).take<|p+1) 0).length=(bg (n.take r)++bh r ((row n r).take p) 0).length+1:=by rw[jL,<-Ap,Ah];rfl
   have C5:=Jt _ tI;refine a9 5 nd ?_;refine aX 6 nd<|dk<|ai<|U 4<|ai<|U 5<|aA ⟨Z2,λt ht=>?_⟩;have sT:=aM ht<|Tp (r,p);have vV:=sT _ _ Jj;have Rg:=Y.trans sT;have xJ:(upd H3 t<|Tp (r,p)) t=some (Tp (r,p)):=ay;generalize upd H3 t (Tp (r,p))=H4 at sT vV Rg xJ;generalize hx:((r,p):Nt.bi)=x at *;have td:t≠d:=cm xJ vV λz=>nomatch z
   by_cases c:aw n x∈l
   ·
    have yes:=(sn.mem x he).mpr c;refine fk<|wJ hu<|U 6<|U 2 ⟨d,_,rfl,bf.t (k:=bD x) vV xJ,?_⟩;rw[yes];refine bU<|a8<|aX 7 nd<|aF ?_;refine uC (λm D B=>m=0/\B=H4/\D=[some<|.ref R,some<|.ref J,some<|.ref d,some<|.int (cnt:Int),some<|.int (r:Int),some<|.int (p:Int),some<|.ref t,some<|.int 1]) (m0:=0) ⟨rfl,rfl,rfl⟩ ?_;rintro m D B ⟨rfl,rfl,rfl⟩;refine wy<|Lh<|cA fQ<|U 7<|ui tW<|aF ⟨1,rfl,rfl,_,rfl,?_⟩;refine bU<|UC<|wJ hu<|U 6<|U 2 ⟨d,_,rfl,bf.t (k:=bD x) vV xJ,?_⟩;rw[yes];refine bU (a8 ⟨cnt,_,_,_,⟨kvs,l,Rg,vV,sn,b,qJ,by lia,λgI h=>?_⟩,rfl⟩);rw[C5,lh gI h];show _+(if aw n x∈l then dE n (s.map (·.2)) l else _).length=_;rw[BL c]
   ·have Pu:(az kvs<|bD x).isSome=false:=by
     cases hv:(az kvs<|bD x).isSome with
     |false=>rfl
     |true=>exact absurd ((sn.mem x he).mp hv) c
    obtain⟨k,pr,kl⟩:=sr G he;refine fk<|wJ hu<|U 6<|U 2 ⟨d,_,rfl,bf.t (k:=bD x) vV xJ,?_⟩;rw[Pu];refine bK<|q3t 3 nd x1v<|aF ⟨_,_,rfl,rfl,a8<|aX 7 nd<|aF ?_⟩;refine uC (λm D B=>E3 λ(j:Nat)(A:List<|List Key×V)(u:Addr)=>A4 (aj I B) (B d=some (.dT A)) (j<=k)<|(m=2 * (k - j)/\A.length<=200 * cnt+2 * j/\ww n A (l++(range j).map λi=>aw n<|it (two n) i x)/\B u=some (Tp<|it (two n) j x)/\D=[some<|.ref R,some<|.ref J,some<|.ref d,some<|.int ((cnt+1:Nat):Int),some<|.int (r:Int),some<|.int (p:Int),some<|.ref u,some<|.int 1]) \/
     (j<k/\m=2*(k-j)-1/\A.length<=200*cnt+2*(j+1)/\ww n A (l++(range<|j+1).map λi=>aw n<|it (two n) i x)/\B u=some (Tp<|go 1 n<|it (two n) j x)/\D=[some<|.ref R,some<|.ref J,some<|.ref d,some<|.int ((cnt+1:Nat):Int),some<|.int (r:Int),some<|.int (p:Int),some<|.ref u,some<|.int (-1)]))
     (m0:=2*(k-0)) ⟨0,kvs,t,Rg,vV,By _,.inl ⟨rfl,by omega,by rwa[List.range_zero,RJ,Bd],xJ,rfl⟩⟩ ?_
    rintro m D H5 ⟨j,A,u,C6,C7,jk,⟨rfl,Ý,xK,eu,rfl⟩|⟨jl,rfl,Ý,xK,eu,rfl⟩⟩
    ·have vW:=iK G he j;refine wy<|Lh<|cA fQ<|U 7<|ui tW<|aF ⟨1,rfl,rfl,_,rfl,?_⟩;refine bU<|UC<|wJ hu<|U 6<|U 2 ⟨d,_,rfl,bf.t (k:=bD<|it (two n) j x) C7 eu,?_⟩
     by_cases e:j=k
     ·subst e;have yes:(az A<|bD<|it (two n) j x).isSome=true:=(xK.mem _ vW).mpr<|by
       rw[pr.back];exact Ar _<|Ag.mpr ⟨0,Bg.mpr pr.pos,rfl⟩
      rw[yes];have ob:(ah<|walker n x).map (aw n)=(range j).map λi=>aw n (it (two n) i x):=by
       have:ah (walker n x)=(range j).map λi=>it (two n) i x:=AK pr;rw[this,Bi];rfl
      refine bU<|a8 ⟨cnt+1,_,_,_,⟨A,_,C6,C7,xK,?_,by lia,by lia,λgI h=>?_⟩,rfl⟩
      ·rw[<-ob];intro y hy;rw[Al,Al];exact or_congr (b y hy)<|Yw G he y hy
      ·rw[C5,lh gI h];show _+(if aw n x∈l then _ else walker n x :: dE n (s.map (·.2)) (l++(ah<|walker n x).map (aw n))).length=_;rw[C c,ob,Au];lia
     ·have jl:j<k:=by lia
      have no:(az A<|bD<|it (two n) j x).isSome=false:=by
       cases hv:(az A<|bD<|it (two n) j x).isSome with
       |false=>rfl
       |true=>exact absurd ((xK.mem _ vW).mp hv)<|q32 G he b c pr jl
      rw[no];have Ö:u≠d:=cm eu C7 λz=>nomatch z;refine bK<|fk<|cA fQ<|U 7<|aF ⟨rfl,_,rfl,?_⟩;rw[BW rfl];refine bK ?_;refine qF hu (uh<|U 2<|U 6 ⟨d,_,rfl,bO.t (k:=bD<|it (two n) j x) C7 eu (bR<|by lia),?_⟩);have l1:=jm A (bD<|it (two n) j x)<|.bl true;have vO:aj I (upd H5 d<|.dT<|putK A (bD<|it (two n) j x)<|.bl true):=dR C6 hd;have Ø:(upd H5 d<|.dT<|putK A (bD<|it (two n) j x)<|.bl true) d=some (.dT<|putK A (bD<|it (two n) j x)<|.bl true):=ay;have Ù:(upd H5 d<|.dT<|putK A (bD<|it (two n) j x)<|.bl true) u=some (Tp<|it (two n) j x):=by rwa[ax Ö]
      generalize upd H5 d (.dT<|putK A (bD<|it (two n) j x)<|.bl true)=H6 at vO Ø Ù;refine qF hu (uh<|U 2<|bC GO hr<|ai<|U 0<|ai<|U 1<|ai<|U 6<|aA ⟨R,J,u,as,n,ks,_,rfl,(L.same s1).same vO,Rf.same vO,G,Ù,vW,λo ho=>⟨d,_,rfl,bO.t (k:=bD<|other n<|it (two n) j x) Ø ho (bR<|by lia),a8 ?_⟩⟩);have l2:=jm (putK A (bD<|it (two n) j x)<|.bl true) (bD<|other n<|it (two n) j x)<|.bl true;have Þ:=xK.put G vW (.bl true)<|.bl true;generalize putK (putK A (bD<|it (two n) j x)<|.bl true) (bD<|other n<|it (two n) j x) (.bl true)=rD at l2 Þ;have Ju:aj I (upd H6 d<|.dT rD):=dR vO hd;have Ú:(upd H6 d<|.dT rD) d=some (.dT rD):=ay;have Û:(upd H6 d<|.dT rD) u=some (Tp<|it (two n) j x):=by rwa[ax Ö]
      generalize upd H6 d (.dT rD)=H7 at Ju Ú Û;refine aX 6 nd<|bC GT hr<|ai<|U 0<|ai<|U 1<|ai<|U 6<|ai<|U 7<|aA ⟨R,J,u,as,n,ks,_,1,rfl,(L.same s1).same Ju,Rf.same Ju,G,Û,vW,λv H8 s8 nv ev=>?_⟩;refine aX 7 nd<|ui tW<|U 7 ⟨1,rfl,?_⟩;refine a8 ⟨2*(k-j)-1,by lia,j,rD,v,Ju.trans s8,s8 _ _ Ú,jk,.inr ⟨jl,rfl,by lia,?_,ev,rfl⟩⟩;rwa[Cu,Ai,<-Ap]
    ·refine wy<|Lh<|cA fQ<|U 7<|ui tW<|aF ⟨1,rfl,rfl,_,rfl,?_⟩;rw[BW rfl];refine bK ?_;refine bK<|fk<|cA fQ<|U 7<|aF ⟨rfl,_,rfl,?_⟩;rw[BR λk=>by cases V.int.inj k];refine bU<|a8 ?_;have w9:=(L.same s1).same C6;refine aX 6 nd<|bC GT hr<|ai<|U 0<|ai<|U 1<|ai<|U 6<|ai<|U 7<|aA ⟨R,J,u,as,n,ks,_,-1,rfl,w9,Rf.same C6,G,eu,(fw (c:=1) G<|iK G he j),λv H8 s8 nv ev=>?_⟩;refine aX 7 nd<|ui tW<|U 7 ⟨-1,rfl,?_⟩;exact a8 ⟨2*(k-(j+1)),by lia,j+1,A,v,C6.trans s8,s8 _ _ C7,jl,.inl ⟨rfl,by lia,xK,ev,rfl⟩⟩
  ·rintro D H3 ⟨cnt,M,N,O,st,rfl⟩;refine a8 ⟨cnt,_,_,_,_,?_,rfl⟩;rw[sg hi];rwa[Bn]at st
 ·rintro D H3 ⟨cnt,u4,M,N,O,⟨kvs,l,Y,Jj,sn,b,qJ,pA,Jt⟩,rfl⟩;rw[Bn]at Jt;have:=Jt [] (by rw[Bd];rfl);have e:(aE n).length=cnt:=this;refine bQ<|U 3 ?_;have:=q H3<|s1.trans Y;rwa[e]at this
end G8
namespace Nt
def sw{α:Type}[DecidableEq α](a b:α)(f:α->α)(x:α):α:=if x=a then f b else if x=b then f a else f x
theorem xL{α:Type}[DecidableEq α]{f g:α->α}{l:List α}{a b:α}(h:∀x∈l,g x=f x)(p:cq f l a b):cq g l a b:=by
 induction l generalizing a with
 |nil=>exact p
 |cons x l c=>
  refine⟨p.1,?_⟩;rw[h x Ac];exact c (λy d=>h y<|Af _ d) p.2
def EO{α:Type}[DecidableEq α](u v F:List α)(b:α):(v++b :: (u++F)).Perm (u++b :: (v++F)):=by grind
def cc.oa[DecidableEq α]{Ls:List (List α)}(d:cc f D Ls):Ls.flatten.Nodup:=d.all.nodup_iff.mpr d.nd
def cc.front[DecidableEq α]{Ls:List (List α)}(d:cc f D Ls)(i:l∈Ls)(o:a∈l):∃k A B,Ls=A++l :: B/\(a :: k).Perm l/\cc f D ((a :: k):: (A++B)):=by
 obtain⟨A,B,rfl⟩:=Do i;obtain⟨p,q,rfl⟩:=Do o;obtain⟨c,s,h⟩:=d.cr _ i;obtain⟨m,r,j⟩:=aQ.mp h;have e:=j.1;subst e;have n:(a :: (q++p)).Perm (p++a :: q):=by
  rw[<-Er];exact Cq
 refine⟨q++p,A,B,rfl,n,λk b=>?_,?_,d.nd⟩
 ·obtain rfl|b:=Ak.mp b
  ·exact⟨a,Ac,aQ.mpr ⟨c,j,r⟩⟩
  ·refine d.cr k ?_
   obtain q|q:=Al.mp b
   ·exact As _ q
   ·exact Ar _<|Af _ q
 ·refine List.Perm.trans ?_ d.all;simp only[Bf,Em];refine List.Perm.trans (n.append_right _) ?_;rw[<-Ap,<-Ap];exact List.perm_append_comm.append_right _
def cc.kC{α:Type}[DecidableEq α]{f:α->α}{D:List α}{Ls:List (List α)}(d:cc f D Ls){l:List α}(G:l∈Ls){a b:α}(H:a∈l)(T:b∈l)(ne:a≠b):∃s,cc (sw a b f) D s/\s.length=Ls.length+1/\∀k∈Ls,k≠l->k∈s:=by
 obtain⟨k,A,B,rfl,pm,r⟩:=d.front G H;have o:b∈k:=by grind
 obtain⟨u,v,rfl⟩:=Do o;have nd:=r.oa;rw[Bf,Bj]at nd;obtain⟨I,Y,w⟩:=nd;have t:=Bb.mp I;have y:=Bj.mp t.2;obtain⟨c,z,p⟩:=r.cr _ Ac;obtain rfl:a=c:=p.1;obtain⟨m,J,E⟩:=aQ.mp p.2;obtain rfl:b=m:=E.1;have keep:∀x,x≠a->x≠b->sw a b f x=f x:=λx L M=>by unfold sw;rw[C L,C M]
 have N:sw a b f a=f b:=by unfold sw;rw[BL rfl]
 have O:sw a b f b=f a:=by unfold sw;rw[C<|CG ne,BL rfl]
 refine⟨(a :: v):: (b :: u):: (A++B),⟨λj i=>?_,?_,d.nd⟩,?_,λj i Q=>?_⟩
 ·obtain rfl|i:=Ak.mp i
  ·refine⟨a,Ac,rfl,?_⟩;rw[N];exact xL (λx n=>keep x (λe=>t.1<|e ▸ Ar _ (Af _ n)) λe=>(Bb.mp y.2.1).1<|e ▸ n) E.2
  ·obtain rfl|i:=Ak.mp i
   ·refine⟨b,Ac,rfl,?_⟩;rw[O];exact xL (λx n=>keep x (λe=>t.1<|e ▸ As _ n) λe=>y.2.2 x n b Ac e) J
   ·obtain⟨c,z,q⟩:=r.cr j<|Af _ i;refine⟨c,z,xL (λx n=>keep x (λe=>?_) λe=>?_) q⟩
    ·exact w a Ac x (Ch.mpr ⟨j,i,n⟩) e.symm
    ·exact w b (Af _ o) x (Ch.mpr ⟨j,i,n⟩) e.symm
 ·refine List.Perm.trans ?_ r.all;simp only[Bf,Er,Ap];refine List.Perm.cons _ ?_;exact EO ..
 ·simp only[Au,Ah];lia
 ·obtain h|h:=Al.mp i
  ·exact Af _<|Af _<|As _ h
  ·obtain h|h:=Ak.mp h
   ·exact absurd h Q
   ·exact Af _<|Af _<|Ar _ h
def cc.ph{α:Type}[DecidableEq α]{f:α->α}{D:List α}{Ls:List (List α)}(d:cc f D Ls){l m:List α}(N:l∈Ls)(hm:m∈Ls)(bp:l≠m){a b:α}(O:a∈l)(Q:b∈m):∃s k,cc (sw a b f) D s/\s.length+1=Ls.length/\k∈s/\(∀x,x∈l\/x∈m->x∈k)/\∀j∈Ls,j≠l->j≠m->j∈s:=by
 obtain⟨u,A,B,rfl,pm,t⟩:=d.front N O;have Ja:m∈(a :: u):: (A++B):=by grind
 have T:m∈A++B:=by grind
 have nd:=t.oa;rw[Bf,Bj]at nd;have Y:cc f (A++B).flatten (A++B):=⟨λk hk=>t.cr k<|Af _ hk,List.Perm.refl _,nd.2.1⟩;obtain⟨v,H,I,o,y,r⟩:=Y.front T Q;have z:=r.oa;rw[Bf,Bj]at z;have nb:=Bb.mp z.1;have w:∀x,x∈b :: v\/x∈(H++I).flatten->x∈(A++B).flatten:=λx i=>r.all.mem_iff.mp (by rw[Bf];exact Al.mpr i);have ab:a≠b:=λe=>nd.2.2 a Ac b (w b<|.inl Ac) e;have keep:∀x,x≠a->x≠b->sw a b f x=f x:=λx E G=>by unfold sw;rw[C E,C G]
 have Ri:sw a b f a=f b:=by unfold sw;rw[BL rfl]
 have Rj:sw a b f b=f a:=by unfold sw;rw[C<|CG ab,BL rfl]
 obtain⟨c,J,p⟩:=t.cr _ Ac;obtain rfl:a=c:=p.1;obtain⟨c,b9,L⟩:=r.cr _ Ac;obtain rfl:b=c:=L.1;refine⟨((a :: v)++b :: u):: (H++I),(a :: v)++b :: u,⟨λj n=>?_,?_,d.nd⟩,?_,Ac,λx i=>?_,λj n E G=>?_⟩
 ·obtain rfl|n:=Ak.mp n
  ·refine⟨a,Ac,aQ.mpr ⟨b,⟨rfl,?_⟩,rfl,?_⟩⟩
   ·rw[Ri];exact xL (λx i=>keep x (λe=>nd.2.2 a Ac x (w x<|.inl<|Af _ i) e.symm) λe=>nb.1<|e ▸ i) L.2
   ·rw[Rj];exact xL (λx i=>keep x (λe=>(Bb.mp nd.1).1<|e ▸ i) λe=>nd.2.2 x (Af _ i) b (w b<|.inl Ac) e) p.2
  ·obtain⟨c,J,q⟩:=r.cr j<|Af _ n;refine⟨c,J,xL (λx i=>keep x (λe=>?_) λe=>?_) q⟩
   ·exact nd.2.2 a Ac x (w x<|.inr<|Ch.mpr ⟨j,n,i⟩) e.symm
   ·exact z.2.2 b Ac x (Ch.mpr ⟨j,n,i⟩) e.symm
 ·refine List.Perm.trans ?_ t.all;rw[Bf,Bf];refine List.Perm.trans ?_<|r.all.append_left _;rw[Bf];simp only[Er,Ap];refine List.Perm.cons _ ?_;exact EO ..
 ·have:=BX List.length o;simp only[Au,Ah]at this ⊢;lia
 ·obtain h|h:=i
  ·obtain q|q:=Ak.mp (pm.mem_iff.mpr h)
   ·rw[q];exact As _ Ac
   ·exact Ar _<|Af _ q
  ·obtain q|q:=Ak.mp (y.mem_iff.mpr h)
   ·rw[q];exact Ar _ Ac
   ·exact As _<|Af _ q
 ·have M:j∈A++B:=by
   obtain h|h:=Al.mp n
   ·exact As _ h
   ·obtain h|h:=Ak.mp h
    ·exact absurd h E
    ·exact Ar _ h
  rw[o]at M;refine Af _ ?_
  obtain h|h:=Al.mp M
  ·exact As _ h
  ·obtain h|h:=Ak.mp h
   ·exact absurd h G
   ·exact Ar _ h
def dq[DecidableEq α](f:α->α)(p:α->Bool)(a c:α):Prop:=∃k,it f k a=c/\p c=true/\∀j,j<k->p (it f j a)=false
def dq.uniq[DecidableEq α]{a c d:α}(h:dq f p a c)(g:dq f p a d):c=d:=by
 obtain⟨k,b,e,i⟩:=h;obtain⟨j,g1,g2,g3⟩:=g
 obtain q|q|q:=Fq k j
 ·grind
 ·rw[<-b,<-g1,q]
 ·grind
def dq.here[DecidableEq α]{a:α}(h:p a=true):dq f p a a:=⟨0,rfl,h,λj b=>absurd b<|Ep _⟩
theorem LM[DecidableEq α](f:α->α)(k:Nat)(a:α):it f k (f a)=it f (k+1) a:=by
 induction k with
 |zero=>rfl
 |succ k b=>show f (it f k<|f a)=f (it f (k+1) a);rw[b]
theorem dq.next[DecidableEq α]{a c:α}(h:p a=false)(g:dq f p (f a) c):dq f p a c:=by
 obtain⟨k,g1,g2,g3⟩:=g;refine⟨k+1,by rwa[<-LM],g2,λj b=>?_⟩;cases j with
 |zero=>exact h
 |succ j=>
  rw[<-LM];exact g3 j<|by lia
section
variable{α:Type}[DecidableEq α]
theorem BY(e:dq f p b i):∀{l:List α}{a:α},(∀x∈l,p x=true->dq f p (f x) (g x))->cq f l a b->∃c,cq g (l.filter p) c i/\dq f p a c
 |[],a,_,h=>by
  have h:=h;subst h;exact⟨i,rfl,e⟩
 |x :: l,a,j,h=>by
  obtain⟨rfl,h⟩:=h;obtain⟨c,n,k⟩:=BY e (λy m=>j y<|Af _ m) h;cases d:p x with
  |true=>
   refine⟨x,?_,.here d⟩;rw[Fw d];refine⟨rfl,?_⟩;rwa[(j x Ac d).uniq k]
  |false=>
   refine⟨c,?_,.next d k⟩;rwa[Fa<|by rw[d];decide]
end
section
variable{α:Type}[DecidableEq α]
theorem Jw:∀{l:List α}{a:α},cq f l a b->(∃x∈l,p x=true)->∃c∈l,dq f p a c
 |[],_,_,⟨x,e,_⟩=>nomatch e
 |x :: l,a,h,⟨y,i,py⟩=>by
  obtain⟨rfl,h⟩:=h;cases d:p x with
  |true=>exact⟨x,Ac,.here d⟩
  |false=>
   obtain q|q:=Ak.mp i
   ·rw[q,d]at py;cases py
   ·obtain⟨c,j,k⟩:=Jw h ⟨y,q,py⟩;exact⟨c,Af _ j,.next d k⟩
end
def cc.out[DecidableEq α]{Ls:List (List α)}(d:cc f D Ls)(i:∀x∈D,p x=true->dq f p (f x) (g x))(j:∀l∈Ls,∃x∈l,p x=true):cc g (D.filter p) (Ls.map<|List.filter p):=by
 refine⟨λk m=>?_,?_,d.nd.filter _⟩
 ·obtain⟨l,b,rfl⟩:=Ag.mp m;obtain⟨a,u,q⟩:=d.cr l b;obtain⟨v,e,h⟩:=Jw q<|j l b;obtain⟨c,n,o⟩:=BY h (λx r s=>i x (d.sub b r) s) q;obtain rfl:=o.uniq h;obtain⟨_,_,t,_⟩:=h;exact⟨c,Ao.mpr ⟨e,t⟩,n⟩
 ·rw[<-List.filter_flatten];exact d.all.filter _
open PySem L2 Classical
abbrev c8:=bi×Bool
def tau(n:bc)(v:c8):c8:=(go (if v.2=true then 1 else -1) n v.1,!v.2)
def rv(n:bc)(v:c8):c8:=(other n v.1,v.2)
def lz(n:bc):List c8:=(ends n).map (λx=>(x,true))++(ends n).map λx=>(x,false)
theorem q97(T:ao n)(h:v.1∈ends n):tau n (rv n<|tau n v)=rv n v:=by
 obtain⟨x,b⟩:=v;have a:=cE T h;cases b with
 |true=>
  show(go (-1) n<|other n<|go 1 n x,true)=(other n x,true);unfold go;rw[vI T<|wU a,mJ a]
 |false=>
  show(go 1 n<|other n<|go (-1) n x,false)=(other n x,false);unfold go;rw[vI T<|wU a];exact BX (λy=>(y,false))<|mJ a
theorem Ix:∀{l}{a b},(∀x∈l,f (R<|f x)=R x)->cq f l a b->cq f ((l.map R).reverse) (f<|R b) (f<|R a)
 |[],a,b,_,h=>by
  have h:=h;subst h;rfl
 |x :: l,a,b,c,h=>by
  obtain⟨rfl,h⟩:=h;rw[Be,List.reverse_cons];refine aQ.mpr ⟨R x,?_,rfl,rfl⟩;rw[<-c x Ac];exact Ix (λy d=>c y<|Af _ d) h
def cf(n:bc)(x:bi):List c8:=[(x,true),(go 1 n x,false)]
section
variable{n:bc}
theorem LG(e:bi):∀k,cq (tau n) (((range k).map λi=>it (two n) i e).flatMap<|cf n) (e,true) (it (two n) k e,true)
 |0=>rfl
 |k+1=>by
  rw[Cu,Ai,Di];refine aQ.mpr ⟨_,LG e k,?_⟩;show cq _ ([(_,true),(go 1 n _,false)]++[]) _ _;exact⟨rfl,rfl,rfl⟩
end
def BB(T:ao n){X:List bi}(nd:(X.map<|aw n).Nodup)(b:∀x∈X,x∈ends n)(all:∀z∈ag n,z∈X.map (aw n)):(X++X.map (other n)).Perm (ends n):=by
 have m:∀x∈X,aw n (other n x)=aw n x:=λx h=>by
  obtain⟨z,a⟩:=af.mp<|b x h;rw[cB a,cB (cS T a).1]
 have inj:∀x∈X,∀y∈X,aw n x=aw n y->x=y:=λx h y k e=>by
  obtain⟨i,r,rfl⟩:=Bv.mp h;obtain⟨j,s,rfl⟩:=Bv.mp k;have:i=j:=(Fg (h₀:=by rwa[Aa]) (h₁:=by rwa[Aa]) nd).mp (by rwa[Cp,Cp]);subst this;rfl
 refine(Dk (Bj.mpr ⟨AQ nd,?_,λx h y k e=>?_⟩)<|nV n).mpr λe=>⟨λh=>?_,λh=>?_⟩
 ·refine AQ (f:=aw n) ?_;rw[Bi,At (f:=aw n ∘ other n) (g:=aw n) m];exact nd
 ·obtain⟨w,d,rfl⟩:=Ag.mp k;have c:=m w d;rw[<-e]at c;have p:=inj x h w d c;subst p;obtain⟨z,a⟩:=af.mp<|b x h;exact(cS T a).2.2 e.symm
 ·obtain h|h:=Al.mp h
  ·exact b e h
  ·obtain⟨w,d,rfl⟩:=Ag.mp h;exact cE T<|b w d
 ·obtain⟨z,a⟩:=af.mp h;obtain⟨x,l,c⟩:=Ag.mp<|all z<|dP a;obtain⟨y,o⟩:=af.mp<|b x l;rw[cB o]at c;subst c
  by_cases q:x=e
  ·exact As _<|q ▸ l
  ·exact Ar _<|Ag.mpr ⟨x,l,ka T o a q⟩
def dW(n:bc):List (List c8):=(aE n).map λw=>(ah w).flatMap<|cf n
def hG(n:bc):List (List c8):=(dW n).map λl=>(l.map<|rv n).reverse
theorem EQ{g:α->α}:∀Ls:List<|List α,((Ls.map λl=>(l.map g).reverse).flatten).Perm<|Ls.flatten.map g
 |[]=>List.Perm.refl _
 |l :: Ls=>by
  rw[Be,Bf,Bf,Ai];exact((List.reverse_perm _).append_right _).trans<|(EQ Ls).append_left _
theorem Vh(X:List bi):(X.flatMap<|cf n).Perm (X.map (λx=>(x,true))++(X.map<|go 1 n).map λx=>(x,false)):=by
 induction X with
 |nil=>exact List.Perm.refl _
 |cons x X a=>
  rw[Cm,Be,Be,Be];show((x,true):: (go 1 n x,false):: X.flatMap (cf n)).Perm _;exact List.Perm.cons _<|(List.Perm.cons _ a).trans Gi.symm
def x4h(X Y:List bi):((X.map (λx=>((x,true):c8))++Y.map λx=>(x,false))++(X.map (λx=>((x,true):c8))++Y.map λx=>(x,false)).map (rv n)).Perm ((X++X.map (other n)).map (λx=>(x,true))++(Y++Y.map (other n)).map λx=>(x,false)):=by
 have a:(X.map λx=>((x,true):c8)).map (rv n)=(X.map<|other n).map λx=>(x,true):=by
  rw[Bi,Bi];rfl
 have b:(Y.map λx=>((x,false):c8)).map (rv n)=(Y.map<|other n).map λx=>(x,false):=by
  rw[Bi,Bi];rfl
 rw[Ai,Ai,Ai,a,b,Ap,Ap];refine JL _ ?_;rw[<-Ap,<-Ap];exact List.perm_append_comm.append_right _
def Jx(T:ao n):cc (tau n) (lz n) (dW n++hG n):=by
 have j:=ra T;have A:(dW n).flatten=((aE n).flatMap ah).flatMap (cf n):=by
  unfold dW;rw[List.flatMap_assoc,List.flatMap_def]
 have o:∀x∈(aE n).flatMap ah,x∈ends n:=λx c=>(j.new x c).1;have B:∀z∈ag n,z∈((aE n).flatMap ah).map (aw n):=λz s=>Bo.mp (by rw[IL T s];exact Fx);have t:=Pq T;have t:((((aE n).flatMap ah).map<|go 1 n).map<|aw n).Perm (((aE n).flatMap ah).map<|aw n):=by
  rwa[Bi]
 have I:=BB T (t.nodup_iff.mpr j.nd) (λx c=>by
  obtain⟨y,J,rfl⟩:=Ag.mp c;exact fw T<|o y J) λz s=>t.mem_iff.mpr<|B z s
 have D:∀l∈dW n,∃a,a∈l/\cq (tau n) l a a:=λl d=>by
  obtain⟨w,L,rfl⟩:=Ag.mp d;obtain⟨e,M,rfl⟩:=j.wk w L;obtain⟨k,p,_⟩:=sr T M;have E:ah (walker n e)=(range k).map λi=>it (two n) i e:=by
   unfold walker;rw[wX p,Wo]
  have q:=LG (n:=n) e k;rw[p.back,<-E]at q;refine⟨(e,true),?_,q⟩;refine Dd.mpr ⟨e,?_,Ac⟩;rw[E];exact Ag.mpr ⟨0,Bg.mpr p.pos,rfl⟩
 have N:∀l∈dW n,∀v∈l,v.1∈ends n:=λl d v m=>by
  have:v∈(dW n).flatten:=Ch.mpr ⟨l,d,m⟩;rw[A]at this;obtain⟨x,c,m⟩:=Dd.mp this;have c:=o x c;simp only[cf,Ak,Cs,HN]at m
  obtain rfl|rfl:=m
  ·exact c
  ·exact fw T c
 refine⟨λl d=>?_,?_,?_⟩
 ·obtain h|h:=Al.mp d
  ·exact D l h
  ·obtain⟨k,G,rfl⟩:=Ag.mp h;obtain⟨a,u,q⟩:=D k G;have f:=Ix (R:=rv n) (λx c=>q97 T<|N k G x c) q;refine⟨_,?_,f⟩
   match k,u,f with
   |x :: k,_,f=>
    have:((x :: k).map<|rv n).reverse≠[]:=by simp
    obtain⟨y,r,O⟩:=List.exists_cons_of_ne_nil this;rw[O]at f ⊢;rw[<-f.1];exact Ac
 ·rw[Em];unfold hG;have H:=EQ (g:=rv n)<|dW n;rw[A]at H ⊢;have f1:=Vh (n:=n)<|(aE n).flatMap ah;refine(List.Perm.append f1<|H.trans<|f1.map _).trans ?_;unfold lz;exact(x4h ..).trans<|List.Perm.append ((BB T j.nd o B).map _)<|I.map _
 ·unfold lz;refine Bj.mpr ⟨?_,?_,λa u b Q e=>?_⟩
  ·exact GX _ (λa b(h:a≠b)q=>h<|BX Prod.fst q)<|nV n
  ·exact GX _ (λa b(h:a≠b)q=>h<|BX Prod.fst q)<|nV n
  ·obtain⟨x,_,rfl⟩:=Ag.mp u;obtain⟨y,_,rfl⟩:=Ag.mp Q;exact Bool.noConfusion<|BX Prod.snd e
def EU(n:bc):(dW n++hG n).length=2*(aE n).length:=by
 unfold hG;rw[Ah,Aa];unfold dW;rw[Aa];lia
def KK(n:bc)(z:Str)(w:Str)(ss:Ñ):Prop:=cz ss/\(∀y∈ss,y∈ag n)/\z∈ss /\
 ((w = "double"/\gg n ss=true/\∃a,bt n ss a)\/(w = "cut"/\(∃a,bt n ss a)/\gg n (less ss z)=true)\/(w = "round"/\gg n ss=true/\∃a,bt n (less ss z) a))
def rm.kk(h:rm n z w ss):KK n z w ss:=by
 obtain⟨a,b,c,⟨rfl,d,e,_⟩|⟨rfl,d,e,_⟩|⟨rfl,d,e,_⟩⟩:=h
 ·exact⟨a,b,c,.inl ⟨rfl,d,e⟩⟩
 ·exact⟨a,b,c,.inr<|.inl ⟨rfl,d,e⟩⟩
 ·exact⟨a,b,c,.inr<|.inr ⟨rfl,d,e⟩⟩
def mt(a b:Ñ):Bool:=au<|a.map λz=>decide (z∈b)
def Rl(a b:Ñ):mt a b=decide ((a.filter λz=>b.contains z).length%2=1):=by
 unfold mt;rw[w8];have e:(a.filter λz=>b.contains z)=a.filter λz=>decide (z∈b):=by grind
 rw[e]
def IN(T:ao n)(c:gg n a=true)(d:a.Nodup)(e:bt n b f):mt a b=false:=by
 rw[Rl,iY T c d e.cut];rfl
def lq(c:a.Nodup)(d:b.Nodup):mt a b=mt b a:=by rw[Rl,Rl,L5 c d]
def Ll(T:ao n)(hd:gg n d=true)(dn:d.Nodup)(h:bt n d p)(i:z∈d)(j:gg n a=true)(f:a.Nodup)(k:bt n b q)(l:i5 a b [z]):False:=by
 have m:mt d a=false:=by rw[lq dn f];exact IN T j f h
 have c:mt d [z]=(mt d a ^^ mt d b):=by
  unfold mt;rw[<-iF]
  congr 1
  exact At λy _=>AX l y
 rw[IN T hd dn k,m]at c;have o:mt d [z]=true:=by
  unfold mt;have e:(d.map λy=>decide (y∈[z]))=d.map λy=>decide (y=z) && true:=At λy _=>by
   rw[Bool.and_true];exact decide_eq_decide.mpr Ae
  rw[e];exact xm dn i
 rw[o]at c;cases c
def k54(h:z∈a):i5 (less a z) a [z]:=λy=>by
 rw[Ae]
 by_cases k:y=z
 ·grind
 ·grind
def q77(h:i5 a b c):i5 b a c:=λy=>by
 have:=h y
 by_cases p:y∈a<;>by_cases q:y∈b<;>simp[p,q]at this<;>simp[p,q,this]
def Rn(T:ao n)(h:KK n z "double" a)(k:KK n z "cut" b):False:=by
 obtain⟨c,o,d,⟨_,e,p,f⟩|⟨q,_⟩|⟨q,_⟩⟩:=h
 case inr.inl=>exact absurd q<|by decide
 case inr.inr=>exact absurd q<|by decide
 obtain⟨i,r,j,⟨q,_⟩|⟨_,⟨s,l⟩,m⟩|⟨q,_⟩⟩:=k
 ·exact absurd q<|by decide
 ·exact Ll T e (jQ c) f d m (jQ<|Je i z) l<|k54 j
 ·exact absurd q<|by decide
def IR(T:ao n)(h:KK n z "double" a)(k:KK n z "round" b):False:=by
 obtain⟨c,o,d,⟨_,e,p,f⟩|⟨q,_⟩|⟨q,_⟩⟩:=h
 case inr.inl=>exact absurd q<|by decide
 case inr.inr=>exact absurd q<|by decide
 obtain⟨i,r,j,⟨q,_⟩|⟨q,_⟩|⟨_,l,s,m⟩⟩:=k
 ·exact absurd q<|by decide
 ·exact absurd q<|by decide
 ·exact Ll T e (jQ c) f d l (jQ i) m<|q77<|k54 j
def bt.DA(a:cz ss)(h:bt n ss b):oA n ss:=⟨a,b,h.cut⟩
def qW(a b:Ñ):∃c,cz c/\i5 a b c:=by
 obtain⟨c,d,e⟩:=pQ<|(a++b).filter λz=>decide (z∈a) ^^ decide (z∈b);refine⟨c,d,λz=>?_⟩;rw[e,Ao,Al]
 by_cases p:z∈a<;>by_cases q:z∈b<;>simp[p,q]
def CS(T:ao n)(i:0 < n.length)(h:KK n z "cut" a)(k:KK n z "round" b):False:=by
 have j:=h;obtain⟨l,m,o,⟨q,_⟩|⟨_,⟨H,r⟩,s⟩|⟨q,_⟩⟩:=h
 ·exact absurd q<|by decide
 case inr.inr=>exact absurd q<|by decide
 obtain⟨t,I,J,⟨q,_⟩|⟨q,_⟩|⟨_,u,L,v⟩⟩:=k
 ·exact absurd q<|by decide
 ·exact absurd q<|by decide
 obtain⟨d,f,c⟩:=qW a<|less b z;have w:=nr T (r.DA l) (v.DA<|Je t z) f c;have x:i5 (less a z) b d:=λy=>by
  rw[c y];have M:y∈less b z↔y∈b/\y≠z:=bx;have N:y∈less a z↔y∈a/\y≠z:=bx
  by_cases e:y=z
  ·grind
  ·grind
 have A:=Qi s u x;obtain⟨B,D⟩:=NU T i w;have E:=(c z).mpr (by rw[BL o];exact λq=>(bx.mp q).2 rfl);refine Rn T ⟨f,λy G=>?_,E,.inl ⟨rfl,A,B,D⟩⟩ j;have:=(c y).mp G
 by_cases p:y∈a
 ·exact m y p
 ·grind
def Ro(h:KK n z w a):w = "double"\/w = "cut"\/w = "round":=by
 obtain⟨_,_,_,⟨q,_⟩|⟨q,_⟩|⟨q,_⟩⟩:=h
 ·exact .inl q
 ·exact .inr<|.inl q
 ·exact .inr<|.inr q
def x2k(T:ao n)(c:0<n.length)(h:KK n z w a)(k:KK n z v b):w=v:=by
 obtain rfl|rfl|rfl:=Ro h<;>obtain rfl|rfl|rfl:=Ro k
 ·rfl
 ·exact(Rn T h k).elim
 ·exact(IR T h k).elim
 ·exact(Rn T k h).elim
 ·rfl
 ·exact(CS T c h k).elim
 ·exact(IR T k h).elim
 ·exact(CS T c k h).elim
 ·rfl
end Nt
namespace Dt
open Nt (au iF)
open Classical
open Nt (au iF vH kd)
open Classical
end Dt
namespace Nt
open PySem L2 Classical
def JJ{L:List (List α)}(h:L.flatten.Nodup){i j k l:Nat}(f:L[i]?=some w)(m:w[k]?=some e)(n:L[j]?=some v)(o:v[l]?=some e):i=j/\k=l:=by
 rw[Cg,List.pairwise_flatten]at h;obtain⟨r,q⟩:=h;have a:=(Ad.mp f);have b:=(Ad.mp n);have s:i=j:=by
  obtain c|c|c:=Fq i j
  ·exact absurd rfl ((Bs.mp q) i j a.1 b.1 c e (a.2▸(An m)) e<|b.2▸(An o))
  ·exact c
  ·exact absurd rfl ((Bs.mp q) j i b.1 a.1 c e (b.2▸(An o)) e<|a.2▸(An m))
 subst s;rw[f]at n;cases n;refine⟨rfl,?_⟩;have p:=r w<|An f;have lk:=(Ad.mp m);have d:=(Ad.mp o)
 obtain c|c|c:=Fq k l
 ·exact absurd (lk.2.trans d.2.symm)<|(Bs.mp p) k l lk.1 d.1 c
 ·exact c
 ·exact absurd (d.2.trans lk.2.symm)<|(Bs.mp p) l k d.1 lk.1 c
end Nt
namespace Nt
open PySem L2 Dt
end Nt
namespace Nt
open PySem L2 Classical
theorem K0:∀k,(∀i,i<k->f (g i)=g (i+1))->cq f ((range k).map g) (g 0) (g k)
 |0,_=>rfl
 |k+1,h=>by
  rw[Cu,Ai];exact aQ.mpr ⟨g k,K0 k (λi a=>h i<|by lia),rfl,h k<|by lia⟩
def DB(n:bc):List (List bi):=(range n.length).map λr=>(range (row n r).length).map λi=>(r,i%(row n r).length)
def sum_rows(n:bc):(DB n).flatten.length=(ag n).length:=by
 rw[List.length_flatten];unfold DB ag;rw[Bi,List.length_flatMap]
 congr 1
 rw[map_range n (λr:Str×List Str=>r.2.length) (λr=>(row n r).length) λk x a=>by
  show(row n k).length=x.2.length;unfold row;rw[a];rfl]
 refine At λr _=>?_;show((range (row n r).length).map _).length=_;rw[Aa,Cw]
def q3r(h:∀r,r<n.length->row n r≠[]):cc (left n) (ends n) (DB n):=by
 refine⟨λl c=>?_,?_,nV n⟩
 ·obtain⟨r,d,rfl⟩:=Ag.mp c;have j:=Ds.mpr<|h r (Bg.mp d);have p:=K0 (f:=left n) (g:=λi=>(r,i%(row n r).length)) (row n r).length λi m=>by
   show((r,(i%(row n r).length+1)%(row n r).length):bi)=_;rw[Nat.mod_add_mod]
  have e:((r,0%(row n r).length):bi)=(r,(row n r).length%(row n r).length):=by rw[Ec,Nat.zero_mod]
  refine⟨(r,0%(row n r).length),Ag.mpr ⟨0,Bg.mpr j,rfl⟩,?_⟩;have p:=p;rwa[<-e]at p
 ·refine(uV (nV n) (λe k=>?_) ?_).symm
  ·obtain⟨z,a⟩:=af.mp k;have b:=iy a;exact Ch.mpr ⟨_,Ag.mpr ⟨e.1,Bg.mpr (dB a),rfl⟩,Ag.mpr ⟨e.2,Bg.mpr b,FZ rfl (Ca b)⟩⟩
  ·rw[sum_rows,kQ];exact Aq _
end Nt
namespace Nt
open PySem L2 Dt
end Nt
namespace Nt
open PySem L2 Classical
end Nt
namespace Nt
open PySem L2
def cc.ls{Ls a:List (List α)}(d:cc f D Ls)(h:Ls.Perm a):cc f D a:=⟨λl b=>d.cr l<|h.mem_iff.mpr b,(h.flatten).symm.trans d.all,d.nd⟩
def cc.Rp(d:cc f D<|(p++q):: e):cc f D ((q++p):: e):=by
 refine⟨λl b=>?_,?_,d.nd⟩
 ·obtain rfl|b:=Ak.mp b
  ·obtain⟨a,i,h⟩:=d.cr _ Ac;obtain⟨m,j,c⟩:=aQ.mp h;refine⟨m,?_,aQ.mpr ⟨a,c,j⟩⟩;cases q with
   |nil=>have:m=a:=c;rw[this];exact Ar _<|by rwa[Bd]at i
   |cons x q=>rw[<-c.1];exact As _ Ac
  ·exact d.cr l<|Af _ b
 ·refine List.Perm.trans ?_ d.all;rw[Bf,Bf];exact List.perm_append_comm.append_right _
noncomputable def gd{α:Type}[DecidableEq α](e a x:α):Bool:=decide (x≠e) && decide (x≠a)
def dh[DecidableEq α]{x:α}:gd e a x=true↔x≠e/\x≠a:=by unfold gd;rw[Bx,CN,CN]
def cj[DecidableEq α]{x:α}:gd e a x=false↔x=e\/x=a:=by
 rw[<-Bool.not_eq_true,dh];exact⟨λh=>CJ λk=>h ⟨λq=>k<|.inl q,λq=>k<|.inr q⟩,λh k=>h.elim k.1 k.2⟩
def nx[DecidableEq α](e a:α)(f:α->α)(y:α):α:=if gd e a y then y else if gd e a (f y)then f y else f (f y)
def sk[DecidableEq α](e a:α)(f:α->α)(x:α):α:=nx e a f<|f x
section
variable{α:Type}[DecidableEq α]{e e':α}
theorem DO:∀{l}{a b},(∀x∈l,gd e e' x=false->nx e e' f x=nx e e' f (f x))->cq f l a b->cq (sk e e' f) (l.filter<|gd e e') (nx e e' f a) (nx e e' f b)
 |[],_,_,_,h=>BX _ h
 |x :: l,a,b,c,h=>by
  obtain⟨rfl,h⟩:=h;have i:=DO (λy d=>c y<|Af _ d) h;cases g:gd e e' x with
  |true=>
   rw[Fw g];refine⟨by unfold nx;rw[BL g],?_⟩;have:sk e e' f x=nx e e' f (f x):=rfl;rwa[this]
  |false=>
   rwa[Fa (g▸Av),c x Ac g]
end
def cc.Rq[DecidableEq α]{Ls:List (List α)}(d:cc f D Ls)(ne:∀l∈Ls,l.filter (gd e b)≠[]):cc (sk e b f) (D.filter<|gd e b) (Ls.map<|List.filter<|gd e b):=by
 refine⟨λl w=>?_,?_,d.nd.filter _⟩
 ·obtain⟨l,s,rfl⟩:=Ag.mp w;clear w;obtain⟨a,N,p⟩:=d.cr l s;have t:cq (sk e b f) (l.filter<|gd e b) (nx e b f a) (nx e b f a):=by
   refine DO (λx G u=>?_) p;show(if gd e b x then x else if gd e b (f x)then f x else f (f x))=(if gd e b (f x)then f x else if gd e b (f<|f x)then f (f x)else f (f<|f x));rw[u,C Av];cases z:gd e b (f x) with
   |true=>rfl
   |false=>
    rw[C Av,C Av];cases H:gd e b (f<|f x) with
    |true=>rfl
    |false=>
     exfalso
     obtain⟨y,I⟩:=Dy _<|ne l s;have n:=Ao.mp I;have two:∀k,it f k x=x\/it f k x=f x:=by
      intro k
      induction k with
      |zero=>exact .inl rfl
      |succ k J=>
       show f (it f k x)=x\/f (it f k x)=f x
       obtain q|q:=J
       ·rw[q];exact .inr rfl
       ·rw[q]
        by_cases c:f x=x
        ·rw[c,c];exact .inl rfl
        ·obtain i|i:=cj.mp u<;>obtain j|j:=cj.mp z<;>obtain o|o:=cj.mp H
         ·exact absurd (j.trans i.symm) c
         ·exact absurd (j.trans i.symm) c
         ·exact .inl<|o.trans i.symm
         ·exact .inr<|o.trans j.symm
         ·exact .inr<|o.trans j.symm
         ·exact .inl<|o.trans i.symm
         ·exact absurd (j.trans i.symm) c
         ·exact absurd (j.trans i.symm) c
     have v:∃k,it f k x=y:=by
      obtain⟨O,Q,L⟩:=Do G;have A:=p;have B:=n.1;rw[L]at A B;obtain⟨m,M,E⟩:=aQ.mp A;have em:=E.1;subst em;refine HG (aQ.mpr ⟨a,E,M⟩) ?_
      obtain q|q:=Al.mp B
      ·exact Ar _ q
      ·exact As _ q
     obtain⟨k,rfl⟩:=v
     obtain q|q:=two k
     ·rw[q,u]at n;cases n.2
     ·rw[q,z]at n;cases n.2
  refine⟨nx e b f a,?_,t⟩;cases h:l.filter (gd e b) with
  |nil=>exact absurd h<|ne l s
  |cons x r=>rw[h]at t;rw[<-t.1];exact Ac
 ·have:(Ls.map<|List.filter<|gd e b).flatten=Ls.flatten.filter (gd e b):=by
   rw[List.filter_flatten]
  rw[this];exact d.all.filter _
def jf{α:Type}[DecidableEq α](e a:α)(f:α->α)(x:α):α:=if f x=e then(if f a=a then f e else f a)else if f x=a then(if f e=e then f a else f e)else f x
def cx{α:Type}[DecidableEq α]{f g:α->α}{l:List α}{a b:α}(h:∀x∈l,g x=f x)(p:cq f l a b):cq g l a b:=by
 have:=Hv (f':=g) (g:=id) (λx c=>h x c) p;rwa[List.map_id]at this
theorem Jz{α:Type}[DecidableEq α]{f g:α->α}{c h:α}:∀{l:List α}{a:α},l≠[]->(∀y∈l,f y=c->g y=h)->(∀y∈l,f y≠c->g y=f y)->c∉l->cq f l a c->cq g l a h
 |[],_,ne,_,_,_,_=>absurd rfl ne
 |x :: l,a,_,b,d,e,p=>by
  obtain⟨rfl,i⟩:=p;have:=y7 (f:=f) (f':=g) (g:=id) (c:=c) (h:=h) (l:=l) (x:=x) b d (λq=>e<|Af _ q) ⟨rfl,i⟩;rwa[List.map_id]at this
def cc.join{α:Type}[DecidableEq α]{e i:α}{f:α->α}{D A B:List α}{L:List (List α)}(d:cc f D<|(e :: A):: (i :: B):: L)(bp:A++B≠[]):cc (jf e i f) (D.filter<|gd e i) ((A++B):: L):=by
 have nd:=d.all.nodup_iff.mpr d.nd;rw[Bf,Bf,Bj]at nd;obtain⟨n1,z,Q⟩:=nd;rw[Bj]at z;obtain⟨z,n4,T⟩:=z;have E:e∉A:=(Bb.mp n1).1;have G:i∉B:=(Bb.mp z).1;have s:∀x∈e :: A,∀y∈i :: B,x≠y:=λx j y n=>Q x j y<|As _ n;have Y:∀x∈e :: A,∀y∈L.flatten,x≠y:=λx j y n=>Q x j y<|Ar _ n;obtain⟨a,ha,M⟩:=d.cr _ Ac;obtain rfl:e=a:=M.1;obtain⟨b,hb,N⟩:=d.cr _<|Af _ Ac;obtain rfl:i=b:=N.1;have cb:∀x∈i :: B,f x∈i :: B:=λx j=>lU N hb j;have H:cq f A (f e) e:=M.2;have I:cq f B (f i) i:=N.2;have O:A≠[]->f e∈A:=λh=>by
  cases A with
  |nil=>exact absurd rfl h
  |cons x r=>rw[<-H.1];exact Ac
 have t:B≠[]->f i∈B:=λh=>by
  cases B with
  |nil=>exact absurd rfl h
  |cons x r=>rw[<-I.1];exact Ac
 have u:∀x∈A,f x=e->jf e i f x=if f i=i then f e else f i:=λx _ q=>by unfold jf;rw[BL q]
 have Jy:∀x∈A,f x≠e->jf e i f x=f x:=λx j q=>by
  unfold jf;rw[C q,C<|s _ ((λx j=>lU M ha j) x<|Af _ j) _ Ac]
 have v:∀x∈B,f x=i->jf e i f x=if f e=e then f i else f e:=λx j q=>by
  unfold jf;rw[C λk=>s e Ac (f x) (cb x<|Af _ j) k.symm,BL q]
 have w:∀x∈B,f x≠i->jf e i f x=f x:=λx j q=>by
  unfold jf;rw[C λk=>s e Ac (f x) (cb x<|Af _ j) k.symm,C q]
 have A0:A=[]->f e=e:=λh=>by subst h;exact H
 have B0:B=[]->f i=i:=λh=>by subst h;exact I
 have A1:A≠[]->f e≠e:=λh k=>E (by have:=O h;rwa[k]at this);have B1:B≠[]->f i≠i:=λh k=>G (by have:=t h;rwa[k]at this);refine⟨λl J=>?_,?_,d.nd.filter _⟩
 ·obtain rfl|J:=Ak.mp J
  ·by_cases o:A=[]
   ·subst o;have p:B≠[]:=bp;exact⟨f i,t p,Jz (h:=f i) p (λy n q=>by rw[v y n q,BL<|A0 rfl]) w G I⟩
   ·by_cases p:B=[]
    ·subst p;rw[Bd];exact⟨f e,O o,Jz (h:=f e) o (λy n q=>by rw[u y n q,BL<|B0 rfl]) Jy E H⟩
    ·refine⟨f e,As _<|O o,aQ.mpr ⟨f i,Jz o (λy n q=>by rw[u y n q,C<|B1 p]) Jy E H,Jz p (λy n q=>by rw[v y n q,C<|A1 o]) w G I⟩⟩
  ·obtain⟨c,hc,pc⟩:=d.cr l<|Af _<|Af _ J;refine⟨c,hc,cx (λx j=>?_) pc⟩;have m:=Ch.mpr ⟨l,J,lU pc hc j⟩;unfold jf;rw[C λk=>Y e Ac _ m k.symm,C λk=>T i Ac _ m k.symm]
 ·have h:=d.all.filter<|gd e i;rw[Bf,Bf,Cf,Cf,Fa (by rw[cj.mpr<|.inl rfl];exact Av),Fa<|by rw[cj.mpr<|.inr rfl];exact Av]at h;rw[Bf,Ap];refine List.Perm.trans ?_ h;have fA:A.filter (gd e i)=A:=Fc.mpr λx j=>dh.mpr ⟨λk=>E (k▸j),s x (Af _ j) i Ac⟩;have fB:B.filter (gd e i)=B:=Fc.mpr λx j=>dh.mpr ⟨λk=>s e Ac x (Af _ j) k.symm,λk=>G<|k▸j⟩;rw[fA,fB,Fc.mpr λx j=>dh.mpr ⟨λk=>Y e Ac x j k.symm,λk=>T i Ac x j k.symm⟩]
structure Dp(n m:bc)(s:bi->bi)(D:List bi)(RD:List<|List bi):Prop where
 rows:m.map (·.2)=RD.map (List.map<|aw n)
 dec:cc s D RD
 sub:∀x∈D,x∈ends n
 iZ:∀x∈D,other n x∈D
def gD(a:List<|List bi)(x:bi):bi:=((a[x.1]?.getD [])[x.2]?).getD (0,0)
section
variable{n m:bc}{s:bi->bi}{D:List bi}{RD:List (List bi)}
def Dp.row(d:Dp n m s D RD)(r:Nat):row m r=(RD[r]?.getD []).map (aw n):=by
 have h:=BX (λl=>(l[r]?).getD []) d.rows;simp only[Aj]at h;unfold Nt.row;rw[h];cases RD[r]?<;>rfl
end
section
variable{n m:bc}{s:bi->bi}{D:List bi}{RD:List (List bi)}
theorem Dp.at(d:Dp n m s D RD)(h:x∈ends m):∃l,RD[x.1]?=some l/\l[x.2]?=some (gD RD x):=by
 obtain⟨z,b⟩:=af.mp h;unfold aH at b;rw[d.row,Aj,Ba]at b;obtain⟨e,a,_⟩:=b;cases c:RD[x.1]? with
 |none=>rw[c]at a;cases a
 |some l=>
  rw[c]at a;refine⟨l,rfl,?_⟩;unfold gD;rw[c];have f:l[x.2]?=some e:=a;show l[x.2]?=some ((l[x.2]?).getD (0,0));rw[f];rfl
end
def Dp.of(d:Dp n m s D a)(b:a[i]?=some l)(c:l[k]?=some e):(i,k)∈ends m/\gD a (i,k)=e:=by
 refine⟨af.mpr ⟨aw n e,?_⟩,?_⟩
 ·unfold aH;show(Nt.row m i)[k]?=_;rw[d.row,b];show(l.map<|aw n)[k]?=_;rw[Aj,c];rfl
 ·unfold gD;show(((a[i]?).getD [])[k]?).getD (0,0)=e;rw[b];show(l[k]?).getD (0,0)=e;rw[c];rfl
def Dp.mem(d:Dp n m s D a)(h:x∈ends m):gD a x∈D:=by
 obtain⟨l,b,c⟩:=d.at h;exact d.dec.sub (An b)<|An c
def Dp.ou(d:Dp n m s D c)(h:e∈D):∃x∈ends m,gD c x=e:=by
 obtain⟨l,f,j⟩:=Ch.mp<|d.dec.all.mem_iff.mpr h;obtain⟨i,a⟩:=Bp f;obtain⟨k,b⟩:=Bp j;exact⟨(i,k),(d.of a b).1,(d.of a b).2⟩
def Dp.inj(d:Dp n m s D a)(c:x∈ends m)(e:y∈ends m)(h:gD a x=gD a y):x=y:=by
 obtain⟨l,f,i⟩:=d.at c;obtain⟨k,j,b⟩:=d.at e;rw[<-h]at b;have:=JJ (d.dec.all.nodup_iff.mpr d.dec.nd) f i j b;exact FZ this.1 this.2
def Dp.c6(d:Dp n m s D a)(h:x∈ends m):aH m x=aH n (gD a x):=by
 obtain⟨l,c,e⟩:=d.at h;obtain⟨z,b⟩:=af.mp<|d.sub _<|d.mem h;unfold aH;rw[d.row,c];show(l.map<|aw n)[x.2]?=_;rw[Aj,e];have:(Nt.row n (gD a x).1)[(gD a x).2]?=some z:=b;rw[this,<-cB b];rfl
section
variable{n m:bc}{s:bi->bi}{D:List bi}{RD:List (List bi)}
def Dp.other(T:ao n)(a:ao m)(d:Dp n m s D RD)(h:x∈ends m):gD RD (other m x)=Nt.other n (gD RD x):=by
 obtain⟨z,b⟩:=af.mp h;have o:=cS a b;have c:aH n (gD RD x)=some z:=by rwa[<-d.c6 h]
 have e:aH n (gD RD<|Nt.other m x)=some z:=by rw[<-d.c6<|af.mpr ⟨z,o.1⟩];exact o.1
 obtain q|q:=(kc T c).mp e
 ·exact absurd (d.inj (af.mpr ⟨z,o.1⟩) h q) o.2.2
 ·exact q
end
theorem LP:∀{l}{a b x}{i},cq f l a b->l[i]?=some x->(∀y,l[i+1]?=some y->f x=y)/\(i+1=l.length->f x=b)
 |y :: l,a,b,x,0,h,c=>by
  cases c;refine⟨λz d=>?_,λe=>?_⟩
  ·cases l with
   |nil=>cases d
   |cons w l=>cases d;exact h.2.1.symm
  ·cases l with
   |nil=>exact h.2
   |cons w l=>simp at e
 |y :: l,a,b,x,i+1,h,c=>by
  have:=LP h.2 (by simpa using c);exact⟨λz d=>this.1 z (by simpa using d),λe=>this.2<|by simpa using e⟩
 |[],_,_,_,_,_,c=>by cases c
section
variable{n m:bc}{s:bi->bi}{D:List bi}{RD:List (List bi)}
def Dp.left(d:Dp n m s D RD)(h:x∈ends m):gD RD (left m x)=s (gD RD x):=by
 obtain⟨l,b,f⟩:=d.at h;obtain⟨a,i,p⟩:=d.dec.cr l<|An b;have k:=(Ad.mp f).1;have j:(Nt.row m x.1).length=l.length:=by rw[d.row,b];exact Aa _
 have nx:=LP p f;unfold Nt.left;rw[j]
 by_cases c:x.2+1<l.length
 ·rw[Ca c,(d.of b<|Ab c).2];exact(nx.1 _<|Ab c).symm
 ·have e:x.2+1=l.length:=by lia
  rw[e,Ec];rw[nx.2 e];cases l with
  |nil=>cases i
  |cons y l=>
   rw[(d.of b rfl).2];exact p.1
end
def Rr(T:ao n)(b:aH n e=some z)(d:x∈ends n):gd e (other n e) x=decide (aw n x≠z):=by
 obtain⟨y,a⟩:=af.mp d;rw[cB a]
 by_cases c:y=z
 ·subst c;rw[BR λk=>k rfl];exact cj.mpr<|(kc T b).mp a
 ·rw[BW c];refine dh.mpr ⟨λk=>c ?_,λk=>c ?_⟩
  ·subst k;rw[b]at a;exact(Option.some.inj a).symm
  ·subst k;rw[(cS T b).1]at a;exact(Option.some.inj a).symm
def FF(T:ao n)(b:aH n e=some z):∀x∈(ends n).filter (gd e<|other n e),other n x∈(ends n).filter (gd e<|other n e):=λx d=>by
 obtain⟨a,f⟩:=Ao.mp d;refine Ao.mpr ⟨cE T a,?_⟩;obtain⟨y,c⟩:=af.mp a;rwa[Rr T b<|cE T a,cB (cS T c).1,<-cB c,<-Rr T b a]
def en(T:ao n)(a:aH n e=some z):∀l:List bi,(∀x∈l,x∈ends n)->(l.map<|aw n).filter (λy=>decide (y≠z))=(l.filter<|gd e<|other n e).map (aw n):=λl b=>by
 rw[List.filter_map]
 congr 1
 refine Gw λx c=>?_;show decide (aw n x≠z)=_;rw[Rr T a<|b x c]
def LH(T:ao n)(d:Dp n m0 f (ends n) a)(b:aH n e=some z):(bd m0 z).map (·.2)=(a.map<|List.filter<|gd e<|other n e).map (List.map<|aw n):=by
 have c:(bd m0 z).map (·.2)=(m0.map (·.2)).map (List.filter λy=>decide (y≠z)):=by
  unfold bd;rw[Bi,Bi];rfl
 rw[c,d.rows,Bi,Bi];refine At λl h=>?_;exact en T b l λx i=>d.sub x<|d.dec.sub h i
def cy(T:ao n)(d:Dp n m0 f (ends n) a)(b:aH n e=some z)(i:∀r∈bd m0 z,r.2≠[]):Dp n (bd m0 z) (sk e (other n e) f) ((ends n).filter<|gd e<|other n e) (a.map<|List.filter<|gd e<|other n e):=by
 refine⟨LH T d b,d.dec.Rq λl j k=>?_,λx m=>(Ao.mp m).1,FF T b⟩;have:l.filter (gd e<|other n e)∈a.map (List.filter<|gd e<|other n e):=Ag.mpr ⟨l,j,rfl⟩;have c:(l.filter<|gd e<|other n e).map (aw n)∈(a.map<|List.filter<|gd e<|other n e).map (List.map<|aw n):=Ag.mpr ⟨_,this,rfl⟩;rw[<-LH T d b]at c;obtain⟨r,o,h⟩:=Ag.mp c;rw[k]at h;exact i r o h
theorem BC(h:z∉a):aN (a++z :: b) z=a.length:=by
 induction a with
 |nil=>show(if z=z then 0 else _)=0;rw[BL rfl]
 |cons x a c=>
  show(if x=z then 0 else aN (a++z :: b) z+1)=a.length+1;rw[C λk=>h (by rw[k];exact Ac),c λk=>h<|Af _ k]
def Lu:(a++z :: b).drop (a.length+1)=b:=by
 rw[show a++z :: b=(a++[z])++b by simp,List.drop_left'<|by simp]
def IF:(a++z :: b).take a.length=a:=List.take_left' rfl
def BH(c:r0<N)(d:r1<N)(ne:r0≠r1):(range N).Perm (r0 :: r1 :: (range N).filter λr=>decide (r≠r0) && decide (r≠r1)):=by
 refine(Dk Fi ?_).mpr λr=>?_
 ·refine Bb.mpr ⟨λk=>?_,Bb.mpr ⟨λk=>?_,List.nodup_range.filter _⟩⟩
  ·obtain k|k:=Ak.mp k
   ·exact ne k
   ·have:=(Ao.mp k).2;simp at this
  ·have:=(Ao.mp k).2;simp at this
 ·simp only[Ak,Ao,Bg,Bx,CP]
  constructor
  ·intro h
   by_cases a:r=r0
   ·exact .inl a
   ·by_cases b:r=r1
    ·exact .inr<|.inl b
    ·exact .inr<|.inr ⟨h,a,b⟩
  ·rintro (rfl|rfl|h)
   ·exact c
   ·exact d
   ·exact h.1
def Q1(c:r0<N)(ne:r0≠r1):((range N).filter λr=>decide (r≠r1)).Perm (r0 :: (range N).filter λr=>decide (r≠r0) && decide (r≠r1)):=by
 refine(Dk (List.nodup_range.filter _) ?_).mpr λr=>?_
 ·refine Bb.mpr ⟨λk=>?_,List.nodup_range.filter _⟩;have:=(Ao.mp k).2;simp at this
 ·simp only[Ak,Ao,Bg,Bx,CP]
  constructor
  ·rintro ⟨h,b⟩
   by_cases a:r=r0
   ·exact .inl a
   ·exact .inr ⟨h,a,b⟩
  ·rintro (rfl|h)
   ·exact⟨c,ne⟩
   ·exact⟨h.1,h.2.2⟩
def mx(d:Dp n m0 f (ends n) a):a.length=m0.length:=by
 have:=BX List.length d.rows;rw[Aa,Aa]at this;exact this.symm
theorem WI(T:ao n)(d:Dp n m0 f (ends n) b)(h:d8 m0 z=[r0,r1])(bp:i6 (row m0 r0) (row m0 r1) z≠[]):
  ∃e J,aH n e=some z/\(∃l∈b,e∈l/\other n e∉l)/\Dp n (shr m0 z r0 r1) (jf e (other n e) f) ((ends n).filter<|gd e<|other n e) J:=by
 have v:=xE h;have L:=Bw<|C1 h;have len:=mx d;have l0:r0<b.length:=by have:=v.l0;omega
 have l1:r1<b.length:=by have:=v.l1;omega
 have w:=Ab l0;have g1:=Ab l1;generalize b[r0]=M at w;generalize b[r1]=O at g1;have I:=An w;have Q:=An g1;have rA:row m0 r0=M.map (aw n):=by rw[d.row,w];rfl
 have rB:row m0 r1=O.map (aw n):=by rw[d.row,g1];rfl
 have zA:z∈M.map (aw n):=by rw[<-rA];exact v.m0
 have zB:z∈O.map (aw n):=by rw[<-rB];exact v.m1
 obtain⟨e,D,Y⟩:=Ag.mp zA;obtain⟨e',E,vY⟩:=Ag.mp zB;have hE:=d.dec.sub I D;have DH:=d.dec.sub Q E;have G:aH n e=some z:=by obtain⟨y,m⟩:=af.mp hE;rw[cB m]at Y;rw[m,Y]
 have Ö:aH n e'=some z:=by obtain⟨y,m⟩:=af.mp DH;rw[cB m]at vY;rw[m,vY]
 have Rv:=d.dec.all.nodup_iff.mpr d.dec.nd;have a:∀x∈M,x∉O:=λx o m=>by
  obtain⟨i,hi⟩:=Bp o;obtain⟨j,hj⟩:=Bp m;exact L (JJ Rv w hi g1 hj).1
 have eo:e'=other n e:=by
  obtain q|q:=(kc T G).mp Ö
  ·subst q;exact absurd E<|a _ D
  ·exact q
 subst eo;obtain⟨p,t,rfl⟩:=Do D;obtain⟨s,u,rfl⟩:=Do E;have nA:=Rv.sublist<|QV I;have nB:=Rv.sublist<|QV Q;have zP:z∉p.map (aw n):=λk=>by
  obtain⟨x,o,H⟩:=Ag.mp k;have fm:=d.dec.sub I<|As _ o;have tx:aH n x=some z:=by obtain⟨y,m⟩:=af.mp fm;rw[cB m]at H;rw[m,H]
  obtain q|q:=(kc T G).mp tx
  ·subst q;exact(Bj.mp nA).2.2 x o x Ac rfl
  ·subst q;exact a _ (As _ o) E
 have zQ:z∉s.map (aw n):=λk=>by
  obtain⟨x,o,H⟩:=Ag.mp k;have fm:=d.dec.sub Q<|As _ o;have tx:aH n x=some z:=by obtain⟨y,m⟩:=af.mp fm;rw[cB m]at H;rw[m,H]
  obtain q|q:=(kc T G).mp tx
  ·subst q;exact a _ D<|As _ o
  ·subst q;exact(Bj.mp nB).2.2 _ o _ Ac rfl
 have eJ:i6 (row m0 r0) (row m0 r1) z=(p++(u++s)++t).map (aw n):=by
  rw[rA,rB,Ai,Ai,Be,Be,Y,vY];unfold i6;rw[BC zP,BC zQ,IF,IF,Lu,Lu,Ai,Ai,Ai]
 have hJ:p++(u++s)++t≠[]:=λk=>bp (by rw[eJ,k];rfl);have Ø:b=(range m0.length).map λr=>b[r]?.getD []:=by
  refine Fu (by rw[Aa,Cw];exact len) λi h1 h2=>?_;rw[Cp,Ee,Ab h1];rfl
 let Ms:=((range m0.length).filter λr=>decide (r≠r0) && decide (r≠r1)).map λr=>b[r]?.getD []
 have p1:b.Perm ((p++e :: t):: (s++other n e :: u):: Ms):=by
  have:=(BH (N:=m0.length) v.l0 v.l1 L).map λr=>b[r]?.getD [];rwa[<-Ø,Be,Be,w,g1]at this
 have d2:=((((d.dec.ls p1).Rp).ls<|List.Perm.swap _ _ _).Rp).ls<|List.Perm.swap _ _ _;have d3:cc (jf e (other n e) f) ((ends n).filter<|gd e<|other n e) (((t++p)++(u++s)):: Ms):=cc.join (A:=t++p) (B:=u++s) d2 λk=>hJ<|by
  simp only[Ek]at k ⊢;exact⟨⟨k.1.2,k.2⟩,k.1.1⟩
 rw[Ap]at d3;refine⟨e,((range m0.length).filter λr=>decide (r≠r1)).map λr=>if r=r0 then p++(u++s)++t else b[r]?.getD [],G,⟨_,I,D,λk=>a _ k E⟩,?_,?_,λx o=>(Ao.mp o).1,FF T G⟩
 ·unfold shr iN;rw[Bi,Bi];refine At λr _=>?_;show(if r=r0 then i6 (row m0 r0) (row m0 r1) z else row m0 r)=(if r=r0 then p++(u++s)++t else b[r]?.getD []).map (aw n)
  by_cases c:r=r0
  ·rw[BL c,BL c,eJ]
  ·rw[C c,C c,d.row]
 ·refine d3.Rp.ls ?_;have:=(Q1 (N:=m0.length) v.l0 L).map λr=>if r=r0 then p++(u++s)++t else b[r]?.getD [];rw[Be,BL rfl]at this;refine List.Perm.trans ?_ this.symm;refine List.Perm.cons _<|List.Perm.of_eq<|At λr hr=>?_;have:=(Ao.mp hr).2;rw[Bx,CP,CP]at this;rw[C this.1]
def EN(T:ao n)(h:∀r,r<n.length->row n r≠[]):Dp n n (left n) (ends n) (DB n):=by
 refine⟨?_,q3r h,λx a=>a,λx a=>cE T a⟩;unfold DB;refine Fu (by simp) λi d f=>?_;have e:i<n.length:=by simpa using d
 simp only[Cp,Ee,Bi];have b:=lv e;show n[i].2=((range (row n i).length).map λj=>((i,j%(row n i).length):bi)).map (aw n);rw[Bi,b];refine Fu (by simp) λj c k=>?_;simp only[Cp,Ee,Function.comp];have l:j<(row n i).length:=by rwa[b]
 have t:aH n (i,j%n[i].2.length)=some n[i].2[j]:=by
  unfold aH;show(row n i)[j%n[i].2.length]?=_;rw[b,Ca c];exact Ab c
 exact(cB t).symm
def zw{Ls:List (List bi)}(c:cc g (ends n) Ls)(inj:∀a∈ends n,∀b∈ends n,g a=g b->a=b)(s:d∈ends n)(f:l∈Ls)(h:e∈l)(r:d∉l):g e≠d/\g d≠e:=by
 obtain⟨a,t,p⟩:=c.cr l f;have o:∀x∈l,g x∈l:=λx q=>lU p t q;refine⟨λk=>r (k▸(o e h)),λk=>?_⟩;obtain⟨j,w,_,u⟩:=yL o (λx q y v=>inj x (c.sub f q) y<|c.sub f v) h;obtain⟨i,rfl⟩:∃i,j=i+1:=⟨j-1,by lia⟩;have m:=lR o h i;have:g (it g i e)=e:=u;exact r<|by rwa[inj d s _ (c.sub f m)<|k.trans this.symm]
open Classical
def bY:v∈lz n↔v.1∈ends n:=by
 unfold lz;obtain⟨x,b⟩:=v
 constructor
 ·intro h
  obtain h|h:=Al.mp h
  ·obtain⟨y,a,q⟩:=Ag.mp h;rwa[<-q]
  ·obtain⟨y,a,q⟩:=Ag.mp h;rwa[<-q]
 ·intro h;cases b with
  |true=>exact As _<|Ag.mpr ⟨x,h,rfl⟩
  |false=>exact Ar _<|Ag.mpr ⟨x,h,rfl⟩
def gp(n:bc)(e:bi)(v:c8):Bool:=gd e (other n e) v.1
def DI(T:ao n)(o:ao m)(d:Dp n m s ((ends n).filter<|gd e<|other n e) k){Ls:List (List c8)}(E:cc f (lz n) Ls)
  (G:∀y∈(ends n).filter (gd e<|other n e),dq f (gp n e) (f (y,true)) (s<|other n y,false))
  (H:∀y∈(ends n).filter (gd e<|other n e),∀u∈(ends n).filter (gd e<|other n e),s u=other n y->dq f (gp n e) (f (y,false)) (u,true))
  (i:∀l∈Ls,∃v∈l,gp n e v=true):Ls.length=2*(aE m).length:=by
 have key:∀v∈lz m,dq f (gp n e) (f (gD k v.1,v.2)) (gD k (tau m v).1,(tau m v).2):=λv i=>by
  obtain⟨x,b⟩:=v;have j:=bY.mp i;have B:=d.mem j;have t:=cE o j;cases b with
  |true=>
   have:=G _ B;show dq f _ _ (gD k<|go 1 m x,false);unfold go;rwa[<-pJ t,d.left t,d.other T o j]
  |false=>
   have r:b6 (-1) m (other m x)∈ends m:=wU t;refine H _ B _ (d.mem r) ?_;show s (gD k<|b6 (-1) m<|other m x)=_;rw[<-d.left r,pJ r,show b6 1 m (b6 (-1) m<|other m x)=other m x from mJ t,d.other T o j]
 have I:∀v∈lz n,gp n e v=true->∃c,dq f (gp n e) (f v) c:=λv i w=>by
  obtain⟨y,b⟩:=v;obtain⟨x,j,rfl⟩:=d.ou<|Ao.mpr ⟨bY.mp i,w⟩;exact⟨_,key (x,b)<|bY.mpr j⟩
 let g:c8->c8:=λv=>if h:∃c,dq f (gp n e) (f v) c then h.choose else v
 have D:∀v,(∃c,dq f (gp n e) (f v) c)->dq f (gp n e) (f v) (g v):=λv h=>by
  show dq f _ _ (if h:∃c,dq f (gp n e) (f v) c then h.choose else v);rw[dif_pos h];exact h.choose_spec
 have z:=E.out (g:=g) (p:=gp n e) (λv i w=>D v<|I v i w) i;have pm:((lz m).map λv=>(gD k v.1,v.2)).Perm ((lz n).filter<|gp n e):=by
  refine(Dk ?_ z.nd).mpr λv=>⟨λh=>?_,λh=>?_⟩
  ·refine Pn (Jx o).nd λa A b J q=>?_;have L:a.2=b.2:=(Prod.mk.inj q).2;exact FZ (d.inj (bY.mp A) (bY.mp J)<|BX Prod.fst q) L
  ·obtain⟨a,A,rfl⟩:=Ag.mp h;have:=Ao.mp<|d.mem<|bY.mp A;exact Ao.mpr ⟨bY.mpr this.1,this.2⟩
  ·obtain⟨M,r⟩:=Ao.mp h;obtain⟨y,b⟩:=v;obtain⟨x,j,rfl⟩:=d.ou<|Ao.mpr ⟨bY.mp M,r⟩;exact Ag.mpr ⟨(x,b),bY.mpr j,rfl⟩
 have:=cc.unique z ((Jx o).carry (f':=g) (g:=λv=>(gD k v.1,v.2)) (λv i=>(D _ ⟨_,key v i⟩).uniq<|key v i) pm z.nd);rwa[Aa,Aa,EU]at this
def fO(n:bc)(e:bi):c8->c8:=sw (e,true) (other n e,false)<|sw (e,false) (other n e,true)<|tau n
def fS(n:bc)(e:bi):c8->c8:=sw (e,true) (e,false)<|sw (other n e,true) (other n e,false)<|tau n
def JA(T:ao n)(a:e∈ends n):other n e≠e:=by
 obtain⟨z,b⟩:=af.mp a;exact(cS T b).2.2
def Rh(T:ao n)(b:e∈ends n):(∀v,gp n e v=true->fO n e v=tau n v)/\∀w,w=e\/w=other n e->fO n e (w,false)=(b6 1 n w,false)/\fO n e (w,true)=(b6 (-1) n w,true):=by
 have ne:=JA T b;have c:=vI T b;refine⟨λv a=>?_,λw d=>?_⟩
 ·have a:=dh.mp a;unfold fO sw;rw[C λq=>a.1<|BX Prod.fst q,C λq=>a.2<|BX Prod.fst q,C λq=>a.1<|BX Prod.fst q,C λq=>a.2<|BX Prod.fst q]
 ·unfold fO sw
  obtain rfl|rfl:=d
  ·constructor
   ·rw[C λq=>Bool.noConfusion<|BX Prod.snd q,C λq=>ne (BX Prod.fst q).symm,BL rfl];show(go 1 n<|other n w,false)=_;unfold go;rw[c]
   ·rw[BL rfl,C λq=>ne<|BX Prod.fst q,C λq=>Bool.noConfusion<|BX Prod.snd q];show(go (-1) n<|other n w,true)=_;unfold go;rw[c]
  ·constructor
   ·rw[C λq=>ne<|BX Prod.fst q,BL rfl,C λq=>Bool.noConfusion<|BX Prod.snd q,C λq=>ne (BX Prod.fst q).symm];rfl
   ·rw[C λq=>ne<|BX Prod.fst q,C λq=>Bool.noConfusion<|BX Prod.snd q,C λq=>ne<|BX Prod.fst q,BL rfl];rfl
def LD(T:ao n)(b:e∈ends n):(∀v,gp n e v=true->fS n e v=tau n v)/\∀w,w=e\/w=other n e->fS n e (w,false)=(b6 1 n<|other n w,false)/\fS n e (w,true)=(b6 (-1) n<|other n w,true):=by
 have ne:=JA T b;refine⟨λv a=>?_,λw c=>?_⟩
 ·have a:=dh.mp a;unfold fS sw;rw[C λq=>a.1<|BX Prod.fst q,C λq=>a.1<|BX Prod.fst q,C λq=>a.2<|BX Prod.fst q,C λq=>a.2<|BX Prod.fst q]
 ·unfold fS sw
  obtain rfl|rfl:=c
  ·constructor
   ·rw[C λq=>Bool.noConfusion<|BX Prod.snd q,BL rfl,C λq=>ne (BX Prod.fst q).symm,C λq=>ne (BX Prod.fst q).symm];rfl
   ·rw[BL rfl,C λq=>ne (BX Prod.fst q).symm,C λq=>ne (BX Prod.fst q).symm];rfl
  ·constructor
   ·rw[C λq=>ne<|BX Prod.fst q,C λq=>ne<|BX Prod.fst q,C λq=>Bool.noConfusion<|BX Prod.snd q,BL rfl];rfl
   ·rw[C λq=>ne<|BX Prod.fst q,C λq=>ne<|BX Prod.fst q,BL rfl];rfl
def cc.tJ[DecidableEq α]{Ls:List (List α)}(h:cc f D Ls)(m1:e∈Ls)(s:i∈Ls)(t:j∈Ls)(u:l∈Ls)(v:e≠i)(m:e≠j)(n:e≠l)(o:i≠j)(p:i≠l)(q:j≠l)(w:a∈e)(x:b∈i)(y:c∈j)(hd:d∈l):∃L,cc (sw a b<|sw c d f) D L/\L.length+2=Ls.length:=by
 obtain⟨L,k,z,B,_,_,r⟩:=h.ph t u q y hd;obtain⟨A,E,g1,g2,_⟩:=z.ph (r e m1 m n) (r i s o p) v w x;exact⟨A,g1,by lia⟩
def cc.pj[DecidableEq α]{Ls:List (List α)}(h:cc f D Ls)(m1:e∈Ls)(j:i∈Ls)(k:e≠i)(l:a∈e)(m:b∈e)(n:c∈i)(hd:d∈i)(ab:a≠b)(o:c≠d):∃L,cc (sw a b<|sw c d f) D L/\L.length=Ls.length+2:=by
 obtain⟨L,p,s,q⟩:=h.kC j n hd o;obtain⟨r,g1,g2,_⟩:=p.kC (q e m1 k) l m ab;exact⟨r,g1,by lia⟩
def cc.DL[DecidableEq α]{Ls:List (List α)}(h:cc f D Ls)(m1:e∈Ls)(l:i∈Ls)(m:e≠i)(n:a∈e\/a∈i)(o:b∈e\/b∈i)(p:c∈e)(hd:d∈i)(ab:a≠b):∃L,cc (sw a b<|sw c d f) D L/\L.length=Ls.length:=by
 obtain⟨L,k,q,t,r,j,_⟩:=h.ph m1 l m p hd;obtain⟨s,g1,g2,_⟩:=q.kC r (j a n) (j b o) ab;exact⟨s,g1,by lia⟩
def cc.maps[DecidableEq α]{Ls:List (List α)}(h:cc f D Ls)(d:x∈D):f x∈D:=by
 obtain⟨l,c,b⟩:=Ch.mp<|h.all.mem_iff.mpr d;obtain⟨a,e,p⟩:=h.cr l c;exact h.sub c<|lU p e b
section
variable{α:Type}[DecidableEq α]{f:α->α}
theorem FS:∀{l}{a b},(∀x∈l,g (f x)=x)->cq f l a b->cq g l.reverse (g b) (g a)
 |[],a,b,_,h=>by
  have h:=h;subst h;rfl
 |x :: l,a,b,c,h=>by
  obtain⟨rfl,h⟩:=h;rw[List.reverse_cons];refine aQ.mpr ⟨x,?_,rfl,rfl⟩;have:=FS (λy d=>c y<|Af _ d) h;rwa[c x Ac]at this
end
section
variable{α:Type}[DecidableEq α]
theorem EM:∀{Ls:List (List α)}{i j:Nat}{l k:List α},Ls.flatten.Nodup->Ls[i]?=some l->Ls[j]?=some k->i≠j->∀x∈l,x∉k
 |[],i,j,l,k,_,h,_,_,x,a=>by simp at h
 |m :: Ls,i,j,l,k,nd,b,c,ne,x,a=>by
  rw[Bf,Bj]at nd;intro d
  match i,j with
  |0,0=>exact ne rfl
  |0,j+1=>
   cases b;exact nd.2.2 x a x (Ch.mpr ⟨k,An c,d⟩) rfl
  |i+1,0=>
   cases c;exact nd.2.2 x d x (Ch.mpr ⟨l,An b,a⟩) rfl
  |i+1,j+1=>exact EM nd.2.1 (by simpa using b) (by simpa using c) (λe=>ne<|by rw[e]) x a d
end
def jE(h:x∈ends n):b6 (-1) n (left n x)=x:=by
 rw[pJ h];exact mJ h
def Zs(b:cc (left n) (ends n) f)(h:∀l∈f,∃x∈l,gd e (other n e) x=true)(i:w∈ends n):∃c,dq (left n) (gd e<|other n e) w c:=by
 obtain⟨l,d,j⟩:=Ch.mp<|b.all.mem_iff.mpr i;obtain⟨k,A,B,_,pm,m⟩:=b.front d j;obtain⟨x,o,r⟩:=h l d;obtain⟨a,_,p⟩:=m.cr _ Ac;obtain rfl:w=a:=p.1;obtain⟨c,_,q⟩:=Jw p ⟨x,pm.mem_iff.mpr o,r⟩;exact⟨c,q⟩
def i2(b:cc (left n) (ends n) d)(m:∀l∈d,∃x∈l,gd e (other n e) x=true)(u:w∈ends n):∃c,dq (b6 (-1) n) (gd e<|other n e) w c:=by
 obtain⟨l,f,o⟩:=Ch.mp<|b.all.mem_iff.mpr u;have v:cc (b6 (-1) n) (ends n) (d.map List.reverse):=by
  refine⟨λk z=>?_,?_,b.nd⟩
  ·obtain⟨j,s,rfl⟩:=Ag.mp z;obtain⟨a,t,p⟩:=b.cr j s;have q:=FS (λx h=>jE<|b.sub s h) p;refine⟨_,?_,q⟩
   match i:j.reverse,q with
   |[],_=>
    have:=List.reverse_eq_nil_iff.mp i;rw[this]at t;cases t
   |y :: r,q=>
    rw[<-q.1];exact Ac
  ·refine List.Perm.trans ?_ b.all;clear f o m b
   induction d with
   |nil=>exact List.Perm.refl _
   |cons j d D=>
    rw[Be,Bf,Bf];exact((List.reverse_perm _).append_right _).trans<|D.append_left _
 obtain⟨k,A,B,_,pm,E⟩:=v.front (Ag.mpr ⟨l,f,rfl⟩)<|Hc.mpr o;obtain⟨x,h,G⟩:=m l f;obtain⟨a,_,p⟩:=E.cr _ Ac;obtain rfl:w=a:=p.1;obtain⟨c,_,q⟩:=Jw p ⟨x,pm.mem_iff.mpr<|Hc.mpr h,G⟩;exact⟨c,q⟩
def FM(T:ao n)(a:y∈ends n):tau n (y,true)=(left n (other n y),false):=by
 show(go 1 n y,false)=_;unfold go;rw[pJ<|cE T a]
def og(T:ao n)(H:e∈ends n)(T':ao m)(d:Dp n m (sk e (other n e)<|left n) ((ends n).filter<|gd e<|other n e) RD)(I:cc (left n) (ends n) Rs)(J:∀l∈Rs,∃x∈l,gd e (other n e) x=true)(M:cc (fO n e) (lz n) L):L.length=2*(aE m).length:=by
 obtain⟨N,O⟩:=Rh T H;have r:∀w,gd e (other n e) w=false->w∈ends n/\(w=e\/w=other n e):=λw a=>by
  have:=cj.mp a;refine⟨?_,this⟩
  obtain h|h:=this
  ·rwa[h]
  ·rw[h];exact cE T H
 have s:∀w,gd e (other n e) w=false->fO n e (w,false)=(left n w,false):=λw a=>by
  obtain⟨h1,h2⟩:=r w a;rw[(O w h2).1,pJ h1]
 have t:=λw a=>(O w (r w a).2).2;refine DI T T' d M (λy q=>?_) (λy q u hu hs=>?_) λl hl=>CJ λk=>?_
 ·obtain⟨Q,z⟩:=Ao.mp q;have A:=(Ao.mp<|d.dec.maps<|d.iZ y q).2;rw[N (y,true) z,FM T Q];unfold sk nx at A ⊢;cases g1:gd e (other n e) (left n (other n y)) with
  |true=>rw[BL rfl];exact .here g1
  |false=>
   rw[C Av];refine .next g1 ?_;rw[s _ g1];cases g2:gd e (other n e) (left n (left n (other n y))) with
   |true=>rw[BL rfl];exact .here g2
   |false=>
    rw[g1,g2,C Av,C Av]at A;rw[C Av];refine .next g2 ?_;rw[s _ g2];exact .here A
 ·obtain⟨Q,z⟩:=Ao.mp q;obtain⟨B,Y⟩:=Ao.mp hu;rw[N (y,false) z];show dq _ _ (b6 (-1) n<|other n y,true) _;rw[<-hs];unfold sk nx;cases g1:gd e (other n e) (left n u) with
  |true=>
   rw[BL rfl,jE B];exact .here Y
  |false=>
   rw[C Av];have D:=Mv B;have st:dq (fO n e) (gp n e) (left n u,true) (u,true):=by
    refine .next g1 ?_;rw[t _ g1,jE B];exact .here Y
   cases g2:gd e (other n e) (left n (left n u)) with
   |true=>
    rwa[BL rfl,jE D]
   |false=>
    rw[C Av,jE<|Mv D];refine .next g2 ?_;rwa[t _ g2,jE D]
 ·have all:∀v∈l,gd e (other n e) v.1=false:=λv f=>by
   cases g:gd e (other n e) v.1 with
   |true=>exact absurd ⟨v,f,g⟩ k
   |false=>rfl
  obtain⟨v,f,p⟩:=M.cr l hl;have cl:∀x∈l,fO n e x∈l:=λx hx=>lU p f hx;obtain⟨w,b⟩:=v;obtain⟨a,_⟩:=r w<|all _ f;cases b with
  |false=>
   obtain⟨c,j,E,G,_⟩:=Zs I J a;have:∀i,(it (left n) i w,false)∈l:=λi=>by
    induction i with
    |zero=>exact f
    |succ i o=>
     have:=cl _ o;rwa[s _<|all _ o]at this
   have:=all _<|this j;rw[E,G]at this;cases this
  |true=>
   obtain⟨c,j,E,G,_⟩:=i2 I J a;have:∀i,(it (b6 (-1) n) i w,true)∈l:=λi=>by
    induction i with
    |zero=>exact f
    |succ i o=>
     have:=cl _ o;rwa[t _<|all _ o]at this
   have:=all _<|this j;rw[E,G]at this;cases this
def tO(T:ao n)(j:e∈ends n)(T':ao m)(d:Dp n m (jf e (other n e)<|left n) ((ends n).filter<|gd e<|other n e) RD)(u1:left n e≠other n e)(u2:left n (other n e)≠e)(B:¬(left n e=e/\left n (other n e)=other n e))(d1:cc (fS n e) (lz n) L):L.length=2*(aE m).length:=by
 obtain⟨o1,D⟩:=LD T j;have A:=cE T j;have oo:=vI T j;have E:gd e (other n e) e=false:=cj.mpr<|.inl rfl;have G:gd e (other n e) (other n e)=false:=cj.mpr<|.inr rfl;have J:fS n e (e,false)=(left n (other n e),false):=by rw[(D e<|.inl rfl).1,pJ A]
 have M:fS n e (other n e,false)=(left n e,false):=by rw[(D _<|.inr rfl).1,oo,pJ j]
 have N:=(D e<|.inl rfl).2;have O:fS n e (other n e,true)=(b6 (-1) n e,true):=by rw[(D _<|.inr rfl).2,oo]
 refine DI T T' d d1 (λy H=>?_) (λy H u hu hs=>?_) λl hl=>CJ λk=>?_
 ·obtain⟨y1,Q⟩:=Ao.mp H;have i:=(Ao.mp<|d.dec.maps<|d.iZ y H).2;rw[o1 (y,true) Q,FM T y1];unfold jf at i ⊢
  by_cases r:left n (other n y)=e
  ·rw[BL r]at i ⊢;rw[r];refine .next E ?_;rw[J]
   by_cases f:left n (other n e)=other n e
   ·rw[BL f]at i ⊢;rw[f];refine .next G ?_;rw[M];exact .here i
   ·rw[C f]at i ⊢;exact .here i
  ·rw[C r]at i ⊢
   by_cases f:left n (other n y)=other n e
   ·rw[BL f]at i ⊢;rw[f];refine .next G ?_;rw[M]
    by_cases s:left n e=e
    ·rw[BL s]at i ⊢;rw[s];refine .next E ?_;rw[J];exact .here i
    ·rw[C s]at i ⊢;exact .here i
   ·rw[C f]at i ⊢;exact .here i
 ·obtain⟨y1,Q⟩:=Ao.mp H;obtain⟨Y,w2⟩:=Ao.mp hu;rw[o1 (y,false) Q];show dq _ _ (b6 (-1) n<|other n y,true) _;rw[<-hs];unfold jf
  by_cases r:left n u=e
  ·have ru:b6 (-1) n e=u:=r▸(jE Y)
   have st:dq (fS n e) (gp n e) (other n e,true) (u,true):=by
    refine .next G ?_;rw[O,ru];exact .here w2
   rw[BL r]
   by_cases f:left n (other n e)=other n e
   ·rw[BL f,jE j];refine .next E ?_;have:b6 (-1) n (other n e)=other n e:=by
     have:=jE A;rwa[f]at this
    rwa[N,this]
   ·rwa[C f,jE A]
  ·rw[C r]
   by_cases f:left n u=other n e
   ·have ru:b6 (-1) n (other n e)=u:=f▸(jE Y)
    have st:dq (fS n e) (gp n e) (e,true) (u,true):=by
     refine .next E ?_;rw[N,ru];exact .here w2
    rw[BL f]
    by_cases s:left n e=e
    ·rw[BL s,jE A];refine .next G ?_;have:b6 (-1) n e=e:=by
      have:=jE j;rwa[s]at this
     rwa[O,this]
    ·rwa[C s,jE j]
   ·rw[C f,jE Y];exact .here w2
 ·have all:∀v∈l,v.1=e\/v.1=other n e:=λv o=>by
   cases g:gd e (other n e) v.1 with
   |true=>exact absurd ⟨v,o,g⟩ k
   |false=>exact cj.mp g
  obtain⟨v,o,p⟩:=d1.cr l hl;have I:∀x∈l,fS n e x∈l:=λx hx=>lU p o hx;have f1:(e,false)∈l->(other n e,false)∈l/\left n (other n e)=other n e:=λh=>by
   have:=I _ h;rw[J]at this;have q:=(all _ this).resolve_left u2;have q:left n (other n e)=other n e:=q;rw[q]at this;exact⟨this,q⟩
  have f2:(other n e,false)∈l->(e,false)∈l/\left n e=e:=λh=>by
   have:=I _ h;rw[M]at this;have q:=(all _ this).resolve_right u1;have q:left n e=e:=q;rw[q]at this;exact⟨this,q⟩
  have back:∀{a b:bi},a∈ends n->b6 (-1) n a=b->left n b=a:=λ{a b}ha h=>by
   rw[<-h,pJ<|wU ha];exact mJ (c:=-1) ha
  have f3:(e,true)∈l->(other n e,true)∈l/\left n (other n e)=other n e:=λh=>by
   have:=I _ h;rw[N]at this
   obtain q|q:=all _ this
   ·exact absurd (back A q) u1
   ·have q:b6 (-1) n (other n e)=other n e:=q;rw[q]at this;exact⟨this,back A q⟩
  have f4:(other n e,true)∈l->(e,true)∈l/\left n e=e:=λh=>by
   have:=I _ h;rw[O]at this
   obtain q|q:=all _ this
   ·have q:b6 (-1) n e=e:=q;rw[q]at this;exact⟨this,back j q⟩
   ·exact absurd (back j q) u2
  obtain⟨w,b⟩:=v;have hw:w=e\/w=other n e:=all _ o;cases b with
  |false=>
   obtain rfl|rfl:=hw
   ·obtain⟨t,z⟩:=f1 o;exact B ⟨(f2 t).2,z⟩
   ·obtain⟨t,z⟩:=f2 o;exact B ⟨z,(f1 t).2⟩
  |true=>
   obtain rfl|rfl:=hw
   ·obtain⟨t,z⟩:=f3 o;exact B ⟨(f4 t).2,z⟩
   ·obtain⟨t,z⟩:=f4 o;exact B ⟨z,(f3 t).2⟩
def iR(n:bc)(x:bi):Nat->List bi
 |0=>[]
 |m+1=>iR n x m++[go 1 n<|it (two n) m x,it (two n) (m+1) x]
theorem re{P:Nat->Prop}(h:∃m,P m):∃m,P m/\∀k,k<m->¬ P k:=by
 obtain⟨m,c⟩:=h
 induction m using Nat.strongRecOn with
 |ind m d=>
  by_cases q:∃k,k<m/\P k
  ·obtain⟨k,a,b⟩:=q;exact d k a b
  ·exact⟨m,c,λk a b=>q ⟨k,a,b⟩⟩
section
variable{n:bc}
theorem Rw(T:ao n)(a:x∈ends n):∀m,∀e∈iR n x m,e∈ends n
 |0,e,h=>by cases h
 |m+1,e,h=>by
  obtain h|h:=Al.mp h
  ·exact Rw T a m e h
  ·obtain rfl|h:=Ak.mp h
   ·exact fw T<|iK T a m
   ·rw[Ae.mp h];exact iK T a<|m+1
end
section
variable{n:bc}
theorem GG(T:ao n)(b:x∈ends n)(h:aV n t a):∀m,au ((iR n x m).map λe=>t<|aw n e)=(a x ^^ a (go 1 n<|it (two n) m x))
 |0=>by
  show false=(a x ^^ a (go 1 n x));rw[<-wV T b,h.go x b,Gb]
 |m+1=>by
  have f:=fw (c:=1) T (iK T b m);have d:=iK T b<|m+1;have i:∀e∈ends n,t (aw n e)=(a e ^^ a (other n e)):=λe k=>by
   obtain⟨z,j⟩:=af.mp k;rw[cB j];exact h.c6 e z j
  have l:a (other n<|it (two n) (m+1) x)=a (other n<|go 1 n<|it (two n) m x):=by
   have q:=h.go (other n<|it (two n) (m+1) x)<|cE T d;have e:it (two n) (m+1) x=go (-1) n (go 1 n<|it (two n) m x):=rfl;rw[e,Pa T f]at q;rw[e];exact q.symm
  have o:a (go 1 n<|it (two n) (m+1) x)=a (it (two n) (m+1) x):=by rw[<-wV T d];exact h.go _ d
  show au ((iR n x m++[go 1 n<|it (two n) m x,it (two n) (m+1) x]).map _)=_;rw[Ai,oh,GG T b h m];show((_ ^^ _) ^^ (t (aw n<|go 1 n<|it (two n) m x) ^^ (t (aw n<|it (two n) (m+1) x) ^^ false)))=_;rw[i _ f,i _ d,l,o];generalize a x=p;generalize a (go 1 n<|it (two n) m x)=q;generalize a (other n<|go 1 n<|it (two n) m x)=r;generalize a (it (two n) (m+1) x)=s;cases p<;>cases q<;>cases r<;>cases s<;>rfl
end
section
variable{n:bc}
theorem Is(T:ao n)(a:x∈ends n)(r:Nat):∀m,au ((iR n x m).map λe=>decide (r=e.1) ^^ decide (r=(other n e).1))=(decide (r=(other n x).1) ^^ decide (r=(go 1 n<|it (two n) m x).1))
 |0=>by
  show false=(decide (r=(other n x).1) ^^ decide (r=(other n x).1));rw[Gb]
 |m+1=>by
  have b:(it (two n) (m+1) x).1=(other n<|go 1 n<|it (two n) m x).1:=rfl;have c:(go 1 n<|it (two n) (m+1) x).1=(other n<|it (two n) (m+1) x).1:=rfl;show au ((iR n x m++[go 1 n<|it (two n) m x,it (two n) (m+1) x]).map _)=_;rw[Ai,oh,Is T a r m];show((_ ^^ _) ^^ ((decide (r=(go 1 n<|it (two n) m x).1) ^^ decide (r=(other n<|go 1 n<|it (two n) m x).1)) ^^ ((decide (r=(it (two n) (m+1) x).1) ^^ decide (r=(other n<|it (two n) (m+1) x).1)) ^^ false)))=_;rw[c,b];generalize decide (r=(other n x).1)=p;generalize decide (r=(go 1 n<|it (two n) m x).1)=q;generalize decide (r=(other n<|go 1 n<|it (two n) m x).1)=u;generalize decide (r=(other n<|it (two n) (m+1) x).1)=v;cases p<;>cases q<;>cases u<;>cases v<;>rfl
end
def q8h(T:ao n)(a:x∈ends n)(m r:Nat):au ((row n r).map<|bP n<|iR n x m)=(decide (r=(other n x).1) ^^ decide (r=(go 1 n<|it (two n) m x).1)):=by
 have c:(row n r).map (bP n<|iR n x m)=(row n r).map λz=>au ((iR n x m).map λe=>decide (z=aw n e)):=At λz _=>by
  unfold bP;rw[xl,Bi];rfl
 rw[c,vH λz e=>decide (z=aw n e),<-Is T a r m]
 congr 1
 refine At λe d=>?_;obtain⟨z,b⟩:=af.mp<|Rw T a m e d;rw[cB b];exact HQ T b r
def LF(T:ao n)(d:Z.Nodup)(f:∀z,z∈Z↔z∈ag n)(b:x∈ends n)(m:Nat)(h:aV n t c):bj Z t (bP n<|iR n x m)=(c x ^^ c (go 1 n<|it (two n) m x)):=by
 have:=IH d (t:=t) (L:=(iR n x m).map<|aw n) λy a=>by
  obtain⟨e,i,rfl⟩:=Ag.mp a;obtain⟨y,a⟩:=af.mp<|Rw T b m e i;rw[cB a];exact(f _).mpr<|dP a
 show bj Z t (λz=>decide (((iR n x m).map<|aw n).count z%2=1))=_;rw[this,Bi,<-GG T b h m];rfl
def x1d(n:bc)(s:Str->Bool):∃ss,cz ss/\∀z,z∈ss↔z∈ag n/\s z=true:=by
 obtain⟨ss,a,b⟩:=pQ<|(ag n).filter s;exact⟨ss,a,λz=>by rw[b,Ao]⟩
def Lo{ss:Ñ}{s:Str->Bool}(h:∀z,z∈ss↔z∈ag n/\s z=true)(a:z∈ag n):decide (z∈ss)=s z:=by grind
def BN{n:bc}(h:∀z,z∈ss↔z∈ag n/\s z=true)(e:f9 n s):gg n ss=true:=W4 e λz a=>by
 rw[<-Lo h a,Ct,CN];exact Bu
def ES{n:bc}(T:ao n)(e:HF n)(i:(cF n).Nodup)(j:0<n.length)(h:∀z,z∈ss↔z∈ag n/\s z=true)(o:∀Z:Ñ,Z.Nodup->(∀z,z∈Z↔z∈ag n)->∀t a,aV n t a->bj Z t s=false):∃k,bt n ss k:=by
 obtain⟨Z,l,b⟩:=pQ<|ag n;have f:=jQ l;refine Yq T e.1 i j f b (λz c=>((h z).mp c).1) λt m=>?_;obtain⟨a,d⟩:=e.2.2 t m;rw[<-o Z f b t a d];exact IY (λ_ _=>rfl) λz c=>Lo h<|(b z).mp c
def I0(n:bc)(b:z∈ag n){s:Str->Bool}(h:s z=false):∃ss,cz ss/\z∈ss/\(∀y,y∈ss↔y∈ag n/\(s y ^^ decide (y=z))=true)/\∀y,y∈less ss z↔y∈ag n/\s y=true:=by
 obtain⟨ss,c,a⟩:=x1d n λy=>s y ^^ decide (y=z);refine⟨ss,c,(a z).mpr ⟨b,by rw[h,BW rfl];rfl⟩,a,λy=>?_⟩;rw[bx,a]
 by_cases k:y=z
 ·grind
 ·grind
theorem jb(T:ao n)(hf:HF n)(hN:(cF n).Nodup)(h0:0 < n.length)(hp:(i,x)∈gy 0 (aE n))(hq:(i,y)∈gy 1 (aE n))(h:aw n x=aw n y):∃ ss,KK n (aw n x) (if x=y then "round" else "cut") ss:=by
 obtain⟨w,H,v⟩:=xA hp;obtain⟨w',A,I⟩:=xA hq;rw[H]at A;cases A;obtain⟨e,B,rfl⟩:=IU T H;have v:=v;rw[xt]at I;obtain⟨u,hu,L⟩:=Ag.mp I;have f:=AO T B x v;have ob:∀k,it (two n) k x∈dH n e:=λk=>by
  induction k with
  |zero=>exact v
  |succ k M=>exact II T B M
 obtain⟨m,D,DM⟩:∃m,go 1 n (it (two n) m x)=y/\∀k,k<m->go 1 n (it (two n) k x)≠y:=by
  have ex:∃m,go 1 n (it (two n) m x)=y:=by
   obtain⟨a,E⟩:=(mU T B).mp v;obtain⟨b,N⟩:=(mU T B).mp hu;obtain⟨k,k0,_,hk⟩:=yL (λa E=>pK T E) (λa E b N=>wW T E N) B;refine⟨b+(k*a-a),?_⟩;rw[<-L]
   congr 1
   rw[<-E,<-qZ,<-N];have:a+(b+(k*a-a))=k*a+b:=by
    have:a<=k*a:=Nat.le_mul_of_pos_left a k0;lia
   rw[this,qZ,Ph hk a]
  exact re ex
 obtain⟨z,J⟩:=af.mp f;have G:=cB J;have iJ:=dP J;have xq:y∈ends n:=D▸(fw T<|iK T f m)
 have not:bP n (iR n x m) (aw n x)=false:=by
  unfold bP;refine BR λq=>?_;have O:((iR n x m).map<|aw n).count (aw n x)=0:=by
   refine Ey λgu=>?_;obtain⟨c,O,ec⟩:=Ag.mp gu;have key:∀k,c∈iR n x k->∃j,j<k/\(c=go 1 n (it (two n) j x)\/c=it (two n) (j+1) x):=λk=>by
    induction k with
    |zero=>intro h;cases h
    |succ k M=>
     intro h
     obtain h|h:=Al.mp h
     ·obtain⟨j,h1,h2⟩:=M h;exact⟨j,by lia,h2⟩
     ·obtain h|h:=Ak.mp h
      ·exact⟨k,by lia,.inl h⟩
      ·exact⟨k,by lia,.inr<|Ae.mp h⟩
   obtain⟨j,hj,rfl|rfl⟩:=key m O
   ·have lH:=YY H (by rw[xt];exact Ag.mpr ⟨_,ob j,rfl⟩);have:=YZ T (by decide) lH hq<|ec.trans h;exact DM j hj (BX (·.2) this)
   ·have:=BX (·.2) (YZ T (by decide) (YY H<|ob<|j+1) hp ec);refine DM (m-(j+1)) (by omega) ?_;have e1:it (two n) m x=it (two n) (m-(j+1)) x:=by
     have:m=(j+1)+(m-(j+1)):=by omega
     rw[this,qZ,‹it (two n) (j+1) x=x›]
     congr 1
     lia
    rwa[<-e1]
  rw[O]at q;cases q
 rw[G]at not h ⊢;obtain⟨ss,s1,s2,Q,s4⟩:=I0 n iJ not;have pr:=λr=>q8h T f m r;have px:∀r,au ((row n r).map λy=>bP n (iR n x m) y ^^ decide (y=z))=((decide (r=(other n x).1) ^^ decide (r=y.1)) ^^ (decide (r=x.1) ^^ decide (r=(other n x).1))):=λr=>by
  rw[iF (bP n<|iR n x m) λy=>decide (y=z),pr r,(HQ T J) r,D]
 have dz:∀Z:Ñ,Z.Nodup->(∀z,z∈Z↔z∈ag n)->∀t d,aV n t d->bj Z t (λy=>bP n (iR n x m) y ^^ decide (y=z))=((d x ^^ d y) ^^ (d x ^^ d (other n x))):=λZ l o t d s=>by
  rw[vL,IG Z (bP n<|iR n x m) (λy=>decide (y=z)) t,vL,LF T l o f m s,D,xm l<|(o z).mpr iJ,s.c6 x z J]
 refine⟨ss,s1,λy I=>((Q y).mp I).1,s2,?_⟩
 by_cases k:x=y
 ·rw[BL k];subst k;refine .inr<|.inr ⟨rfl,BN Q λr=>?_,ES T hf hN h0 s4 λZ l o t d s=>?_⟩
  ·rw[px r];generalize decide (r=(other n x).1)=p;generalize decide (r=x.1)=q;cases p<;>cases q<;>rfl
  ·rw[LF T l o f m s,D,Gb]
 ·rw[C k];have Y:y=other n x:=by
   obtain q|q:=xn T f xq (by rwa[G])
   ·exact absurd q.symm k
   ·exact q
  subst Y;refine .inr<|.inl ⟨rfl,ES T hf hN h0 Q λZ l o t d s=>?_,BN s4 λr=>?_⟩
  ·rw[dz Z l o t d s,Gb]
  ·rw[pr r,D,Gb]
def ID(T:ao n)(r:HF n)(s:(cF n).Nodup)(f:0 < n.length)(t:z∈ag n)(h:rm n z w ss)(l:bW n 0 z=[p])(m:bW n 1 z=[q]):w=if p.1=q.1 then(if p.2=q.2 then("round" : Str) else("cut" : Str)) else("double" : Str):=by
 have mp:p∈gy 0 (aE n)/\aw n p.2=z:=by
  have:p∈bW n 0 z:=l▸(Ae.mpr rfl)
  exact⟨(Ao.mp this).1,BZ (Ao.mp this).2⟩
 have o:q∈gy 1 (aE n)/\aw n q.2=z:=by
  have:q∈bW n 1 z:=m▸(Ae.mpr rfl)
  exact⟨(Ao.mp this).1,BZ (Ao.mp this).2⟩
 by_cases e:p.1=q.1
 ·rw[BL e];obtain⟨i,x⟩:=p;obtain⟨j,y⟩:=q;have e:=e;subst e;obtain⟨ts,k⟩:=jb T r s f mp.1 o.1<|mp.2.trans o.2.symm;rw[show aw n x=z from mp.2]at k;exact x2k T f h.kk k
 ·rw[C e];have no:¬ tE n [z]:=λ⟨u,a,v⟩=>by
   have b:=q6q a T t l m;rw[C e]at b;have A:min p.1 q.1∈rg u z:=b▸Ac
   obtain⟨B,c⟩:=Ao.mp A;have d:=Bg.mp B;have c:=BZ c;rw[Ab d,Option.getD_some]at c;have:=v _<|Bq d;rw[Zv<|jQ<|a.qR _<|Bq d,BL c]at this;cases this
  obtain⟨_,_,_,⟨q,_⟩|⟨_,_,_,q⟩|⟨_,_,_,q⟩⟩:=h
  ·exact q
  ·exact absurd q no
  ·exact absurd q no
theorem q2x(T:ao n)(he:aH n e=some z)(hp:bW n 0 z=[p])(hq:bW n 1 z=[q]):
  ∃P b Q d,P∈dW n++hG n/\b∈dW n++hG n/\Q∈dW n++hG n/\d∈dW n++hG n/\(e,true)∈P/\(other n e,true)∈b/\(e,false)∈Q/\(other n e,false)∈d/\P≠b/\Q≠d /\
   (p.1≠q.1->P≠Q/\P≠d/\b≠Q/\b≠d)/\(p.1=q.1->p.2=q.2->Q=P/\d=b)/\(p.1=q.1->p.2≠q.2->Q=b/\d=P):=by
 obtain⟨i,x⟩:=p;obtain⟨j,y⟩:=q;have mp:=Ao.mp (show(i,x)∈bW n 0 z by rw[hp];exact Ac);have mq:=Ao.mp (show(j,y)∈bW n 1 z by rw[hq];exact Ac);obtain⟨i',w,hw,hi,N⟩:=IT _ _ _ mp.1;obtain⟨j',v,hv,hj,hy⟩:=IT _ _ _ mq.1;have hi:i=i':=by omega
 have hj:j=j':=by omega
 subst hi hj;have tx:=BZ mp.2;have ty:=BZ mq.2;have wA:=ra T;have N:=N;have xe:=(wA.new x<|Dd.mpr ⟨w,An hw,N⟩).1;obtain⟨f,lZ,rfl⟩:=wA.wk v<|An hv;rw[xt]at hy;obtain⟨o,s,rfl⟩:=Ag.mp hy;have Ö:=(wA.new o<|Dd.mpr ⟨_,An hv,s⟩).1;have ye:=fw (c:=1) T Ö;have D:(dW n)[i]?=some ((ah w).flatMap<|cf n):=by unfold dW;rw[Aj,hw];rfl
 have m:(dW n)[j]?=some ((ah<|walker n f).flatMap<|cf n):=by unfold dW;rw[Aj,hv];rfl
 have Rx:(hG n)[i]?=some ((((ah w).flatMap<|cf n).map<|rv n).reverse):=by unfold hG;rw[Aj,D];rfl
 have O:(hG n)[j]?=some ((((ah<|walker n f).flatMap<|cf n).map<|rv n).reverse):=by unfold hG;rw[Aj,m];rfl
 have E:(x,true)∈(ah w).flatMap (cf n):=Dd.mpr ⟨x,N,Ac⟩;have G:(go 1 n o,false)∈(ah<|walker n f).flatMap (cf n):=Dd.mpr ⟨o,s,Af _ Ac⟩;have xM:(other n x,true)∈(((ah w).flatMap<|cf n).map<|rv n).reverse:=Hc.mpr<|Ag.mpr ⟨_,E,rfl⟩;have tK:(other n<|go 1 n o,false)∈(((ah<|walker n f).flatMap<|cf n).map<|rv n).reverse:=Hc.mpr<|Ag.mpr ⟨_,G,rfl⟩;have lA:i<(dW n).length:=(Ad.mp D).1;have lB:j<(dW n).length:=(Ad.mp m).1;have H:(dW n++hG n)[i]?=_:=(Aw lA).trans D;have I:(dW n++hG n)[j]?=_:=(Aw lB).trans m;have J:=(show(dW n++hG n)[(dW n).length+i]?=(hG n)[i]? by rw[Ay (by omega),SJ]).trans Rx;have L:=(show(dW n++hG n)[(dW n).length+j]?=(hG n)[j]? by rw[Ay (by omega),SJ]).trans O;generalize (((ah w).flatMap<|cf n).map<|rv n).reverse=Y at Rx xM J;generalize (((ah<|walker n f).flatMap<|cf n).map<|rv n).reverse=B' at O tK L;generalize (ah w).flatMap (cf n)=A at D E H;generalize (ah<|walker n f).flatMap (cf n)=B at m G I;generalize go 1 n o=y at ye G tK ty;have a:∀{r t:Nat}{l k:List c8}{u:c8},(dW n++hG n)[r]?=some l->(dW n++hG n)[t]?=some k->r≠t->u∈l->l≠k:=λh1 h2 ne hu q=>EM ((Jx T).oa) h1 h2 ne _ hu<|q ▸ hu;have mA:=An H;have mB:=An I;have JI:=An J;have JO:=An L;have JP:A≠Y:=a H J (by lia) E;have JS:B≠B':=a I L (by lia) G;have JU:A≠B':=a H L (by lia) E;have JY:B≠Y:=a I J (by lia) G;have AB:i≠j->A≠B:=λh=>a H I h E;have rE:i≠j->Y≠B':=λh=>a J L (by lia) xM;have ij:i=j->A=B/\Y=B':=λh=>by
  subst h;rw[D]at m;rw[Rx]at O;exact⟨Option.some.inj m,Option.some.inj O⟩
 obtain⟨zx,J0⟩:=af.mp xe;obtain⟨zy,M⟩:=af.mp ye;rw[cB J0]at tx;rw[cB M]at ty;subst tx;subst ty;have xo:=vI T xe;have xy:y=x\/y=other n x:=by
  by_cases h:y=x
  ·exact .inl h
  ·exact .inr (ka T J0 M<|CG h).symm
 have ex:e=x\/e=other n x:=by
  by_cases h:e=x
  ·exact .inl h
  ·exact .inr (ka T J0 he<|CG h).symm
 have Ø:x≠other n x:=λh=>(cS T J0).2.2 h.symm
 obtain rfl|rfl:=ex
 ·obtain rfl|rfl:=xy
  ·exact⟨A,Y,B,B',mA,JI,mB,JO,E,xM,G,tK,JP,JS,λh=>⟨AB h,JU,λq=>JY q.symm,rE h⟩,λh _=>⟨(ij h).1.symm,(ij h).2.symm⟩,λ_ h=>absurd rfl h⟩
  ·rw[xo]at tK;exact⟨A,Y,B',B,mA,JI,JO,mB,E,xM,tK,G,JP,JS.symm,λh=>⟨JU,AB h,rE h,λq=>JY q.symm⟩,λ_ h=>absurd h Ø,λh _=>⟨(ij h).2.symm,(ij h).1.symm⟩⟩
 ·rw[xo];obtain rfl|rfl:=xy
  ·exact⟨Y,A,B',B,JI,mA,JO,mB,xM,E,tK,G,JP.symm,JS.symm,λh=>⟨rE h,λq=>JY q.symm,JU,AB h⟩,λh _=>⟨(ij h).2.symm,(ij h).1.symm⟩,λ_ h=>absurd rfl h⟩
  ·rw[xo]at tK;exact⟨Y,A,B,B',JI,mA,mB,JO,xM,E,G,tK,JP.symm,JS,λh=>⟨λq=>JY q.symm,rE h,AB h,JU⟩,λ_ h=>absurd h Ø,λh _=>⟨(ij h).1.symm,(ij h).2.symm⟩⟩
def ET(T:ao n)(L:aH n e=some z)(M:bW n 0 z=[p])(N:bW n 1 z=[q]):∃f i,cc (fO n e) (lz n) f/\cc (fS n e) (lz n) i /\
  (p.1≠q.1->f.length+2=2*(aE n).length/\i.length+2=2*(aE n).length)/\(p.1=q.1->p.2=q.2->f.length=2*(aE n).length/\i.length=2*(aE n).length+2)/\(p.1=q.1->p.2≠q.2->f.length=2*(aE n).length+2/\i.length=2*(aE n).length):=by
 obtain⟨P,P',Q,Q',k,l,y,u,m,o,r,s,t,A,O,Y,h3⟩:=q2x T L M N;have d:=Jx T;have len:=EU n;have v1:((e,true):c8)≠(e,false):=λh=>Bool.noConfusion<|BX Prod.snd h;have B:((e,true):c8)≠(other n e,false):=λh=>Bool.noConfusion<|BX Prod.snd h;have v4:((e,false):c8)≠(other n e,true):=λh=>Bool.noConfusion<|BX Prod.snd h
 by_cases j:p.1=q.1
 ·by_cases x:p.2=q.2
  ·obtain⟨rfl,rfl⟩:=Y j x;obtain⟨f,v,D⟩:=d.DL (a:=(e,true)) (b:=(other n e,false)) (c:=(e,false)) (d:=(other n e,true)) k l t (.inl m) (.inr s) r o B;obtain⟨i,w,E⟩:=d.pj (a:=(e,true)) (b:=(e,false)) (c:=(other n e,true)) (d:=(other n e,false)) k l t m r o s v1 (λh=>Bool.noConfusion<|BX Prod.snd h);exact⟨f,i,v,w,λh=>absurd j h,λ_ _=>⟨by lia,by lia⟩,λ_ h=>absurd x h⟩
  ·obtain⟨rfl,rfl⟩:=h3 j x;obtain⟨f,v,D⟩:=d.pj (a:=(e,true)) (b:=(other n e,false)) (c:=(e,false)) (d:=(other n e,true)) k l t m s r o B v4;obtain⟨i,w,E⟩:=d.DL (a:=(e,true)) (b:=(e,false)) (c:=(other n e,true)) (d:=(other n e,false)) l k t.symm (.inr m) (.inl r) o s v1;exact⟨f,i,v,w,λh=>absurd j h,λ_ h=>absurd h x,λ_ _=>⟨by lia,by lia⟩⟩
 ·obtain⟨G,H,I,J⟩:=O j;obtain⟨f,v,D⟩:=d.tJ (a:=(e,true)) (b:=(other n e,false)) (c:=(e,false)) (d:=(other n e,true)) k u y l H G t A.symm J.symm I.symm m s r o;obtain⟨i,w,E⟩:=d.tJ (a:=(e,true)) (b:=(e,false)) (c:=(other n e,true)) (d:=(other n e,false)) k y l u G t H I.symm A J m r o s;exact⟨f,i,v,w,λ_=>⟨by lia,by lia⟩,λh=>absurd h j,λh=>absurd h j⟩
end Nt
namespace Nt
open PySem L2
def Ye{n:bc}(T:ao n)(a:cC n)(b:0<n.length):mZ n:=nj T a b λe z h=>Rt.step h<|dP h
def DD(n:cC m)(d:(m.map (·.1)).Nodup)(o:ends m≠[]):∀r∈m,r.2≠[]:=λr c k=>by
 have all:=n (λx=>x=r.1) ⟨r,c,rfl⟩ λa p b v t e w q=>by
  have:a=r:=by
   obtain⟨i,z,rfl⟩:=Hk p;obtain⟨j,s,rfl⟩:=Hk c;have:i=j:=(Fg (h₀:=by rwa[Aa]) (h₁:=by rwa[Aa]) d).mp (by rwa[Cp,Cp]);subst this;rfl
  rw[this,k]at e;cases e
 obtain⟨x,u⟩:=Dy _ o;obtain⟨y,f⟩:=af.mp u;have h:=dB f;have:m[x.1]=r:=by
  obtain⟨j,s,rfl⟩:=Hk c;have:x.1=j:=(Fg (h₀:=by rwa[Aa]) (h₁:=by rwa[Aa]) d).mp (by rw[Cp,Cp];exact all _ (Bq h));subst this;rfl
 have l:=iy f;rw[lv h,this,k]at l;cases l
def Ry(a:z∈ag n):∃e,aH n e=some z:=by
 obtain⟨r,c,h⟩:=xD a;obtain⟨p,b⟩:=Bp h;exact⟨(r,p),b⟩
def AA{n:bc}{z:Str}(T:ao n)(a:z∈ag n)(h:∀w∈ag n,w=z):(ag n).length=2:=by
 have b:=T z a;have:ag n=replicate (ag n).length z:=List.eq_replicate_iff.mpr ⟨rfl,h⟩;rwa[this,List.count_replicate_self]at b
open Classical
def vZ(w:Str):Int:=if w = "double" then -1 else if w = "cut" then 1 else 0
def v5(w:Str):Int:=if w = "double" then -1 else if w = "round" then 1 else 0
theorem V8{n:bc}{z w:Str}{ss:Ñ}(T:ao n)(t:HF n)(u:(n.map (·.1)).Nodup)(v:0<n.length)(A:∀r,r<n.length->row n r≠[])(c:z∈ag n)(h:rm n z w ss)(B:cC<|bd n z){y:Str}(D:y∈ag n)(E:y≠z):((aE<|bd n z).length:Int)=(aE n).length+vZ w:=by
 obtain⟨e,f⟩:=Ry c;have G:ao (bd n z):=Jh T;obtain⟨x,H⟩:=Ry<|pg.mpr ⟨D,E⟩;have I:ends (bd n z)≠[]:=λk=>by
  have:=af.mpr ⟨y,H⟩;rw[k]at this;cases this
 have J:=DD B (by rwa[QI]) I;have j:=EN T A;have m:=cy T j f J;obtain⟨p,_,_,o⟩:=xu T (k:=0) (by omega) c;obtain⟨q,_,_,s⟩:=xu T (k:=1) (by omega) c;obtain⟨Y,LS,L,_,k1,M,N⟩:=ET T f o s;have len:=og T (af.mpr ⟨z,f⟩) G m j.dec (λl O=>by
  obtain⟨a,Q,_⟩:=m.dec.cr _<|Ag.mpr ⟨l,O,rfl⟩;have:=Ao.mp Q;exact⟨a,this.1,this.2⟩) L
 have b:=ID T t u v c h o s;unfold vZ
 by_cases i:p.1=q.1
 ·rw[BL i]at b
  by_cases d:p.2=q.2
  ·rw[BL d]at b;have:=(M i d).1;rw[b,C (by decide),C<|by decide];lia
  ·rw[C d]at b;have:=(N i d).1;rw[b,C (by decide),BL rfl];lia
 ·grind
theorem IS(b:aH n e=some z)(h:left n e=e):row n e.1=[z]:=by
 have c:=BX Prod.snd h;have d:=iy b;have c:(e.2+1)%(row n e.1).length=e.2:=c;have f:(row n e.1).length=1:=by
  obtain q|q:=Dv (e.2+1) (row n e.1).length
  ·rw[Ca q]at c;lia
  ·have:e.2+1=(row n e.1).length:=by lia
   rw[this,Ec]at c;lia
 unfold aH at b
 match i:row n e.1,f,b with
 |[a],_,b=>
  have:e.2=0:=by
   rw[i]at d
   simpa using d
  rw[this]at b;cases b;rfl
theorem ky{n:bc}{z w:Str}{ss:Ñ}(T:ao n)(B:HF n)(D:(n.map (·.1)).Nodup)(E:0<n.length)(o:∀r,r<n.length->row n r≠[])(j:z∈ag n)(h:rm n z w ss){r0 r1:Nat}(s:d8 n z=[r0,r1])(u:i6 (row n r0) (row n r1) z≠[]):((aE<|shr n z r0 r1).length:Int)=(aE n).length+v5 w:=by
 have t:=xE s;have v:=EN T o;obtain⟨e,G,d,⟨l,H,I,J⟩,L⟩:=WI T v s u;have x:=af.mpr ⟨z,d⟩;have M:=cE T x;obtain⟨N,O⟩:=zw v.dec (λa Q b Y q=>by
  have:=jE Q;rw[q,jE Y]at this;exact this.symm) M H I J
 have so:=(cS T d).1;have u3:¬(left n e=e/\left n (other n e)=other n e):=λ⟨q1,q2⟩=>by
  have w1:=IS d q1;have w2:=IS so q2;have one:∀r,z∈row n r->row n r=[z]:=λr o=>by
   obtain⟨i,hi,ei⟩:=Bv.mp o;have ht:aH n (r,i)=some z:=by
    unfold aH;show(row n r)[i]?=_;rw[Ab hi,ei]
   by_cases k:(r,i)=e
   ·grind
   ·have:other n e=(r,i):=ka T d ht<|CG k;have:(other n e).1=r:=BX Prod.fst this;rwa[<-this]
  refine u ?_;rw[one r0 t.m0,one r1 t.m1];unfold i6 aN;simp
 obtain⟨p,_,_,y⟩:=xu T (k:=0) (by omega) j;obtain⟨q,_,_,A⟩:=xu T (k:=1) (by omega) j;obtain⟨LO,LS,_,a1,k1,k2,k3⟩:=ET T d y A;have len:=tO T x (Rc T j t<|C1 s) L N O u3 a1;have c:=ID T B D E j h y A;unfold v5
 by_cases f:p.1=q.1
 ·rw[BL f]at c
  by_cases m:p.2=q.2
  ·rw[BL m]at c;have:=(k2 f m).2;rw[c,C (by decide),BL rfl];lia
  ·rw[C m]at c;have:=(k3 f m).2;rw[c,C (by decide),C<|by decide];lia
 ·rw[C f]at c;have:=(k1 f).2;rw[c,BL rfl];lia
end Nt
namespace L2
open PySem PySem.Spec PyProof.Rows
def k6p{X:Cx}{f:St}{H:Hp}{Q:VK}{k1 v1 k2 j k3 l:Expr}{pos:Pos}(m:X.A.units+1<cLine)
  (h : ∀ d, H d = none → Ev X k1 f (upd H d<|.dK []) λO w => Ev X v1 f w λT z => Ev X k2 f z λA B => Ev X j f B λn D => Ev X k3 f D λE G => Ev X l f G λJ p =>
   ∃a b c:Str,O=.str a/\A=.str b/\E=.str c/\p d=some (.dK [])/\Q (.ref d) (upd p d<|.dK<|putK (putK (putK [] (Sum.inr a) T) (Sum.inr b) n) (Sum.inr c) J)):
  Ev X (.Dict [some k1,some k2,some k3] [v1,j,l] pos) f H Q:=by
 refine⟨λe s I=>wpAny_Dict_any rfl rfl (by simp) (by show 3<=15;decide) ?_⟩;have Y:be X e f (upd H s.heap.objs.size<|.dK []) {s with heap:=s.heap.push {cls:= .type "dict",data:= .dict #[]}}:=I.laid (a:=s.heap.objs.size) (o:= .dK []) (t':=s.toks) (λ_ _ q=>Am _ q) (Aq _)<|K7 s.heap I.big;show wpAny _ _ (evalPairs [(eval k1 X.env,do let x <-eval v1 X.env;standAt pos;pure x),(eval k2 X.env,do let x <-eval j X.env;standAt pos;pure x),(eval k3 X.env,do let x <-eval l X.env;standAt pos;pure x)]) _ _ _;unfold evalPairs;refine BJ<|aO ((h _ I.fresh).run e _ Y) λkv s1 ⟨y,w,I1,r1,h1⟩=>?_;refine BJ<|CK<|BJ<|aO (h1.run e s1 I1) λvv s2 ⟨x,z,I2,r2,h2⟩=>?_;refine BJ<|DX<|BP ?_;unfold evalPairs;refine BJ<|CK<|BJ<|aO (h2.run e s2 I2) λdG s3 ⟨A,B,I3,r3,h3⟩=>?_;refine BJ<|CK<|BJ<|aO (h3.run e s3 I3) λr s4 ⟨n,D,I4,r4,h4⟩=>?_;refine BJ<|DX<|BP ?_;unfold evalPairs;refine BJ<|CK<|BJ<|aO (h4.run e s4 I4) λL s5 ⟨E,G,I5,r5,h5⟩=>?_;refine BJ<|CK<|BJ<|aO (h5.run e s5 I5) λi s6 ⟨J,p,I6,r6,a,b,c,t,u,v,ed,q⟩=>?_;refine BJ<|DX<|BP ?_;unfold evalPairs;refine BJ<|CK<|BP<|BP<|BP<|BP ?_;subst t u v;have l1:=jm ([]:List<|Key×V) (Sum.inr a) x;have l2:=jm (putK ([]:List<|Key×V) (Sum.inr a) x) (Sum.inr b) n;have z0:([]:List<|Key×V).length=0:=rfl;have sz:=DW;unfold storeAll;rw[Fk];refine BJ (BJ<|yT m I6 (bO.k (k:=Sum.inr a) ed<|by lia) r1 r2 λs7 I7=>BP ?_);show wpAny _ _ (forIn [(dG,r),(L,i)] _ _) _ _ _;rw[Fk];refine BJ (BJ<|yT m I7 (bO.k (k:=Sum.inr b) ay<|by lia) r3 r4 λs8 M=>BP ?_);rw[pY]at M;show wpAny _ _ (forIn [(L,i)] _ _) _ _ _;rw[Fk];refine BJ (BJ<|yT m M (bO.k (k:=Sum.inr c) ay<|by lia) r5 r6 λs9 N=>BP ?_);rw[pY]at N;exact BP ⟨.ref _,_,N,rfl,q⟩
end L2
namespace G8
open PySem L2 Nt bv bG
open PyProof.Rows (sortedS)
open Classical
def RA{X:Cx}{P:Program}{w:World}:qf (XF P w) X (λ_ _ _=>False):=λ_ _ _ _ _ _ _ h=>by
 obtain⟨_,_,_,_,_,h,_⟩:=h;exact h.elim
abbrev tab(x y z:Int):List (Key×V):=putK (putK (putK [] (Sum.inr "double")<|.int x) (Sum.inr "cut")<|.int y) (Sum.inr "round")<|.int z
def BS{w:Str}(h:w = "double"\/w = "cut"\/w = "round")(x y z:Int):az (tab x y z) (Sum.inr w)=some (.int (if w = "double" then x else if w = "cut" then y else z)):=by
 obtain rfl|rfl|rfl:=h<;>rfl
def k7r{n:bc}{z:Str}(T:ao n)(c:HF n)(b:(n.map (·.1)).Nodup)(d:z∈ag n){r0 r1:Nat}(h:d8 n z=[r0,r1]){y:Str}(e:y∈ag n)(f:y≠z):i6 (row n r0) (row n r1) z≠[]:=by
 have a:=xE h;have lt:=C1 h;obtain⟨x,i⟩:=Ry ((Rb T d a lt).mpr ⟨e,f⟩);have j:ends (shr n z r0 r1)≠[]:=λk=>by
  have:=af.mpr ⟨y,i⟩;rw[k]at this;cases this
 have:=(DD (iS T a lt b c.1) (sa a b) j) (iM n z r0 r1 r0)<|Ag.mpr ⟨r0,Ao.mpr ⟨Bg.mpr a.l0,BW a.ne⟩,rfl⟩;unfold iM at this;rwa[BL rfl]at this
def Pe{n:bc}{z:Str}{r0 r1:Nat}(T:ao n)(a:z∈ag n)(b:mY n z r0 r1)(lt:r0<r1):(ag<|shr n z r0 r1).length<=(ag n).length:=by
 refine Z8 _ _ λy=>?_
 by_cases c:y∈ag (shr n z r0 r1)
 ·rw[Rc T a b lt y c,T y ((Rb T a b lt).mp c).1];exact Aq _
 ·grind
inductive lD(K:aa)(vs:List V)(H:Hp)(Q:VK)(_:XK):Prop
 |mk (a:Addr)(ns:List Int)(_:vs=[.ref a])(_:av K H a<|ns.map V.int)(_:ns.length<=63)(_:∀H',Q (.bl true) H')
abbrev CC:Ñ:=["_law_script","_law_stem","_law_rows","_law_names_here","_law_tie","_law_word","_law_many","_law_kind","_law_without","_law_within"]
def tL:ak CC ["_law_script"] (aW qM):=cg
theorem x0c{P:Program}{w:World}{K:aa}{mg:Ò}{base:Heap}{f:Addr}{fd:FuncData}{c:Str->Addr}(F:bA K "law" "law" qM f fd)(T:Txt mg)(cl:Cl K mg c)(GC:aT P w K mg base 9 "_law_cell_at" ["_law_script","_law_k"]<|iC K)(GB:aT P w K mg base 9 "_law_big" ["_law_script","_law_at"]<|nZ K)
  (GN:aT P w K mg base 9 "_law_net_by" ["_law_big_here","_law_most","_law_stem"] oF) (GT:aT P w K mg base 9 "_law_ties" ["_law_rows"] mj) (GK:cV P w K mg base 9 "kind_of" ["rows","tie"]<|kq c) (GY:aT P w K mg base 9 "_law_copy" ["_law_rows"] kg) (GW:aT P w K mg base 9 "_law_walks" ["_law_rows"] iQ) (GS:aT P w K mg base 9 "_law_sort" ["_law_rows","_law_tie"] kz)
  (GO:cV P w K mg base 9 "taken_out" ["rows","tie"]<|eF c gG) (GH:cV P w K mg base 9 "shrunk" ["rows","tie"]<|eF c iO):aG P w K mg base bF 10 f fd ["_law_script"] (lD K):=by
 refine F.gc tL λb0 H vs Q E l h=>?_;obtain⟨a,ns,rfl,hS,Ý,q⟩:=h;have nd:=tL.nd;have u1:(LV CC "law" (aW qM) P w K mg base b0).A.units+1<cLine:=Gq (Nat.add_le_add_left (by decide) _) l.j6;refine aX 1 nd (bb di<|bC GC l<|ai<|U 0<|ai<|aF<|aA ⟨a,ns,0,rfl,hS,by decide,λc0=>?_⟩);refine bb Kt (aF<|aF ⟨_,_,rfl,rfl,⟨by decide,by decide,by decide⟩,_,_,rfl,rfl,(by show(0:Int)<10 ^ (18:Int).toNat;decide),?_⟩);show fg _ _ _ [some<|.ref a,some<|.int<|c0%10 ^ (18:Int).toNat,none,none,none,none,none,none,none,none] H;generalize c0%10 ^ (18:Int).toNat=s;refine aX 2 nd (bC GN l<|ai<|bb gR<|bb gR<|bb ya<|bC GB l<|ai<|U 0<|ai<|aF<|aA ⟨a,ns,1,rfl,hS,by decide,λb H1 s1=>aF ⟨_,_,rfl,rfl,.inr ⟨by decide,by decide⟩,aF ⟨_,_,rfl,rfl,?_⟩⟩⟩);refine bb di (bC GC l<|ai<|U 0<|ai<|aF<|aA ⟨a,ns,2,rfl,s1.seq hS,by decide,λc2=>aF ⟨_,_,rfl,rfl,(by show(0:Int)<23;decide),_,_,rfl,rfl,?_⟩⟩);refine ai (aF<|ai<|U 1<|aA ⟨_,24,_,rfl,by decide,by decide,λR as n H2 s2 n2 hR p u hF J gY tM OV has=>?_⟩);have Ø:((24:Int)).toNat=24:=rfl;rw[Ø]at gY OV;have Þ:4<=(ag n).length:=by grind
 clear tM;have h0:0<n.length:=Ds.mpr hF.some;have v:Jd n:=λzs o A=>by
  have:=aK o A;lia
 have N:∀r,r<n.length->row n r≠[]:=by
  obtain⟨nm,rfl⟩|⟨_,h⟩:=hF
  ·have:(ag [(nm,[])]).length=0:=rfl;lia
  ·exact h
 show fg _ _ _ [some<|.ref a,some<|.int s,some<|.ref R,none,none,none,none,none,none,none] H2;refine aX 3 nd (bC GT l<|ai<|U 2<|aA ⟨R,as,n,rfl,hR,by lia,by lia,v,λL ss H3 s3 n3 eL ß à O=>?_⟩);have sl:0<ss.length:=by
  obtain⟨z,o⟩:=List.exists_mem_of_length_pos (by lia:0<(ag n).length);exact Fe<|(O z).mpr o
 have mK:=hR.same s3;show fg _ _ _ [some<|.ref a,some<|.int s,some<|.ref R,some<|.ref L,none,none,none,none,none,none] H3;refine aX 4 nd (bn dZ<|U 3<|bb di<|bb kG<|bC GC l<|ai<|U 0<|ai<|aF<|aA ⟨a,ns,2,rfl,(s1.trans<|s2.trans s3).seq hS,by decide,λc3=>aF ⟨_,_,rfl,rfl,⟨by decide,by decide⟩,?_⟩⟩);refine cL eX T.len DP<|ai<|U 3<|aA ⟨L,_,rfl,.inl<|av.of eL,?_⟩;rw[Aa];obtain⟨j,ej,hj⟩:∃j:Nat,c3/23%(ss.length:Int)=j/\j<ss.length:=by
  have g0:0<=c3/23%(ss.length:Int):=Ce _ (by lia);have g1:c3/23%(ss.length:Int)<ss.length:=Cj _ (by lia);exact⟨(c3/23%(ss.length:Int)).toNat,by lia,by lia⟩
 refine⟨_,_,rfl,rfl,by lia,L,_,_,.str ss[j],rfl,rfl,av.of eL,ej▸(yM<|Ab hj),?_⟩;have o:=(O ss[j]).mp<|Bq hj;generalize ss[j]=z at o;obtain⟨y,hy,yz⟩:∃y∈ag n,y≠z:=CJ λk=>by
  have:=AA p o λw hw=>CJ λq=>k ⟨w,hw,q⟩;lia
 show fg _ _ _ [some<|.ref a,some<|.int s,some<|.ref R,some<|.ref L,some<|.str z,none,none,none,none,none] H3;refine aX 5 nd (bn cw<|xr GK l RA<|ai<|bC GY l<|ai<|U 2<|aA ⟨R,as,n,rfl,mK,by lia,λM bs H4 s4 n4 f4 hM=>ai<|U 4<|aA ⟨M,bs,n,z,rfl,hM,u,p,J,h0,by lia,by omega,λk=>absurd o k,λ_ t Lk i sk H5 s5 nt nL et á RC=>aF ⟨t,_,_,.str i,rfl,rfl,aU.of et,rfl,?_⟩⟩⟩);have Y:=Ro RC.kk;have w9:=(mK.same s4).same s5;show fg _ _ _ [some<|.ref a,some<|.int s,some<|.ref R,some<|.ref L,some<|.str z,some<|.str i,none,none,none,none] H5;refine fk<|cA T7<|U 5<|dk<|ai<|eI<|ai<|eI<|ai<|eI<|aA ⟨Z3,λtq Ù=>⟨tq,_,rfl,.inr<|aU.of ay,rfl,rfl,_,rfl,?_⟩⟩;have e3:(if true=true then !t7 (.str i) [.str "double",.str "cut",.str "round"]else t7 (.str i) [.str "double",.str "cut",.str "round"])=false:=by
  obtain rfl|rfl|rfl:=Y<;>rfl
 rw[e3];have s6:=aM Ù<|.tup [.str "double",.str "cut",.str "round"];have sR:=w9.same s6;generalize upd H5 tq (.tup [.str "double",.str "cut",.str "round"])=H6 at s6 sR;refine bU<|a8 ?_;refine aX 6 nd (bC GW l<|ai<|U 2<|aA ⟨R,as,n,rfl,sR,p,by omega,by omega,λH7 s7=>?_⟩);refine aX 7 nd (bC GS l<|ai<|U 2<|ai<|U 4<|aA ⟨R,as,n,z,rfl,sR.same s7,p,u,h0,by omega,by omega,o,λH8 s8=>?_⟩);have Ú:=(sR.same s7).same s8;show fg _ _ _ [some<|.ref a,some<|.int s,some<|.ref R,some<|.ref L,some<|.str z,some<|.str i,some<|.int ((aE n).length:Nat),some<|.str<|knd n z,none,none] H8;refine aX 8 nd<|k6p u1 λd hd=>eI<|bb Ks<|U 6<|aF ⟨_,_,rfl,rfl,eI<|bb gR<|U 6<|aF ⟨_,_,rfl,rfl,eI<|U 6 ⟨_,_,_,rfl,rfl,rfl,ay,?_⟩⟩⟩;rw[pY];have s9:=aM hd<|.dK<|tab ((aE n).length-1) ((aE n).length+1) (aE n).length;have ed:(upd H8 d<|.dK<|tab ((aE n).length-1) ((aE n).length+1) (aE n).length) d=some (.dK<|tab ((aE n).length-1) ((aE n).length+1) (aE n).length):=ay;have Ö:=Ú.same s9;show fg _ _ _ [some<|.ref a,some<|.int s,some<|.ref R,some<|.ref L,some<|.str z,some<|.str i,some<|.int ((aE n).length:Nat),some<|.str<|knd n z,some<|.ref d,none] (upd H8 d<|.dK<|tab ((aE n).length-1) ((aE n).length+1) (aE n).length);generalize upd H8 d (.dK<|tab ((aE n).length-1) ((aE n).length+1) (aE n).length)=H9 at s9 ed Ö;refine aX 9 nd<|k6p u1 λB Û=>eI<|bb Ks<|U 6<|aF ⟨_,_,rfl,rfl,eI<|U 6<|eI<|bb gR<|U 6<|aF ⟨_,_,rfl,rfl,_,_,_,rfl,rfl,rfl,ay,?_⟩⟩;rw[pY];have sA:=aM Û<|.dK<|tab ((aE n).length-1) (aE n).length<|(aE n).length+1;have mr:(upd H9 B<|.dK<|tab ((aE n).length-1) (aE n).length<|(aE n).length+1) B=some (.dK<|tab ((aE n).length-1) (aE n).length<|(aE n).length+1):=ay;have C0:=sA _ _ ed;have RE:=Ö.same sA;show fg _ _ _ [some<|.ref a,some<|.int s,some<|.ref R,some<|.ref L,some<|.str z,some<|.str i,some<|.int ((aE n).length:Nat),some<|.str<|knd n z,some<|.ref d,some<|.ref B] (upd H9 B<|.dK<|tab ((aE n).length-1) (aE n).length<|(aE n).length+1);generalize upd H9 B (.dK<|tab ((aE n).length-1) (aE n).length<|(aE n).length+1)=HA at sA mr C0 RE;have oT:ao (bd n z):=Jh p;refine Vx (λk H'=>k=false/\aj HA H') (λσ H'=>aj HA H'/\σ=[some<|.ref a,some<|.int s,some<|.ref R,some<|.ref L,some<|.str z,some<|.str i,some<|.int ((aE n).length:Nat),some<|.str<|knd n z,some<|.ref d,some<|.ref B]) ?_ (λH' h=>by cases h.1) (λH' h=>a8 ⟨h.2,rfl⟩) ?_
 ·refine wy<|Lg<|cA tX<|U 7<|eI ⟨rfl,_,rfl,?_⟩
  by_cases kb:knd n z = "bridge"
  ·rw[BW<|BX V.str kb];exact bU ⟨rfl,aj.refl _⟩
  ·rw[BR λe=>kb<|V.str.inj e];have hg:cC (bd n z):=by
    obtain⟨r,h⟩|⟨D,G,h⟩:=Jf p o
    ·exact rk h J.1
    ·refine US oT<|CJ λk=>kb ?_;unfold knd;rw[h,C (show ¬ [D,G].length=1 by simp),C k]
   have hw:mZ (bd n z):=Ye oT hg (by rwa[rz]);have eo:gG n z=.inr (bd n z):=by
    unfold gG;rw[BL o,BL hw]
   have ow:=V8 p J u h0 N o RC hg hy yz;refine bK (Li<|cA tX<|bC GW l<|ai<|xr GO l RA<|ai<|bC GY l<|ai<|U 2<|aA ⟨R,as,n,rfl,RE,by omega,λM2 cs HB sB nB fB RF=>ai<|U 4<|aA ⟨M2,cs,n,z,rfl,RF,p,u,by omega,by omega,v,(λx hx=>by rw[eo]at hx;cases hx),λm A Lm es HC sC nC fC RH _=>?_⟩⟩);rw[eo]at A;cases A;refine aA ⟨Lm,es,_,rfl,RH,oT,by rw[rz];omega,?_,λHD sD=>?_⟩
   ·have:=QO (n:=n) (z:=z);omega
   refine i0 u1<|U 8<|U 5 ⟨d,.int (if i = "double" then((aE n).length:Int)-1 else if i = "cut" then((aE n).length:Int)+1 else((aE n).length:Int)),rfl,?_,rfl,_,rfl,?_⟩
   ·have:=(sB.trans<|sC.trans sD) _ _ C0;have g:=bf.k (k:=Sum.inr i) this;rwa[BS Y]at g
   ·have e:((aE<|bd n z).length:Int)=(if i = "double" then((aE n).length:Int)-1 else if i = "cut" then((aE n).length:Int)+1 else((aE n).length:Int)):=by
     rw[ow];unfold vZ
     obtain rfl|rfl|rfl:=Y
     ·rw[BL rfl,BL rfl];omega
     ·rw[C (by decide),BL rfl,C (by decide),BL rfl]
     ·rw[C (by decide),C (by decide),C (by decide),C<|by decide];omega
    rw[e,BW rfl];exact⟨rfl,sB.trans<|sC.trans sD⟩
 rintro σ HB ⟨sB,rfl⟩;have Ou:=RE.same sB;refine bQ<|x5o<|qp fQ<|U 7<|eI ⟨rfl,_,rfl,?_⟩
 by_cases kl:knd n z = "loop"
 ·rw[BW<|BX V.str kl];exact bK<|q _
 rw[BR λe=>kl<|V.str.inj e];obtain⟨D,G,I⟩:∃D G,d8 n z=[D,G]:=by
  obtain⟨r,h⟩|h:=Jf p o
  ·exact absurd (by unfold knd;rw[h,BL (show [r].length=1 from rfl)]) kl
  ·exact h
 have tw:=xE I;have eo:=ZD I;have Ü:=ky p J u h0 N o RC I<|k7r p J u o I hy yz;have sT:ao (shr n z D G):=Rc p o tw<|C1 I;refine bU (Lv<|qp fQ<|bC GW l<|ai<|xr GH l RA<|ai<|bC GY l<|ai<|U 2<|aA ⟨R,as,n,rfl,Ou,by omega,λM2 cs HC sC nC fC RF=>ai<|U 4<|aA ⟨M2,cs,n,z,rfl,RF,p,u,by omega,by omega,v,(λx hx=>by rw[eo]at hx;cases hx),λm A Lm es HD sD nD fD RH _=>?_⟩⟩);rw[eo]at A;cases A;refine aA ⟨Lm,es,_,rfl,RH,sT,by rw[C2 tw];omega,?_,λHE sE=>?_⟩
 ·have:=Pe p o tw<|C1 I;omega
 refine i0 u1<|U 9<|U 5 ⟨B,.int (if i = "double" then((aE n).length:Int)-1 else if i = "cut" then((aE n).length:Int) else((aE n).length:Int)+1),rfl,?_,rfl,?_⟩
 ·have:=(sB.trans<|sC.trans<|sD.trans sE) _ _ mr;have g:=bf.k (k:=Sum.inr i) this;rwa[BS Y]at g
 ·have e:((aE<|shr n z D G).length:Int)=(if i = "double" then((aE n).length:Int)-1 else if i = "cut" then((aE n).length:Int) else((aE n).length:Int)+1):=by
   rw[Ü];unfold v5
   obtain rfl|rfl|rfl:=Y
   ·rw[BL rfl,BL rfl];omega
   ·rw[C (by decide),C (by decide),C (by decide),BL rfl];omega
   ·rw[C (by decide),BL rfl,C (by decide),C<|by decide]
  rw[e,BW rfl];exact q _
end G8
namespace L2
open PySem PySem.Spec PyProof.Rows
def Df.hx{P:Program}{w:World}{K:aa}{mg:Ò}{h base:Heap}{k:Nat}{x:Str}{st:Stmt}{ps:Ñ}{sp:Sp}(d:Df K x st)(X:K.In h)(G:h.Ns mainGlobals mg)
  (ok:∀{f:Addr}{b:FuncData},bA K x x st f b->aG P w K mg base (XF P w) k f b ps sp)
  (c:∀(kV a pm:Value)(e:Option Addr)(i ct:Value)(us:Ó),us.length=ps.length->bindArgs (PySem.W.fnOf x x (pB st) (iW st) (aW st) .none kV a pm e i ct) ⟨us,[]⟩=pure (ps.zip us):=by intro _ _ _ _ _ _;(repeat (refine L2.yx λ_=>?_));exact L2.yy rfl):cV P w K mg base k x ps sp:=d.PR X G c ok
end L2
namespace G8
open PySem L2 Nt
def AM{l:PySem.W.OpenLaw}{w:World}{K:aa}{h:Heap}{mg:Ò}{fa:Addr}(X:K.In h)(G:h.Ns mainGlobals mg)(LW:mg "law" = some (.ref fa))
  (h1:Df K "ends_round" F') (h2:Df K "ends_in_order" GA) (h3:Df K "turned_left" MS) (h4:Df K "turned_right" MT) (h5:Df K "other_ends" MU) (h6:Df K "ties_by_end" GI) (h7:Df K "left_steps" GU) (h8:Df K "right_steps" GV) (h9:Df K "points_of" G') (RO:Df K "links_of" MX) (RU:Df K "summed" M0) (RY:Df K "odd_points" j8) (R0:Df K "cut_of" Hq) (R1:Df K "walkers_of" uN) (R3:Df K "walker_from" uO) (R5:Df K "core_of" yZ) (R9:Df K "cores_of" Hr) (Sd:Df K "parted" Hs) (Se:Df K "points_by" M1) (Sg:Df K "lowered" M3) (Sh:Df K "_law_cell_at" M5) (Si:Df K "_law_big" uP) (Sj:Df K "_law_names" M6) (Sl:Df K "_law_seats" M7) (Sn:Df K "_law_other" M8) (Sq:Df K "_law_step" M9) (Ss:Df K "_law_face" Nb) (Sv:Df K "_law_put" uQ) (Sw:Df K "_law_net_by" uR) (Sx:Df K "_law_copy" Ht) (Sy:Df K "ties_of" Ho) (Sz:Df K "need_tie" MV) (SA:Df K "kind_of" M4) (SD:Df K "hangs_together" G0) (SE:Df K "spread" MY) (SF:Df K "taken_out" uM) (SG:Df K "shrunk" yY) (SH:Df K "joined" MZ) (SK:Df K "_law_ties" Nc) (SL:Df K "_law_hangs" Nf) (SR:Df K "_law_out" uS) (SU:Df K "_law_sort" Ng) (SV:Df K "_law_walks" Nh) (hl:Df K "law" qM)
  (qc:Qp K=true)
  (z:∀ x∈(["isinstance","tuple","str","int","bool","list","dict","set","enumerate","zip","len","range","sorted","max","all","ValueError"]:Ñ),PySem.W.nsIn K mainGlobals x=some none):
  ∃ o:FuncData,(∀(s:Shared) (v:Value),BindsTo s o ⟨[v],[]⟩ [("_law_script",v)])/\∀base:Heap,K.In base->base.Ns mainGlobals mg->aG l.prog w K mg base bF 10 fa o ["_law_script"] (lD K):=by
 have T:Txt mg:=⟨CT X G (z _<|by simp),CT X G (z _<|by simp),CT X G (z _<|by simp),CT X G (z _<|by simp),CT X G (z _<|by simp),CT X G (z _<|by simp),CT X G (z _<|by simp),CT X G (z _<|by simp),CT X G (z _<|by simp),CT X G (z _<|by simp),CT X G (z _<|by simp),CT X G (z _<|by simp),CT X G (z _<|by simp),CT X G (z _<|by simp),CT X G (z _<|by simp),CT X G<|z _<|by simp⟩;have a:=x5n X G qc;refine hl.law X G LW (λ_ _ _ _ _ _ s v=> .of_eq rfl) λbase f o F=>?_;have p:aT l.prog w K mg base 1 "ends_round" ["row"] gm:=h1.hs X G λF=>uz F T;have G2:aT l.prog w K mg base 2 "ends_in_order" ["rows"] oP:=h2.hs X G λF=>p5 F T (p.mono<|by decide);have G3:aT l.prog w K mg base 1 "turned_left" ["end","many"] (kh λj=>j+1):=h3.hs X G λF=>q7f F T;have G4:aT l.prog w K mg base 1 "turned_right" ["end","many"] (kh λj=>j-1):=h4.hs X G λF=>k9x F T;have G5:aT l.prog w K mg base 2 "other_ends" ["rows"] oK:=h5.hs X G λF=>mh F T (p.mono<|by decide);have G6:aT l.prog w K mg base 2 "ties_by_end" ["rows"] qV:=h6.hs X G λF=>zf F T (p.mono<|by decide);have G7:aT l.prog w K mg base 3 "left_steps" ["rows"] (kj 1):=h7.hs X G λF=>AG F T (G5.mono<|by decide) (G3.mono<|by decide);have G8:aT l.prog w K mg base 3 "right_steps" ["rows"] (kj (-1)):=h8.hs X G λF=>dA F T (G5.mono<|by decide) (G4.mono<|by decide);have q:aT l.prog w K mg base 1 "walker_from" ["lefts","rights","first"] vA:=R3.hs X G λF=>x4b F T;have r:aT l.prog w K mg base 4 "walkers_of" ["rows"] oQ:=R1.hs X G λF=>i1 F T (G7.mono<|by decide) (G8.mono<|by decide) (G6.mono<|by decide) (G2.mono<|by decide) (q.mono<|by decide);have t:aT l.prog w K mg base 3 "core_of" ["rows","walker"] km:=R5.hs X G λF=>q82 F T (G6.mono<|by decide);have u:aT l.prog w K mg base 5 "cores_of" ["rows"] iL:=R9.hs X G λF=>ft F T (r.mono<|by decide) (t.mono<|by decide);have G9:aT l.prog w K mg base 1 "points_of" ["rows"] oU:=h9.hs X G λF=>FD F T;have b:aT l.prog w K mg base 1 "links_of" ["rows"] fJ:=RO.hs X G λF=>DF F T;have c:aT l.prog w K mg base 2 "cut_of" ["rows","points"] fK:=R0.hs X G λF=>x1j F T (b.mono<|by decide);have d:aT l.prog w K mg base 1 "odd_points" ["rows","some"] lr:=RY.hs X G λF=>vX F T;have e:aT l.prog w K mg base 1 "summed" ["one","other"] dL:=RU.hs X G λF=>ZO F T;have y:aT l.prog w K mg base 2 "lowered" ["steps","points","odds"] oW:=Sg.hs X G λF=>x07 F T (e.mono<|by decide);have A:aT l.prog w K mg base 4 "points_by" ["rows","odds"] vN:=Se.hs X G λF=>JE F T (G9.mono<|by decide) (y.mono<|by decide) (d.mono<|by decide) (c.mono<|by decide);have B:aT l.prog w K mg base 6 "parted" ["rows","some"] gC:=Sd.hs X G λF=>Tu F T (u.mono<|by decide) (c.mono<|by decide) (A.mono<|by decide) (d.mono<|by decide) (e.mono<|by decide);have i:aT l.prog w K mg base 1 "_law_cell_at" ["_law_script","_law_k"] (iC K):=Sh.hs X G λF=>Vl F T;have D:aT l.prog w K mg base 2 "_law_big" ["_law_script","_law_at"] (nZ K):=Si.hs X G λF=>Op F T (i.mono<|by decide);have E:aT l.prog w K mg base 1 "_law_names" ["_law_stem","_law_many"] iD:=Sj.hs X G λF=>q2n F T;have k:aT l.prog w K mg base 1 "_law_seats" ["_law_rows"] fz:=Sl.hs X G λF=>lj F T;have m:aT l.prog w K mg base 1 "_law_other" ["_law_rows","_law_seats_here","_law_end"] fE:=Sn.hs X G λF=>q5c F T;have n:aT l.prog w K mg base 2 "_law_step" ["_law_rows","_law_seats_here","_law_end","_law_turn"] iE:=Sq.hs X G λF=>ln F T (m.mono<|by decide);have H:aT l.prog w K mg base 3 "_law_face" ["_law_rows","_law_seats_here","_law_end"] j9:=Ss.hs X G λF=>MI F T (n.mono<|by decide);have I:aT l.prog w K mg base 4 "_law_put" ["_law_rows","_law_big_here","_law_tie","_law_point"] oB:=Sv.hs X G λF=>RI F T (k.mono<|by decide) (H.mono<|by decide);have J:aT l.prog w K mg base 5 "_law_net_by" ["_law_big_here","_law_most","_law_stem"] oF:=Sw.hs X G λF=>iU F T (E.mono<|by decide) (I.mono<|by decide);have L:aT l.prog w K mg base 1 "_law_copy" ["_law_rows"] kg:=Sx.hs X G λF=>q6j F T;have M:aT l.prog w K mg base 1 "ties_of" ["rows"] mj:=Sy.hs X G λF=>jF F T;have N:cV l.prog w K mg base 2 "need_tie" ["rows","tie"] (gE<|ko K):=Sz.hx X G λF=>WE F T a (M.mono<|by decide);have O:cV l.prog w K mg base 8 "kind_of" ["rows","tie"] (kq<|ko K):=SA.hx X G λF=>ua F T a (N.mono<|by decide) (B.mono<|by decide);have Q:aT l.prog w K mg base 1 "spread" ["first","links"] gF:=SE.hs X G λF=>kw F T;have Y:aT l.prog w K mg base 2 "hangs_together" ["rows"] mD:=SD.hs X G λF=>ux F T (b.mono<|by decide) (Q.mono<|by decide);have Ö:cV l.prog w K mg base 3 "taken_out" ["rows","tie"] (eF (ko K) Nt.gG):=SF.hx X G λF=>xR F T a (N.mono<|by decide) (Y.mono<|by decide);have Ø:aT l.prog w K mg base 1 "joined" ["ties","others","tie"] ku:=SH.hs X G λF=>om F T;have Ù:cV l.prog w K mg base 3 "shrunk" ["rows","tie"] (eF (ko K) Nt.iO):=SG.hx X G λF=>Po F T a (N.mono<|by decide) (Ø.mono<|by decide);have Ú:aT l.prog w K mg base 1 "_law_ties" ["_law_rows"] mj:=SK.hs X G λF=>iv F T;have Û:aT l.prog w K mg base 1 "_law_hangs" ["_law_rows"] mD:=SL.hs X G λF=>yQ F T;have Ü:aT l.prog w K mg base 1 "_law_out" ["_law_rows","_law_tie"] o7:=SR.hs X G λF=>q80 F T;have Ý:aT l.prog w K mg base 3 "_law_sort" ["_law_rows","_law_tie"] kz:=SU.hs X G λF=>Th F T (Û.mono<|by decide) (Ü.mono<|by decide);have Þ:aT l.prog w K mg base 3 "_law_walks" ["_law_rows"] iQ:=SV.hs X G λF=>gB F T (k.mono<|by decide) (m.mono<|by decide) (n.mono<|by decide);exact x0c F T a (i.mono<|by decide) (D.mono<|by decide) (J.mono<|by decide) (Ú.mono<|by decide) (O.mono<|by decide) (L.mono<|by decide) (Þ.mono<|by decide) (Ý.mono<|by decide) (Ö.mono<|by decide)<|Ù.mono<|by decide
def walk{l:PySem.W.OpenLaw}{q:Program}{b:Ñ}{j:Ò->Heap->Prop}{c:World->Heap->Prop}{d:DefRec}{K:Params->aa}(m:l.most=some 63)(o:d.params.defaults=[])
  (p:∀(w:World)(h:Heap),c w h->(K w.params).In h)
  (F : ∀(w : World)(mg : Str → Option Value)(e : Addr)(h : Heap), (K w.params).In h → h.Ns mainGlobals mg → mg d.name = some (.ref e) →
   ∃ i:FuncData,(∀(s:Shared) (u:Value),BindsTo s i ⟨[u],[]⟩ [("_law_script",u)])/\∀base:Heap,(K w.params).In base->base.Ns mainGlobals mg->aG l.prog w (K w.params) mg base bF 10 e i ["_law_script"] (lD<|K w.params)):
  PySem.W.WalkO q b j c l.row.toRowW d [] (λf vs=>PySem.call f vs):=
 L2.qm (n:=63) (k:=10) (x:= "_law_script") (CX:=λ_=>bF) (sp:=λw=>lD<|K w.params) m (by decide) o ⟨rfl,by decide,by decide⟩ p F (λ_ _ a ns r _ t=>⟨a,ns,rfl,t,r,λ_=>rfl⟩) λ_ _ _ _ _ z=>z
end G8
-- see NOTE.md
namespace PySem.W.Fast
def tw7801452878652052099:=Î
def tw12686267368038958685:=Î
def tw14437085451421485628:=Î
def tw14138523523226768730:=Î
def tw17686789118424907850:=Î
def tw7817425661478664806:=Î
def tw4175277720008502158:=Î
def tw18047949664417901279:=Î
def tw5174342360579977280:=Î
def tw2041326769555030639:=Î
def tw15454708350921542201:=Î
def tw16497674232364261389:=Î
def tw4332650013767954094:=Î
def tw5702178300338143362:=Î
def tw17591947524320032064:=Î
def tw7660555948527962638:=Î
def tw3007276618513404943:=Î
def tw3099833999513415793:=Î
def tw4685309173499402196:=Î
def tw14124844307252241630:=Î
def tw5800130863394532480:=Î
def tw11852715277444966885:=Î
def tw16568393584466509943:=Î
def tw16648224148479891359:=Î
def tw1219532001602049541:=Î
def tw17934949290641169310:=Î
def tw8862270237810609133:=Î
def tw17514065705180879299:=Î
def tw12573025234620070082:=Î
def tw13745374662860167199:=Î
def tw5674149242195370113:=Î
def tw2491343481803364764:=Î
def tw8545350979756325582:=Î
def tw2985952417967402020:=Î
def tw1830431171727127371:=Î
def tw4858519165139750602:=Î
def tw4387334298042073699:=Î
def tw16289417639157794843:=Î
def tw9097846347800191517:=Î
def tw9691339885510159308:=Î
def tw15650317854995820490:=Î
def tw13688924511275143004:=Î
def tw11652881846472406736:=Î
def tw15306014117979585659:=Î
def tw3919059540260575501:=Î
def tw15156224248482397493:=Î
def tw137758409366720405:=Î
def tw10070774592993834369:=Î
def tw15697787294359917964:=Î
def tw14353953736159438273:=Î
def tw16815740056085139942:=Î
def tw6816995887128514878:=Î
def tw9897044348557344141:=Î
def tw16162383713780938838:=Î
def tw10735023467447558240:=Î
def tw15375367956833357270:=Î
def tw40939312594982231:=Î
def tw46737885518036534:=Î
def tw1835783274804866692:=Î
def tw1886053657428187573:=Î
def tw5971297809115520474:=Î
def tw7615768856033798094:=Î
def tw8826119312504332529:=Î
def tw14586752634414476683:=Î
def tw11374703845030890999:=Î
def tw12476770231096233093:=Î
def tw8213410693939717353:=Î
def tw15958422167178087359:=Î
def tw2734185978256427953:=Î
def tw2699109447917120986:=Î
def tw16670415078527692828:=Î
def tw1099238831379235723:=Î
def tw10763994897325819071:=Î
def tw8088763751417769837:=Î
def tw10257912879829316698:=Î
def tw15341280006370698672:=Î
def tw8004557704739310870:=Î
def tw6982441686156550533:=Î
def tw1889725858831516887:=Î
def tw4013757250103160119:=Î
def tw16081818826128280600:=Î
def tw5927031024790758214:=Î
def tw10323605877112884258:=Î
def tw17634730829289980598:=Î
def tw10412872261801585346:=Î
def tw5038185334241951958:=Î
def tw18277935036458201993:=Î
def tw14556259890226153956:=Î
def tw6347486342570704353:=Î
def tw15036241693323722640:=Î
def tw11358692667136290291:=Î
def tw16956479942926986730:=Î
def tw4781217188430342216:=Î
def tw14429112983551864139:=Î
def tw15358360978412671933:=Î
def tw8193603301918373012:=Î
def tw3563040627519344197:=Î
def tw17917183893251274632:=Î
def tw3398339183891447897:=Î
def tw3015121536748761914:=Î
def tw5449019921796715647:=Î
def tw6059495777772056810:=Î
def tw8063288303840203031:=Î
def tw18389974610018625461:=Î
def tw14443772883143417133:=Î
def tw16517682631059999642:=Î
def tw6802375140080831600:=Î
def tw12187508697160895542:=Î
def tw33837744890419161:=Î
def tw8750014764583381332:=Î
def tw13815250133989158173:=Î
def tw8446106427236592569:=Î
def tw4240911643809625982:=Î
def tw13726142807162874421:=Î
def tw4263117409299571327:=Î
def tw1973151135388293369:=Î
def tw4138689319831827569:=Î
def tw5029770516740642335:=Î
def tw3756770494669822919:=Î
def tw8023397572347283676:=Î
def tw13587589266768980287:=Î
def tw8281084431009965021:=Î
def tw4753288855687379544:=Î
def tw9922438682604054980:=Î
def tw17038872034417688410:=Î
def tw1006329351334056436:=Î
def tw16432088197941459674:=Î
def tw7378419242094312330:=Î
def tw14183476750059310362:=Î
def tw6043794113379399442:=Î
def tw12753887674862545442:=Î
def tw16670104671530283623:=Î
def tw222949221743567662:=Î
def tw9831584205084653524:=Î
def tw15436615978130004859:=Î
def tw15892674983366365514:=Î
def tw8507341297977033968:=Î
def tw578194211651176505:=Î
def tw7706005078722461400:=Î
def tw8039907394593694894:=Î
def tw3166638008005992724:=Î
def tw14850825943294852214:=Î
def tw15762515310761153481:=Î
def tw6974500137121605750:=Î
def tw8227359922492818774:=Î
def tw5288743322393611943:=Î
def tw1301730520899456130:=Î
def tw17752607724287926581:=Î
def tw7701361817944286859:=Î
def tw2029250000165926164:=Î
def tw11044139451032346407:=Î
def tw1856785253935349599:=Î
def tw12665627551672948412:=Î
def tw268038646061564074:=Î
def tw13529087272920400659:=Î
def tw6650406780804484366:=Î
def tw790335635737739724:=Î
def tw15116394536513615436:=Î
def tw7679731919856633745:=Î
def tw2273355549193201805:=Î
def tw13138689887450153759:=Î
def tw3319483556392738685:=Î
def tw13251106096236112197:=Î
def tw15016065447792753120:=Î
def tw669670994482389174:=Î
def tw566908320899226937:=Î
def tw1929944856958599011:=Î
def tw13617893721319977919:=Î
def tw12499840418923914418:=Î
def tw77454827828047454:=Î
def tw719993187277638241:=Î
def tw17095948411488381449:=Î
def tw14724752154868194514:=Î
def tw3182652494120182136:=Î
def tw4897751640880791522:=Î
def tw9898487237551747360:=Î
def tw10029078972230011713:=Î
def tw3568370617914131416:=Î
def tw16804439822480404516:=Î
def tw14092151904706972453:=Î
def tw17061313112365838659:=Î
def tw7506885961654493029:=Î
def tw1723491599288886624:=Î
def tw12487441115257017722:=Î
def tw8448231370222545235:=Î
def tw10030057449433029015:=Î
def tw5756953821554451065:=Î
end PySem.W.Fast
open PySem PySem.W PyProof.Rows
set_option maxRecDepth 100000 in
set_option maxHeartbeats 0 in
theorem PySem.Challenge.cw_threewebs_k78_whole_walkers_behind_deeds_holds : PySem.Challenge.rw_threewebs_k78_whole_walkers_behind_deeds.Holds := by
 w_on;o_law;k_head;(case hw=>w_witness2)
 k_fill
 refine G8.walk (l:=PySem.Challenge.rw_threewebs_k78_whole_walkers_behind_deeds) rfl rfl (λw h Y=>PySem.W.kIn_of Y) ?F
 case F=>
  intro w mg fa h KX G ym;refine' G8.AM KX G ym ?h1 ?h2 ?h3 ?h4 ?h5 ?h6 ?h7 ?h8 ?h9 ?RO ?RU ?RY ?R0 ?R1 ?R3 ?R5 ?R9 ?Sd ?Se ?Sg ?Sh ?Si ?Sj ?Sl ?Sn ?Sq ?Ss ?Sv ?Sw ?Sx ?Sy ?Sz ?SA ?SD ?SE ?SF ?SG ?SH ?SK ?SL ?SR ?SU ?SV ?h0 ?qc ?zz
  case h1|h2|h3|h4|h5|h6|h7|h8|h9|RO|RU|RY|R0|R1|R3|R5|R9|Sd|Se|Sg|Sh|Si|Sj|Sl|Sn|Sq|Ss|Sv|Sw|Sx|Sy|Sz|SA|SD|SE|SF|SG|SH|SK|SL|SR|SU|SV|h0=>refine' L2.yw ?a ?l ?c ?k;(case a=>k_is);(case l=>k_is);(case c=>k_is);(case k=>k_is)
  case qc=>kernel_rfl
  case zz=>
   refine' List.forall_mem_cons.mpr ⟨?_,?_⟩;k_is
   iterate 15 (refine' List.forall_mem_cons.mpr ⟨?_,?_⟩;k_is)
   exact λx hx=>nomatch hx
end

import PyProof.Rows.All
import Wide.All
import OpenK.AllK
import Wide.FinOn
import Lean
import PyProof.EqAt
import PyProof.EqKinds
import PyProof.TupleCall
import KE.KDictLaws
import KE.KDictList
import KE.KDictSum
import KE.KIsAll
import KE.KSortTup
import KE.KUnpack
import KE.KUnpackStar
import PyProof.AttrMissSeq
import PyProof.CallStr
import PyProof.Conv_int_bool
import PyProof.DictItems
import PyProof.DictIter
import PyProof.DictList
import PyProof.EnumFor
import PyProof.EnumMake
import PyProof.EnumStmt
import PyProof.ExcArgsOwn
import PyProof.ExcAttrAll.ValueError
import PyProof.ExcBaseAll.ValueError
import PyProof.NeKinds
import PyProof.NsDelKeeps
import PyProof.Rows.CatchOwn
import PyProof.Rows.CountFlat
import PyProof.Rows.EnumRows
import PyProof.Rows.FStr
import PyProof.Rows.SeqMore
import PyProof.Rows.SortRev
import PyProof.Rows.StrSplitJoin
import PyProof.Rows.StrWeight2
import PyProof.Rows.TupDisplay
import PyProof.RulesTry
import PyProof.SetNew
import PyProof.SetRoads
import PyProof.StationsW
import PyProof.TupleKey
import PyProof.WalkInts
import PyProof.ZipIter
import PySem.Challenge.RW_threewebs_k41_doubles_by_walkers
set_option compiler.extract_closed false
set_option genSizeOf false
set_option bootstrap.genMatcherCode false
noncomputable section
open List(range Perm replicate)
abbrev aa:=PySem.W.Frag
abbrev bc{α}(p w A):=PySem.wpAny (α:=α) (PySem.model p w) A
local macro_rules|`(tactic|omega)=>`(tactic|first|lia|omega +splitDisjunctions)
abbrev Î:=PySem.Value->PySem.Shared->Prop
abbrev Ï:=List (PySem.Addr×PySem.Addr)
abbrev Ð:=List (PySem.Addr×PySem.Obj)
abbrev Ñ:=List PySem.Str
abbrev Ò:=PySem.Str->Option PySem.Value
abbrev Ó:=List PySem.Value
abbrev Ô:=List PySem.Expr
abbrev Õ:=List PySem.Stmt
abbrev BJ:=@PySem.wpAny_bind
abbrev BK:=@if_neg
abbrev BL:=@PySem.wpAny_pure
abbrev BP:=@if_pos
abbrev BR:=@decide_eq_false
abbrev BW:=@decide_eq_true
abbrev BX:=@of_decide_eq_true
abbrev BZ:=@congrArg
abbrev CG:=@Ne.symm
abbrev CJ:=@PySem.wpAny_holding
abbrev CK:=@decide_eq_true_iff
abbrev CN:=@PySem.wpAny_setState_of
abbrev CP:=@PySem.W.mg_none_of
abbrev CQ:=@PySem.Heap.SameBut.update
abbrev CT:=@PySem.wpAny_mono
abbrev CV:=@if_false
abbrev CW:=@PyProof.Rows.boot_sorted
abbrev CZ:=@PySem.wpAny_newObj_type
abbrev DG:=@PySem.mem_of_lookup
abbrev DK:=@PyProof.Rows.boot_isinstance
abbrev DN:=@decide_eq_true_eq
abbrev DP:=@if_true
abbrev DQ:=@PySem.wpAny_call_entry
abbrev DR:=@PySem.boot_len
abbrev DW:=@PySem.F.plainAttrs_list
abbrev DX:=@PySem.wpAny_setField
abbrev DY:=@PySem.wpAny_truthy_bool
abbrev EY:=@PySem.W.kia_one
abbrev FJ:=@PySem.sizeLine_eq
abbrev FN:=@PySem.Around.under_plainId
abbrev FP:=@PySem.wpAny_standAt
abbrev FQ:=@PySem.codeAny_builtin
abbrev FT:=@PyProof.Rows.wpS_bind
abbrev FW:=@or_false
abbrev FZ:=@bne_self_eq_false
abbrev GJ:=@of_decide_eq_false
abbrev GK:=@Classical.byContradiction
abbrev GX:=@PySem.wpAny_rule
abbrev HN:=@PySem.wpAny_typeNameOfWhole_itemiter
abbrev HX:=@PySem.wpAny_storeSet_of
abbrev HY:=@PySem.F.slot_dict_itemiterator_next
abbrev IK:=@PyProof.Rows.boot_list
abbrev IV:=@PyProof.Rows.callWith_type1
abbrev IW:=@PyProof.Rows.F.plain_set_update_loop
abbrev JB:=@PySem.wpAny_passesOwn
abbrev JC:=@Prod.ext
abbrev JD:=@beq_iff_eq
abbrev JF:=@PySem.wpAny_typeNameOf_itemiter
abbrev JG:=@PySem.wpAny_of_eq
abbrev JH:=@PySem.wpAny_field
abbrev JK:=@PySem.codeAny_mono
abbrev JL:=@decide_eq_false_iff_not
abbrev JM:=@PySem.wpAny_callSpecial?_slot
abbrev JN:=@PySem.plainId_quiet
abbrev JQ:=@PySem.wpAny_attempt
abbrev JR:=@PySem.wpAny_Call_Name_kw
abbrev JT:=@PySem.wpAny_setField_rec
abbrev JV:=@PySem.W.cellsFrom_some
abbrev JW:=@PySem.Calls.callWith_builtin
abbrev JX:=@PyProof.Rows.wpS_pure
abbrev JZ:=@PyProof.Rows.boot_int
abbrev KC:=@PySem.Obj.isFreed_of_fields
abbrev KD:=@PySem.wpAny_askSetting
abbrev KH:=@PySem.wpAny_isInstance
abbrev KJ:=@PySem.wpAny_newList
abbrev KN:=@PySem.wpAny_setEntries_of
abbrev KQ:=@PySem.PassesOwn.never
abbrev KR:=@PySem.codeAny_of_tree
abbrev KY:=@PySem.W.KasT.kasWp_bind
abbrev KZ:=@PySem.tupleKind_room_in1
abbrev LC:=@PySem.wpAny_comprehension_free
abbrev LK:=@PySem.wpAny_typeOf
abbrev LQ:=@PyProof.Rows.F.entry_set_update_loop
abbrev LR:=@PySem.F.slot_list_insert
abbrev MF:=@PySem.F.type_list_insert
abbrev MJ:=@PySem.Obj.data_mapFields
abbrev MK:=@PySem.wpAny_pyIter_list
abbrev MN:=@PySem.wpAny_setEpoch_of
abbrev MP:=@PySem.wpAny_pyIter_slot
abbrev NK:=@PySem.wpAny_isOneOf_itemiter
abbrev NQ:=@List.eraseIdx_append_of_lt_length
abbrev NZ:=@PySem.W.mg_of
abbrev OD:=@PyProof.Rows.listUpdate_at
abbrev OJ:=@beq_self_eq_true
abbrev PB:=@List.Perm.append_left
abbrev PJ:=@PySem.builtinLookup_eq_fast
abbrev PK:=@PyProof.Rows.boot_set
abbrev PL:=@List.eraseIdxIfInBounds_toArray
abbrev PN:=@PySem.F.args_dict_itemiterator_next_1
abbrev PX:=@PySem.Calls.evalArgs_plain
abbrev QB:=@PySem.call_meets
abbrev QC:=@PySem.strKind_is
abbrev QD:=@PySem.codeAny_call_builtin
abbrev QF:=@PyProof.Rows.listItems_at
abbrev QG:=@PyProof.Rows.wpS_forRange
abbrev QJ:=@PySem.F.entry_dict_itemiterator_next
abbrev QK:=@PySem.F.slot_dict_itemiterator_iter
abbrev QL:=@PySem.entryFor_alias
abbrev QM:=@PySem.wpAny_fieldsOf
abbrev QS:=@PySem.wpAny_newTuple
abbrev QT:=@PySem.wpAny_alloc
abbrev QV:=@PyProof.Rows.seqEpoch_at
abbrev QW:=@PyProof.Rows.assignInOrder_cons
abbrev QX:=@List.lookup_append
abbrev QZ:=@Nat.lt_of_le_of_lt
abbrev RB:=@Nat.pos_of_ne_zero
abbrev RD:=@PySem.MeetsSeq2.wpAny_forIn_array
abbrev RG:=@List.getElem?_drop
abbrev RJ:=@Int.fdiv_eq_ediv_of_nonneg
abbrev RK:=@PyProof.Rows.sortedAll_old
abbrev RL:=@Option.isSome_map
abbrev RM:=@Bool.not_eq_true'
abbrev RN:=@List.Pairwise.map
abbrev RP:=@PySem.wpAny_dictEntries
abbrev RQ:=@Nat.lt_trichotomy
abbrev RT:=@PySem.wpAny_call
abbrev RV:=@List.drop_eq_getElem_cons
abbrev RW:=@PySem.F.slot_set_contains
abbrev RX:=@Array.getElem?_replicate
abbrev RZ:=@List.nodup_range
abbrev SJ:=@List.ext_getElem
abbrev SM:=@Nat.sub_zero
abbrev SN:=@Nat.le_total
abbrev SQ:=@Nat.max_eq_right
abbrev SX:=@List.eraseIdx_cons_succ
abbrev TF:=@Int.eq_ofNat_of_zero_le
abbrev TJ:=@List.pairwise_singleton
abbrev TQ:=@List.filter_cons_of_pos
abbrev TV:=@PySem.F.slot_list_count
abbrev TX:=@PySem.F.type_list_count
abbrev TY:=@PySem.wpAny_execs_nil
abbrev UG:=@List.of_mem_zip
abbrev UJ:=@PySem.wpAny_specialOf
abbrev UL:=@PySem.typeLookup_type
abbrev UW:=@PySem.wpAny_dictEpoch
abbrev VB:=@Nat.max_eq_left
abbrev VD:=@List.length_pos_of_mem
abbrev VF:=@List.Perm.append_right
abbrev VG:=@Bool.and_false
abbrev VH:=@List.getElem?_toArray
abbrev VJ:=@PySem.F.plain_set_new
abbrev VL:=@PyProof.Rows.boot_max
abbrev VN:=@PySem.F.slot_list_pop
abbrev VP:=@PySem.F.type_list_pop
abbrev VR:=@Bool.xor_self
abbrev WD:=@Nat.le_of_eq
abbrev WK:=@Nat.add_zero
abbrev WL:=@Nat.sub_self
abbrev WM:=@Iff.rfl
def Z2:2<=PySem.sizeLine:=(by decide)
def Z0:0<=PySem.sizeLine:=(by decide)
def Z1:1<=PySem.sizeLine:=(by decide)
def Z3:3<=PySem.sizeLine:=(by decide)
set_option Elab.async false
set_option linter.all false
set_option tactic.hygienic false
set_option maxRecDepth 100000
set_option maxHeartbeats 4000000
abbrev Aa:=@List.length_map
abbrev Ab:=@List.getElem?_eq_getElem
abbrev Ac:=@List.getElem?_eq_some_iff
abbrev Ad:=@List.length_append
abbrev Ae:=@PySem.Heap.get?_push_of_some
abbrev Af:=@List.mem_singleton
abbrev Ag:=@List.mem_cons_self
abbrev Ah:=@List.getElem?_map
abbrev Ai:=@List.mem_map
abbrev Aj:=@List.map_append
abbrev Ak:=@List.mem_cons_of_mem
abbrev Al:=@List.mem_cons
abbrev Am:=@Nat.le_refl
abbrev An:=@List.mem_append
abbrev Ao:=@PySem.Heap.get?_push_size
abbrev Ap:=@PySem.Heap.lt_size
abbrev Aq:=@List.getElem?_append_left
abbrev Ar:=@Option.map_eq_some_iff
abbrev As:=@List.length_cons
abbrev At:=@List.mem_of_getElem?
abbrev Au:=@List.append_assoc
abbrev Av:=@List.mem_append_right
abbrev Aw:=@List.size_toArray
abbrev Ax:=@Bool.false_ne_true
abbrev Ay:=@List.nodup_iff_pairwise_ne
abbrev Az:=@List.mem_append_left
abbrev Ba:=@List.getElem?_append_right
abbrev Bb:=@Bool.false_eq_true
abbrev Bc:=@List.mem_range
abbrev Bd:=@List.getElem?_eq_none
abbrev Be:=@List.append_nil
abbrev Bf:=@Nat.lt_of_lt_of_le
abbrev Bg:=@List.mem_filter
abbrev Bh:=@List.length_take
abbrev Bi:=@Nat.ne_of_lt
abbrev Bj:=@List.getElem?_of_mem
abbrev Bk:=@List.nodup_cons
abbrev Bm:=@Int.toNat_natCast
abbrev Bn:=@List.map_cons
abbrev Bo:=@List.map_congr_left
abbrev Bp:=@List.getElem_mem
abbrev Bq:=@Bool.and_eq_true
abbrev Br:=@List.take_length
abbrev Bs:=@Int.emod_nonneg
abbrev Bt:=@Nat.lt_succ_of_lt
abbrev Bu:=@Nat.zero_le
abbrev Bv:=@Array.length_toList
abbrev Bw:=@Array.getElem?_toList
abbrev Bx:=@List.take_add_one
abbrev By:=@Nat.le_trans
abbrev Bz:=@Nat.le_of_lt
abbrev Cb:=@PySem.Heap.get?_update_other
abbrev Cc:=@List.pairwise_iff_getElem
abbrev Cd:=@List.length_eq_zero_iff
abbrev Ce:=@Int.emod_lt_of_pos
abbrev Cf:=@Nat.mod_eq_of_lt
abbrev Cg:=@List.map_map
abbrev Ch:=@List.not_mem_nil
abbrev Ci:=@List.perm_append_comm
abbrev Cj:=@List.nodup_append
abbrev Ck:=@List.take_of_length_le
abbrev Cm:=@List.flatMap_cons
abbrev Cn:=@List.nodup_nil
abbrev Co:=@List.mem_iff_getElem
abbrev Cp:=@List.length_filter_le
abbrev Cq:=@Nat.lt_irrefl
abbrev Cr:=@Bool.eq_iff_iff
abbrev Cs:=@List.pairwise_map
abbrev Ct:=@List.filter_append
abbrev Cu:=@List.contains_iff_mem
abbrev Cv:=@List.filter_cons
abbrev Cw:=@Nat.ne_of_gt
abbrev Cy:=@List.length_range
abbrev Cz:=@List.length_singleton
abbrev Da:=@PySem.Heap.get?_update_self
abbrev Db:=@List.take_append_drop
abbrev Dc:=@List.range_succ
abbrev Dd:=@List.length_drop
abbrev De:=@List.all_eq_true
abbrev Dg:=@List.length_eraseIdx
abbrev Dh:=@PySem.Heap.size_push
abbrev Di:=@List.mem_flatMap
abbrev Dj:=@List.flatMap_append
abbrev Dk:=@Bool.eq_false_iff
abbrev Dl:=@List.flatten_cons
abbrev Dm:=@List.perm_ext_iff_of_nodup
abbrev Do:=@List.pairwise_cons
abbrev Dp:=@List.foldl_cons
abbrev Dq:=@List.count_cons
abbrev Dr:=@Nat.lt_or_ge
abbrev Ds:=@Array.getElem?_eq_getElem
abbrev Du:=@List.length_pos_iff
abbrev Dv:=@List.ext_getElem?
abbrev Dw:=@Int.zero_add
abbrev Dx:=@List.lookup_cons
abbrev Dy:=@List.getElem_map
abbrev Dz:=@Array.getD_eq_getD_getElem?
abbrev Eb:=@Bool.not_true
abbrev Ec:=@List.filter_eq_nil_iff
abbrev Ed:=@List.count_pos_iff
abbrev Ee:=@List.getElem?_take_of_lt
abbrev Ef:=@Nat.le_succ
abbrev Eh:=@Nat.not_lt_zero
abbrev Ej:=@List.filterMap_cons
abbrev Ek:=@List.getElem?_range
abbrev El:=@Array.getElem?_eq_none
abbrev Em:=@Nat.mod_self
abbrev Ep:=@Nat.min_eq_right
abbrev Er:=@Array.getElem?_eq_some_iff
abbrev Es:=@List.exists_mem_of_ne_nil
abbrev Eu:=@List.length_nil
abbrev Ex:=@Nat.min_eq_left
abbrev Ey:=@Nat.le_of_succ_le
abbrev Ez:=@Option.isSome_iff_exists
abbrev Fa:=@List.mem_of_mem_eraseIdx
abbrev Fb:=@List.getElem?_replicate
abbrev Fc:=@List.any_eq_true
abbrev Fd:=@Nat.lt_succ_self
abbrev Fe:=@Nat.zero_add
abbrev Ff:=@List.getElem_range
abbrev Fg:=@List.drop_of_length_le
abbrev Fh:=@List.append_eq_nil_iff
abbrev Fi:=@List.find?_cons
abbrev Fj:=@List.any_cons
abbrev Fk:=@List.length_replicate
abbrev Fm:=@List.count_append
abbrev Fn:=@List.mem_zipIdx_iff_le_and_getElem?_sub
abbrev Fo:=@Array.getElem?_setIfInBounds_self_of_lt
abbrev Fp:=@List.getD_eq_getElem?_getD
abbrev Fq:=@List.mem_erase_of_ne
abbrev Fr:=@Nat.one_pos
abbrev Fs:=@List.getElem?_modify
abbrev Ft:=@List.cons_append
abbrev Fu:=@List.mem_flatten
abbrev Fv:=@List.flatten_append
abbrev Fw:=@List.length_erase_of_mem
abbrev Fx:=@List.mem_filterMap
abbrev Fy:=@List.find?_eq_none
abbrev Fz:=@List.append_of_mem
abbrev Ga:=@Nat.lt_of_le_of_ne
abbrev Gb:=@List.getElem?_cons_succ
abbrev Gc:=@List.getElem?_set_self
abbrev Gd:=@Nat.succ_pos
abbrev Ge:=@List.getElem?_eraseIdx
abbrev Gf:=@Bool.false_xor
abbrev Gg:=@List.lt_irrefl
abbrev Gh:=@Bool.xor_false
abbrev Gi:=@Nat.zero_lt_of_lt
abbrev Gj:=@List.getElem_inj
abbrev Gk:=@List.isEmpty_nil
abbrev Gm:=@List.lt_trans
abbrev Gn:=@List.sum_cons
abbrev Go:=@List.getElem?_set_ne
abbrev Gp:=@PySem.Heap.get?_push_cases
abbrev Gq:=@List.le_iff_lt_or_eq
abbrev Gr:=@Option.map_some
abbrev Gs:=@List.forIn_cons
abbrev Gu:=@List.find?_some
abbrev Gv:=@List.nil_append
abbrev Gw:=@Nat.mod_lt
abbrev Gx:=@Bool.not_false
abbrev Gy:=@List.all_cons
abbrev Gz:=@Bool.true_and
abbrev Hc:=@List.map_take
abbrev He:=@List.map_drop
namespace L2
open PySem PySem.Spec PyProof.Rows
abbrev Key:=Sum Int Str
def su:Key->Value->Bool
 |.inl k,v=>Value.isInt k v
 |.inr x,v=>Value.isStrOf x v
def DL(w:World):Key->Int
 |.inl k=>hashInt k
 |.inr x=>hashStr w x
theorem lH:∀{k}{v},su k v=true->(∃i t,k=Sum.inl i/\v=Value.int i t)\/(∃x t,k=Sum.inr x/\v=Value.str x t)
 |.inl i,v,h=>by
  obtain⟨t,e⟩:=Value.isInt_shape h;exact .inl ⟨i,t,rfl,e⟩
 |.inr x,v,h=>by
  obtain⟨t,e⟩:=Value.isStrOf_shape h;exact .inr ⟨x,t,rfl,e⟩
def XS(i:Int)(t:Tok):su (.inl i) (.int i t)=true:=by simp[su,Value.isInt]
def XT(x:Str)(t:Tok):su (.inr x) (.str x t)=true:=by simp[su,Value.isStrOf]
def XU(a b:Int):decide ((Sum.inl a:Key)=Sum.inl b)=(a == b):=by
 by_cases e:a=b
 ·subst e;simp
 ·have h:¬(Sum.inl a:Key)=Sum.inl b:=λq=>e<|Sum.inl.inj q;rw[BR h];exact(beq_eq_false_iff_ne.mpr e).symm
def XW(a b:Str):decide ((Sum.inr a:Key)=Sum.inr b)=decide (a=b):=by
 by_cases e:a=b
 ·subst e;simp
 ·have h:¬(Sum.inr a:Key)=Sum.inr b:=λq=>e<|Sum.inr.inj q;rw[BR h,BR e]
def XX(a:Int)(b:Str):decide ((Sum.inl a:Key)=Sum.inr b)=false:=BR λq=>nomatch q
def XY(a:Str)(b:Int):decide ((Sum.inr a:Key)=Sum.inl b)=false:=BR λq=>nomatch q
def dM(U:Program)(w:World):PySem.KeyKind U w Key where
 is:=su
 hash:=DL w
 inj:=λv a b ha hb=>by
  obtain⟨i,t,rfl,rfl⟩|⟨x,t,rfl,rfl⟩:=lH ha
  ·obtain⟨j,u,rfl,e⟩|⟨y,u,rfl,e⟩:=lH hb
   ·injection e with e1 _;rw[e1]
   ·exact nomatch e
  ·obtain⟨j,u,rfl,e⟩|⟨y,u,rfl,e⟩:=lH hb
   ·exact nomatch e
   ·injection e with e1 _;rw[e1]
 byValue:=λk v h=>by
  obtain⟨i,t,rfl,rfl⟩|⟨x,t,rfl,rfl⟩:=lH h<;>rfl
 pyHash:=λhv h=>by
  obtain⟨i,t,rfl,rfl⟩|⟨x,t,rfl,rfl⟩:=lH hv
  ·exact wpAny_pyHash_int h
  ·exact wpAny_pyHash_str h
 eqBool:=λhu hv h=>by
  obtain⟨i,t,rfl,rfl⟩|⟨x,t,rfl,rfl⟩:=lH hu
  ·obtain⟨j,u,rfl,rfl⟩|⟨y,u,rfl,rfl⟩:=lH hv
   ·rw[XU]at h;exact wpAny_eqBool_int h
   ·rw[XX]at h;exact SeqAt.EqAt.int_str i t y u _ _ _ _ h
  ·obtain⟨j,u,rfl,rfl⟩|⟨y,u,rfl,rfl⟩:=lH hv
   ·rw[XY]at h;exact SeqAt.EqAt.str_int x t j u _ _ _ _ h
   ·rw[XW]at h;exact wpAny_eqBool_str h
 «strs»:=λk x t v h=>by
  obtain⟨i,u,rfl,e⟩|⟨y,u,rfl,e⟩:=lH h
  ·exact nomatch e
  ·injection e with e1 _
   subst e1;cases v<;>rfl
def XZ(U:Program)(w:World)(i:Int)(t:Tok):(dM U w).is (.inl i) (.int i t)=true:=XS i t
def X0(U:Program)(w:World)(x:Str)(t:Tok):(dM U w).is (.inr x) (.str x t)=true:=XT x t
inductive V where
 |non|bl (b:Bool)|int (i:Int)|str (x:Str)|jh (b:Array UInt8)|sv (b:UInt64)|ref (a:Addr)|ty (n:String)
 deriving DecidableEq
def fg:V->Value->Prop
 |.non,u=>u=Value.none
 |.bl b,u=>u=Value.bool b
 |.int i,u=>∃t,u=Value.int i t
 |.str x,u=>∃t,u=Value.str x t
 |.jh b,u=>∃t,u=Value.bytes b t
 |.sv b,u=>∃t,u=Value.float b t
 |.ref a,u=>u=Value.ref a
 |.ty n,u=>u=Value.type n
abbrev az:List V->Ó->Prop:=Paired fg
def az.length{xs:List V}{a:Ó}(r:az xs a):xs.length=a.length:=Paired.length r
theorem az.get:∀{xs:List V}{a:Ó}{i:Nat}{x:V},az xs a->xs[i]?=some x->∃u,a[i]?=some u/\fg x u
 |_,_,_,_,.nil,e=>by simp at e
 |_,_,0,_,.cons r _,e=>by simp at e;subst e;exact⟨_,rfl,r⟩
 |_,_,i+1,x,.cons _ t,e=>by
  obtain⟨u,b,c⟩:=az.get t (by simpa using e);exact⟨u,by simpa using b,c⟩
theorem az.set{x:V}{u:Value}(r:fg x u):∀{xs}{a}i,az xs a->az (xs.set i x) (a.set i u)
 |_,_,_,.nil=> .nil
 |_,_,0,.cons _ t=> .cons r t
 |_,_,i+1,.cons q t=> .cons q<|az.set r i t
theorem az.append:∀{xs ys}{a b},az xs a->az ys b->az (xs++ys) (a++b)
 |_,_,_,_,.nil,s=>s
 |_,_,_,_,.cons r t,s=> .cons r<|az.append t s
theorem az.take:∀{xs}{a}n,az xs a->az (xs.take n) (a.take n)
 |_,_,0,_=> .nil
 |_,_,_+1,.nil=> .nil
 |_,_,n+1,.cons r t=> .cons r<|az.take n t
theorem az.drop:∀{xs}{a}n,az xs a->az (xs.drop n) (a.drop n)
 |_,_,0,r=>r
 |_,_,_+1,.nil=> .nil
 |_,_,n+1,.cons _ t=>az.drop n t
def eI:Option V->Option Value->Prop
 |some v,some u=>fg v u
 |none,none=>True
 |_,_=>False
def KV{κ:Type}:List (κ×V)->List (κ×Value)->Prop:=Paired λp q=>p.1=q.1/\fg p.2 q.2
def kV:Key->V
 |.inl i=> .int i
 |.inr x=> .str x
inductive HO where
 |lst (xs:List V)
 |tup (xs:List V)
 |dK (Y:List<|Key×V)|dT (Y:List<|List Key×V)
 |set (S:Int->Bool) (n:Nat)
 |ins (C dx:Addr) (fs:List<|Str×V)
 |own (x:Addr)
 |xd (fs:List<|Str×V)
 |met (f x:Addr)
 |oj (lo hi:Int)
 |bB (o:Obj) (u:HO)
 |oq (ps:Array Value)
 |ext (φ:Heap->Prop)
abbrev Hp:=Addr->Option HO
def upd(H:Hp)(a:Addr)(o:HO):Hp:=λb=>if b=a then some o else H b
variable{a:Addr}{H:Hp}
def av{o:HO}:upd H a o a=some o:=by unfold upd;rw[BP rfl]
variable{b:Addr}
def au{o:HO}(h:b≠a):upd H a o b=H b:=by unfold upd;rw[BK h]
def pO{o u:HO}:upd (upd H a o) a u=upd H a u:=by
 funext b;unfold upd;split<;>rfl
def bV{o u:HO}(h:H a=some o)(h':H b=some u)(d:o≠u):a≠b:=by
 intro e;subst e;rw[h]at h';exact d<|Option.some.inj h'
def bh{o:HO}(h:H a=some o)(h':H b=none):a≠b:=by
 intro e;subst e;rw[h]at h';cases h'
section
variable(P:Program)(w:World)
def aB(H:Hp)(h:Heap)(a:Addr):HO->Prop
 |.lst b=>b.length<=sizeLine/\∃d n,az b d/\h.get? a=some {cls:= .type "list",data:= .seq d.toArray n}
 |.tup b=>b.length<=sizeLine/\∃d:Ó,az b d/\IsTup h a d.toArray
 |.dK Y=>Y.length<=sizeLine/\(a == sysModules)=false/\∃k,KV Y k/\h.DictOf (dM P w) a k
 |.dT Y=>Y.length<=sizeLine/\(a == sysModules)=false/\∃b:List<|List Key×Addr×Value,
   Paired (λp q=>p.1=q.1/\H q.2.1=some (.tup<|p.1.map kV)/\fg p.2 q.2.2) Y b /\
   ∃o l s,h.get? a=some o/\o.ExactDict/\o.data=.dict l s/\l.toList=b.map (entryOfKey<|tupleKind<|dM P w)/\(b.map (·.1)).Nodup
 |.set S n=>h.SetOf (intKind P w) a S n
 |.ins C i e=>H i=some (.own a)/\e.length<=1000/\i≠a/\h.get? a=some (PySem.W.instObj C i) /\
   ∃c,h.Ns1 i c/\(∀f,eI (e.lookup f)<|c f)/\PySem.Within c (e.map (·.1))
 |.own _=>∃o,h.get? a=some o
 |.xd e=>∃c,h.Ns1 a c/\∀f,eI (e.lookup f)<|c f
 |.oj lo y=>∃t u v,h.get? a=some {cls:= .type "range",data:= .fields #[.int lo t,.int y u,.int 1 v]}
 |.bB o u=>h.get? a=some o/\aB H h a u
 |.oq z=>h.get? a=some {cls:= .none,data:= .fields z}
 |.met f x=>h.get? a=some (PySem.W.methodObj (.ref f)<|.ref x)
 |.ext j=>j h/\(∃o,h.get? a=some o)/\∀m r:Heap,j m->(∀o,m.get? a=some o->r.get? a=some o)->j r
def cg(H:Hp)(h:Heap):Prop:=∀a o,H a=some o->aB P w H h a o
end
variable{h h':Heap}{H':Hp}{w:World}{P:Program}
section
variable{o:HO}
theorem aB.lt(x:aB P w H h a o):a<h.objs.size:=by
 cases o with
 |lst b=>obtain⟨_,_,_,_,e⟩:=x;exact Ap e
 |tup b=>obtain⟨_,_,_,p⟩:=x;exact p.lt
 |dK Y=>obtain⟨_,_,_,_,o,_,_,e,_⟩:=x;exact Ap e
 |dT Y=>obtain⟨_,_,_,_,o,_,_,e,_⟩:=x;exact Ap e
 |set S n=>obtain⟨o,_,_,_,e,_⟩:=x;exact Ap e
 |ins C d c=>obtain⟨_,_,_,e,_⟩:=x;exact Ap e
 |own y=>obtain⟨_,e⟩:=x;exact Ap e
 |xd c=>obtain⟨_,⟨_,_,_,e,_⟩,_⟩:=x;exact Ap e
 |oj lo i=>obtain⟨_,_,_,e⟩:=x;exact Ap e
 |bB j u=>obtain⟨e,_⟩:=x;exact Ap e
 |oq k=>exact Ap (show h.get? a=some _ from x)
 |met f y=>exact Ap (show h.get? a=some _ from x)
 |ext l=>obtain⟨_,⟨_,e⟩,_⟩:=x;exact Ap e
theorem Paired.pP{α c:Type}{F G:α->c->Prop}:∀{l₁}{l₂},Paired F l₁ l₂->(∀a b,F a b->G a b)->Paired G l₁ l₂
 |_,_,.nil,_=> .nil
 |_,_,.cons r t,f=> .cons (f _ _ r)<|Paired.pP t f
theorem aB.fK(x:aB P w H h a o)(k:∀b u,(b=a\/H b=some (.own a))->h.get? b=some u->h'.get? b=some u)
  (B:∀b,H b=some (.own a)->H' b=some (.own a)) (D:∀b xs,H b=some (.tup xs)->H' b=some (.tup xs)):aB P w H' h' a o:=by
 induction o with
 |lst xs=>obtain⟨z,m,n,r,e⟩:=x;exact⟨z,m,n,r,k _ _ (.inl rfl) e⟩
 |tup xs=>obtain⟨z,m,r,i,e,c⟩:=x;exact⟨z,m,r,i,k _ _ (.inl rfl) e,c⟩
 |dK Y=>obtain⟨z,y,E,r,i,j,l,e,c⟩:=x;exact⟨z,y,E,r,i,j,l,k _ _ (.inl rfl) e,c⟩
 |dT Y=>
  obtain⟨z,y,xs,r,i,j,l,e,c⟩:=x;exact⟨z,y,xs,Paired.pP r λp q z=>⟨z.1,D _ _ z.2.1,z.2.2⟩,i,j,l,k _ _ (.inl rfl) e,c⟩
 |set S n=>obtain⟨i,j,l,t,e,c⟩:=x;exact⟨i,j,l,t,k _ _ (.inl rfl) e,c⟩
 |ins C M G=>
  obtain⟨d,z,ne,e,s,⟨A,j,l,I,c⟩,r⟩:=x;exact⟨B _ d,z,ne,k _ _ (.inl rfl) e,s,⟨A,j,l,k _ _ (.inr d) I,c⟩,r⟩
 |own y=>obtain⟨i,e⟩:=x;exact⟨i,k _ _ (.inl rfl) e⟩
 |xd G=>obtain⟨s,⟨A,j,l,e,c⟩,r⟩:=x;exact⟨s,⟨A,j,l,k _ _ (.inl rfl) e,c⟩,r⟩
 |oj lo N=>obtain⟨t,u,v,e⟩:=x;exact⟨t,u,v,k _ _ (.inl rfl) e⟩
 |bB i u J=>obtain⟨e,q⟩:=x;exact⟨k _ _ (.inl rfl) e,J q⟩
 |oq L=>
  have e:=x;show h'.get? a=some {cls:= .none,data:= .fields L};exact k a _ (.inl rfl) e
 |met f y=>
  have e:=x;show h'.get? a=some (PySem.W.methodObj (.ref f)<|.ref y);exact k a _ (.inl rfl) e
 |ext O=>obtain⟨p,⟨o,e⟩,st⟩:=x;exact⟨st _ _ p λo q=>k _ _ (.inl rfl) q,⟨o,k _ _ (.inl rfl) e⟩,st⟩
def cg.lt(x:cg P w H h)(e:H a=some o):a<h.objs.size:=(x a o e).lt
theorem cg.fresh(x:cg P w H h)(e:h.objs.size<=a):H a=none:=by
 cases q:H a with
 |none=>rfl
 |some u=>exact absurd (Bf (x.lt q) e)<|Cq _
def cg.kept(x:cg P w H h)(k:∀b u,h.get? b=some u->h'.get? b=some u):cg P w H h':=λa o e=>
 (x a o e).fK (λb u _ q=>k b u q) (λ_ q=>q) λ_ _ q=>q
def cg.laid(x:cg P w H h)(k:∀b u,h.get? b=some u->h'.get? b=some u)(i:h.objs.size<=a)(new:aB P w (upd H a o) h' a o):cg P w (upd H a o) h':=λb u e=>by
 have d:=x.fresh i
 by_cases f:b=a
 ·subst f;rw[av]at e;cases e;exact new
 ·rw[au f]at e;exact(x b u e).fK (λc v _ q=>k c v q) (λc q=>by rwa[au<|bh q d]) λc j q=>by rwa[au<|bh q d]
end
def Rd(H:Hp)(a:Addr)(u:HO):Prop:=H a=some u\/∃o,H a=some (.bB o u)
def Rd.ok{u:HO}(r:Rd H a u)(x:cg P w H h):aB P w H h a u:=by
 obtain r|⟨o,r⟩:=r
 ·exact x a u r
 ·obtain⟨_,q⟩:=x a _ r;exact q
def uA:Option HO->Prop
 |some (.lst _)=>True
 |some (.dK _)=>True
 |some (.dT _)=>True
 |some (.set _ _)=>True
 |some (.ins _ _ _)=>True
 |some (.ext _)=>True
 |_=>False
section
variable{x e:Addr}{o':HO}
def cg.write(ok:cg P w H h)(j:uA<|H x)(l:e=x\/H e=some (.own x))(k:∀b u,b≠e->h.get? b=some u->h'.get? b=some u)(sw:∃u,h'.get? e=some u)
  (new:aB P w (upd H x o') h' x o'):cg P w (upd H x o') h':=λb u q=>by
 have m:∀c y,H c=some (.own y)->c≠x:=λc y r z=>by subst z;rwa[r]at j
 have o:∀c a,H c=some (.tup a)->c≠x:=λc a r z=>by subst z;rwa[r]at j
 by_cases d:b=x
 ·subst d;rw[av]at q;cases q;exact new
 ·rw[au d]at q
  by_cases f:b=e
  ·have n:H b=some (.own x):=by
    obtain z|z:=l
    ·exact absurd (f.trans z) d
    ·rwa[f]
   rw[q]at n;cases n;obtain⟨v,p⟩:=sw;exact⟨v,by rwa[f]⟩
  ·refine(ok b u q).fK (λc v i r=>k c v ?_ r) (λc r=>by rwa[au<|m c b r]) λc a r=>by rwa[au<|o c a r]
   obtain rfl|i:=i
   ·exact f
   ·rintro rfl
    obtain z|z:=l
    ·exact m c b i z
    ·rw[i]at z;cases z;exact d rfl
end
structure Un(fs ex:List Addr)(H H':Hp)(h h':Heap):Prop where
 keep:∀b o,h.get? b=some o->H b=none->b∉fs->b∉ex->h'.get? b=some o
 slot:∀b o,h.get? b=some o->H b=none->b∈fs->b∉ex->∃sl,h'.get? b=some {o with slots:=sl}
 free:∀b o,h.get? b=some o->H b=none->b∉ex->H' b=none
 there:∀b o,h.get? b=some o->b∉ex->∃o',h'.get? b=some o'
 eJ:∀b xs,H b=some (.tup xs)->H' b=some (.tup xs)
 dN:∀b o u,H b=some (.bB o u)->H' b=some (.bB o u)
 eN:∀b ps,H b=some (.oq ps)->∃more,H' b=some (.oq<|ps++more)
section
variable{fs X1 ex O6:List Addr}{H1 H2:Hp}{h1 h2:Heap}{x e:Addr}{o:HO}
def Un.any(u:Un fs ex H H1 h h1){a:Obj}(q:h.get? b=some a)(n:H b=none)(c:b∉ex):∃e,h1.get? b=some {a with slots:=e}:=by
 by_cases d:b∈fs
 ·exact u.slot b a q n d c
 ·exact⟨a.slots,u.keep b a q n d c⟩
def Un.kept(k:∀b u,h.get? b=some u->h'.get? b=some u):Un fs ex H H h h':=
 ⟨λb a q _ _ _=>k b a q,λb a q _ _ _=>⟨a.slots,k b a q⟩,λ_ _ _ n _=>n,λb a q _=>⟨a,k b a q⟩,λ_ _ q=>q,λ_ _ _ q=>q,λ_ c q=>⟨#[],by rw[q];simp⟩⟩
def Un.refl:Un fs ex H H h h:=Un.kept λ_ _ q=>q
def Un.laid(k:∀b u,h.get? b=some u->h'.get? b=some u)(hp:h.objs.size<=a)(hn:H a=none):Un fs ex H (upd H a o) h h' where
 keep:=λb u q _ _ _=>k b u q
 slot:=λb u q _ _ _=>⟨u.slots,k b u q⟩
 free:=λb u q n _=>by rwa[au<|Bi<|Bf (Ap q) hp]
 there:=λb u q _=>⟨u,k b u q⟩
 eJ:=λb xs q=>by rwa[au<|bh q hn]
 dN:=λb u xs q=>by rwa[au<|bh q hn]
 eN:=λb ps q=>⟨#[],by rw[au<|bh q hn,q];simp⟩
def Un.write(a:uA<|H x)(j:e=x\/H e=some (.own x))(k:∀b u,b≠e->h.get? b=some u->h'.get? b=some u)(sw:∃u,h'.get? e=some u):Un fs ex H (upd H x o) h h':=by
 have d:∀b,H b=none->b≠x:=λb n z=>by subst z;rwa[n]at a
 have f:∀b,H b=none->b≠e:=λb n z=>by
  subst z
  obtain r|r:=j
  ·exact d b n r
  ·rw[n]at r;cases r
 have c:∀b u,H b=some u->¬ uA (some u)->b≠x:=λb u q nm z=>by subst z;rw[q]at a;exact nm a
 refine⟨λb u q n _ _=>k b u (f b n) q,λb u q n _ _=>⟨u.slots,k b u (f b n) q⟩,λb u q n _=>by rwa[au<|d b n],λb u q _=>?_,
  λb l q=>by rwa[au<|c b _ q λz=>z],λb u l q=>by rwa[au<|c b _ q λz=>z],λb m q=>⟨#[],by rw[au<|c b _ q λz=>z,q];simp⟩⟩
 by_cases i:b=e
 ·subst i;exact sw
 ·exact⟨u,k b u i q⟩
end
def yF(h:Heap)(H:Hp):List Addr:=(range h.objs.size).filter λa=>(H a).isSome
def fM(h:Heap)(H:Hp):Heap:=PySem.W.hideAll h<|yF h H
def X2(h:Heap)(H:Hp):(fM h H).objs.size=h.objs.size:=PySem.W.hideAll_size _ _
variable{o:Obj}
def X3(e:h.get? b=some o)(n:H b=none):(fM h H).get? b=some o:=
 PySem.W.hideAll_get _ e λa=>by
  have q:=(Bg.mp a).2;rw[n]at q;simp at q
theorem X4(e:(fM h H).get? b=some o):h.get? b=some o/\H b=none:=by
 have a:=PySem.W.of_hideAll (yF h H) e;refine⟨a,?_⟩;cases q:H b with
 |none=>rfl
 |some x=>
  have c:b∈yF h H:=Bg.mpr ⟨Bc.mpr<|Ap a,by simp[q]⟩;have z:(fM h H).get? b=none:=PySem.W.hideAll_none (yF h H) c;rw[z]at e;cases e
structure xz(K:aa)(mg:Ò)(Z:Heap):Prop where
 sy:K.In Z
 glob:Z.Ns mainGlobals mg
 blt:∃mb,Z.Ns builtinsNs mb/\∀x:Str,x ≠ "__name__"->mb x=bootBuiltins x
 nolimit:Z.NoLimit
structure Cx where
 U:Program
 w:World
 K:aa
 mg:Ò
 Z:Heap
 A:Around
 N:Ñ
 æ:Shared
 ç:Hp
 env:Env
 outer:List Env
 stack:List Env
 ex:List Addr
 fn:Str->Bool
 calm:Bool
 pn:List<|Addr×Obj
 xe:Î
abbrev ar{α}(X:Cx):=wpAny (α:=α) (model X.U X.w) X.A
def dF(l:List Env):List Addr:=l.filterMap (·.frame)
abbrev Cx.fs(X:Cx):List Addr:=dF X.outer
def DS(a:Scope)(x:Str):Prop:=a.names.lookup x=some .local\/a.names.lookup x=some .cell\/a.names.lookup x=some .free
def xp(a:Scope)(x:Str):Prop:=a.names.lookup x=some .local\/a.names.lookup x=some .cell
def zw(env:Env)(h:Heap)(m:Ò)(x:Str)(u:Value):Prop:=
 (env.kindOf x=some .local/\m x=some u)\/((env.kindOf x=some .cell\/env.kindOf x=some .free)/\∃c,env.cells.lookup x=some c/\h.IsCell c (some u))
structure Cx.Ok(X:Cx):Prop where
 mod:xz X.K X.mg X.Z
 kind:X.env.scope.kind=.function
 glob:X.env.globals=mainGlobals
 blt:X.env.builtins=builtinsNs
 above:X.æ.heap.objs.size<=X.env.locals
 inj:∀x y c,X.env.cells.lookup x=some c->X.env.cells.lookup y=some c->x=y
 has:∀x,(X.env.kindOf x=some .cell\/X.env.kindOf x=some .free)->∃c,X.env.cells.lookup x=some c
 mw:∀x c,X.fn x=true->X.env.cells.lookup x=some c->X.æ.heap.objs.size<=c
 hd:X.calm=true->X.A.handled=none
 frames:X.A.frames=some X.stack
 lI:X.stack=X.outer\/(X.stack=X.env :: X.outer/\X.env.frame=some X.env.locals)
 sG:∀b∈X.ex,b≠X.env.locals/\∀x c,X.env.cells.lookup x=some c->c≠b
 bs:∀b o,X.Z.get? b=some o->X.æ.heap.get? b=some o/\X.ç b=none
 jH:X.Z.objs.size<=X.æ.heap.objs.size
 fN:∀b o,X.Z.get? b=some o->b∉X.ex
 gE:∀b∈X.ex,b∉X.fs
 cF:X.æ.heap.FunFrames X.Z X.outer
 lJ:∀b∈X.fs,X.ç b=none
structure be(X:Cx)(O:Ð)(σ:List<|Option V)(H:Hp)(s:Shared):Prop where
 ok:X.Ok
 os:s.os=X.æ.os
 bare:AllBare s.gens
 Z:Un X.fs X.ex X.ç H X.æ.heap s.heap
 loc:∃m,s.heap.Ns X.env.locals m/\∀(i:Nat)(x:Str)(v:V),X.N[i]?=some x->σ[i]?=some (some v)->DS X.env.scope x->∃u,fg v u/\zw X.env s.heap m x u
 cell:∀x c,X.env.cells.lookup x=some c->∃v,s.heap.IsCell c v
 free:H X.env.locals=none
 bC:∀x c,X.env.cells.lookup x=some c->H c=none
 pin:∀p∈X.pn++O,s.heap.get? p.1=some p.2/\H p.1=none/\p.1≠X.env.locals/\p.1∉X.fs/\∀v,p.2.data ≠ .cell v
 aF:cg X.U X.w H s.heap
 len:σ.length=X.N.length
variable{s s':Shared}{O ou:Ð}{X:Cx}{ch:List Addr}{d':Drawn}{t' i:Nat}{g':Array GenState}{x:Str}{N:Ñ}{u:Value}{v:V}{E:Î}{A:Around}{M:Model}
section
variable{σ:List (Option V)}
def Cx.Ok.DT(ok:X.Ok)(e:X.Z.get? b=some o):b∉X.fs:=λa=>by
 have:=(ok.cF.mem a).1;rw[e]at this;cases this
def be.bs(I:be X O σ H s):∀b o,X.Z.get? b=some o->s.heap.get? b=some o/\H b=none:=λb o e=>
 ⟨I.Z.keep b o (I.ok.bs b o e).1 (I.ok.bs b o e).2 (I.ok.DT e)<|I.ok.fN b o e,I.Z.free b o (I.ok.bs b o e).1 (I.ok.bs b o e).2<|I.ok.fN b o e⟩
def be.bk(I:be X O σ H s):∀b o,X.Z.get? b=some o->s.heap.get? b=some o:=λb o e=>(I.bs b o e).1
def be.mod(I:be X O σ H s):xz X.K X.mg X.Z:=I.ok.mod
def be.fh(I:be X O σ H s):X.K.In s.heap:=I.ok.mod.sy.keeps I.bk
def be.lt(I:be X O σ H s):X.env.locals<s.heap.objs.size:=let ⟨_,a,_⟩:=I.loc;a.lt
def be.sz(I:be X O σ H s):X.æ.heap.objs.size<=s.heap.objs.size:=By I.ok.above<|Bz I.lt
def be.DU(I:be X O σ H s)(h:s.heap.objs.size<=a):a∉X.fs:=λb=>by
 obtain⟨_,o,c,_⟩:=I.ok.cF.mem b;exact absurd (Bf (Ap c)<|By I.sz h)<|Cq _
def be.j4(I:be X O σ H s):∀x c,X.env.cells.lookup x=some c->c≠X.env.locals:=λx c e z=>by
 obtain⟨v,o,a,hd⟩:=I.cell x c e;obtain⟨m,⟨f,h,i,b,d,_⟩,_⟩:=I.loc;rw[z,b]at a;cases a;rw[d]at hd;cases hd
def be.cF(I:be X O σ H s):s.heap.FunFrames X.Z X.outer:=by
 have all:∀l,(∀b∈dF l,b∈X.fs)->X.æ.heap.FunFrames X.Z l->s.heap.FunFrames X.Z l:=by
  intro l
  induction l with
  |nil=>intro _ _;trivial
  |cons h r i=>
   intro f j;obtain⟨k,⟨L,o,a,m,n,hd⟩,p⟩:=j;have c:=f L (by unfold dF;rw[Ej,a];exact Ag);obtain⟨q,e⟩:=I.Z.slot L o n (I.ok.lJ L c) c λz=>I.ok.gE L z c;exact⟨k,⟨L,_,a,m,e,hd⟩,i (λb d=>f b<|by unfold dF;rw[Ej,a];exact Ak _ d) p⟩
 exact all X.outer (λ_ d=>d) I.ok.cF
def be.stack(I:be X O σ H s):s.heap.FunFrames X.Z X.stack:=by
 obtain e|⟨e,a⟩:=I.ok.lI
 ·rw[e];exact I.cF
 ·rw[e];obtain⟨m,b,_⟩:=I.loc;refine .cons (by rw[I.ok.kind];decide) a b ?_ I.cF;exact Heap.get?_none_of_le<|By I.ok.jH I.ok.above
def be.dw(I:be X O σ H s):∀b∈dF X.stack,b∈X.env.locals :: X.fs:=λb a=>by
 obtain e|⟨e,c⟩:=I.ok.lI
 ·rw[e]at a;exact Ak _ a
 ·rw[e]at a;unfold dF at a;rwa[Ej,c]at a
def be.d8(I:be X O σ H s):∀b∈dF X.stack,H b=none:=λb a=>by
 obtain e|a:=Al.mp (I.dw b a)
 ·rw[e];exact I.free
 ·obtain⟨_,o,c,_⟩:=I.ok.cF.mem a;exact I.Z.free b o c (I.ok.lJ b a) λz=>I.ok.gE b z a
def be.step(I:be X O σ H s)
  (w:∀b∈ch,(b∈X.ex\/X.æ.heap.objs.size<=b)/\b≠X.env.locals/\(∀x c,X.env.cells.lookup x=some c->c≠b)/\∀p∈X.pn++O,p.1≠b)
  (keep:∀b o,b≠X.env.locals->b∉X.fs->b∉ch->s.heap.get? b=some o->H b=none->h'.get? b=some o)
  (slot:∀b o,b≠X.env.locals->b∈X.fs->b∉ch->s.heap.get? b=some o->H b=none->∃D,h'.get? b=some {o with slots:=D}) (free:∀b o,b∉ch->s.heap.get? b=some o->H b=none->H' b=none)
  (there:∀b o,b∉ch->s.heap.get? b=some o->∃y,h'.get? b=some y)
  (eJ:∀b xs,H b=some (.tup xs)->H' b=some (.tup xs)) (dN:∀b o u,H b=some (.bB o u)->H' b=some (.bB o u)) (eN:∀b ps,H b=some (.oq ps)->∃more,H' b=some (.oq<|ps++more))
  (ns:∀m,s.heap.Ns X.env.locals m->h'.Ns X.env.locals m) (M:cg X.U X.w H' h') (N:AllBare g'):
  be X O σ H' {s with heap:=h',gens:=g',drawn:=d',toks:=t'}:=by
 have E:∀b o,X.æ.heap.get? b=some o->b≠X.env.locals:=λb o e=>Bi<|Bf (Ap e) I.ok.above;have C:∀b o,X.æ.heap.get? b=some o->b∉X.ex->b∉ch:=λb o e a j=>by
  obtain z|z:=(w b j).1
  ·exact a z
  ·exact absurd (Bf (Ap e) z)<|Cq _
 have f:∀x c,X.env.cells.lookup x=some c->∀v,s.heap.IsCell c v->h'.IsCell c v:=λx c e v⟨o,t,hd⟩=>by
  have A:=λz=>(w c z).2.2.1 x c e rfl
  by_cases G:c∈X.fs
  ·obtain⟨D,q⟩:=slot c o (I.j4 x c e) G A t<|I.bC x c e;exact⟨_,q,hd⟩
  ·exact⟨o,keep c o (I.j4 x c e) G A t<|I.bC x c e,hd⟩
 refine⟨I.ok,I.os,N,⟨λb o e n j a=>?_,λb o e n j a=>?_,λb o e n a=>?_,λb o e a=>?_,λb xs e=>eJ b xs<|I.Z.eJ b xs e,λb o xs e=>dN b o xs<|I.Z.dN b o xs e,λb ps e=>?_⟩,?_,λx c e=>?_,?_,λx c e=>?_,λp J=>?_,M,I.len⟩
 ·exact keep b o (E b o e) j (C b o e a) (I.Z.keep b o e n j a)<|I.Z.free b o e n a
 ·obtain⟨D,h⟩:=I.Z.slot b o e n j a;obtain⟨Q,B⟩:=slot b _ (E b o e) j (C b o e a) h<|I.Z.free b o e n a;exact⟨Q,B⟩
 ·obtain⟨y,h⟩:=I.Z.there b o e a;exact free b y (C b o e a) h<|I.Z.free b o e n a
 ·obtain⟨y,h⟩:=I.Z.there b o e a;exact there b y (C b o e a) h
 ·obtain⟨T,h⟩:=I.Z.eN b ps e;obtain⟨U,B⟩:=eN b _ h;exact⟨T++U,by rw[B,Array.append_assoc]⟩
 ·obtain⟨m,Y,hl⟩:=I.loc;refine⟨m,ns m Y,λi x v h B e3=>?_⟩;obtain⟨u,r,l⟩:=hl i x v h B e3;refine⟨u,r,?_⟩
  obtain l|⟨k,c,e,z⟩:=l
  ·exact .inl l
  ·exact .inr ⟨k,c,e,f x c e _ z⟩
 ·obtain⟨v,z⟩:=I.cell x c e;exact⟨v,f x c e v z⟩
 ·obtain⟨m,⟨o,_,_,t,_⟩,_⟩:=I.loc;exact free _ o (λz=>(w _ z).2.1 rfl) t I.free
 ·obtain⟨v,o,t,hd⟩:=I.cell x c e;exact free c o (λz=>(w c z).2.2.1 x c e rfl) t<|I.bC x c e
 ·obtain⟨e,n,ne,L,d⟩:=I.pin p J;have A:=λz=>(w p.1 z).2.2.2 p J rfl;exact⟨keep p.1 p.2 ne L A e n,free p.1 p.2 A e n,ne,L,d⟩
def be.un(I:be X O σ H s)(u:Un X.fs [] H H' s.heap h')(f:cg X.U X.w H' h'):be X O σ H' {s with heap:=h',toks:=t'}:=by
 obtain⟨m,⟨o,p,q,c,r⟩,_⟩:=id I.loc;obtain⟨t,h⟩:=u.any c I.free (by simp);exact I.step (ch:=[]) (λ_ z=>nomatch z) (λb o _ a _ e n=>u.keep b o e n a<|by simp) (λb o _ a _ e n=>u.slot b o e n a<|by simp) (λb o _ e n=>u.free b o e n<|by simp) (λb o _ e=>u.there b o e<|by simp) u.eJ u.dN u.eN (λv i=>by
  obtain⟨w,j,k,d,l⟩:=i;rw[c]at d;cases d;exact⟨_,j,k,h,l⟩) f I.bare
def be.call(I:be X O σ H s)(u:Un (dF X.stack) ch H H' s.heap h')(j:cg X.U X.w H' h')(k:AllBare g')
  (f:∀b∈ch,(b∈X.ex\/X.æ.heap.objs.size<=b)/\b≠X.env.locals/\(∀x c,X.env.cells.lookup x=some c->c≠b)/\∀p∈X.pn++O,p.1≠b):
  be X O σ H' {s with heap:=h',gens:=g',drawn:=d',toks:=t'}:=by
 obtain⟨m,⟨o,y,A,h,r⟩,_⟩:=id I.loc;obtain⟨B,d⟩:=u.any h I.free λz=>(f _ z).2.1 rfl;exact I.step f (λb o d l a e n=>u.keep b o e n (λz=>(Al.mp<|I.dw b z).elim d l) a) (λb o _ _ a e n=>u.any e n a) (λb o a e n=>u.free b o e n a) (λb o a e=>u.there b o e a) u.eJ u.dN u.eN (λC q=>by
  obtain⟨D,t,v,i,w⟩:=q;rw[h]at i;cases i;exact⟨_,t,v,d,w⟩) j k
def be.turned{it:Addr}(I:be X O σ H s)(k:∀b o,b≠it->s.heap.get? b=some o->h'.get? b=some o)(h:H it=none)(d:it≠X.env.locals)
  (i:it∈X.ex\/X.æ.heap.objs.size<=it) (j:∀x c,X.env.cells.lookup x=some c->c≠it) (l:∀p∈X.pn++O,p.1≠it):be X O σ H {s with heap:=h',toks:=t'}:=by
 have f:∀b u,H b=some u->b≠it:=λb u e z=>by rw[z,h]at e;cases e
 refine I.step (ch:=[it]) (λb t=>?_) (λb o _ _ a e _=>k b o (λz=>a<|by simp[z]) e) (λb o _ _ a e _=>⟨o.slots,k b o (λz=>a<|by simp[z]) e⟩) (λ_ _ _ _ n=>n)
  (λb o a e=>⟨o,k b o (λz=>a<|by simp[z]) e⟩) (λ_ _ e=>e) (λ_ _ _ e=>e) (λb C e=>⟨#[],by rw[e];simp⟩) (λm w=>?_) (λb u e=>?_) I.bare
 ·have e:b=it:=by simpa using t
  subst e;exact⟨i,d,j,l⟩
 ·obtain⟨o,y,A,B,r⟩:=w;exact⟨o,y,A,k _ o (CG d) B,r⟩
 ·refine(I.aF b u e).fK (λc v a q=>k c v ?_ q) (λ_ q=>q) λ_ _ q=>q
  obtain z|z:=a
  ·rw[z];exact f b u e
  ·exact f c _ z
def be.tok(I:be X O σ H s)(t:Nat):be X O σ H {s with toks:=t}:=I.un Un.refl I.aF
def be.kept{t':Nat}(I:be X O σ H s)(k:∀b u,s.heap.get? b=some u->h'.get? b=some u):be X O σ H {s with heap:=h',toks:=t'}:=I.un (Un.kept k)<|I.aF.kept k
def be.laid{a:Addr}{o:HO}{t':Nat}(I:be X O σ H s)(k:∀b u,s.heap.get? b=some u->h'.get? b=some u)(c:s.heap.objs.size<=a)(new:aB X.U X.w (upd H a o) h' a o):
  be X O σ (upd H a o) {s with heap:=h',toks:=t'}:=I.un (Un.laid k c<|I.aF.fresh c)<|I.aF.laid k c new
def be.write{x e:Addr}{o:HO}{t':Nat}(I:be X O σ H s)(a:uA<|H x)(c:e=x\/H e=some (.own x))(k:∀b u,b≠e->s.heap.get? b=some u->h'.get? b=some u)(sw:∃u,h'.get? e=some u)
  (new:aB X.U X.w (upd H x o) h' x o):be X O σ (upd H x o) {s with heap:=h',toks:=t'}:=I.un (Un.write a c k sw)<|I.aF.write a c k sw new
def be.iU(I:be X O σ H s)(h:∀p∈ou,s.heap.get? p.1=some p.2/\H p.1=none/\p.1≠X.env.locals/\p.1∉X.fs/\∀v,p.2.data ≠ .cell v):be X ou σ H s:=
 ⟨I.ok,I.os,I.bare,I.Z,I.loc,I.cell,I.free,I.bC,λp a=>(An.mp a).elim (λz=>I.pin p<|Az _ z)<|h p,I.aF,I.len⟩
def DV(c:N.Nodup){j:Nat}(a:N[i]?=some x)(b:N[j]?=some x):i=j:=by
 obtain⟨f,d⟩:=Ac.mp a;obtain⟨h,e⟩:=Ac.mp b;exact(Gj c).mp<|d.trans e.symm
def O8{Q:Unit->Shared->Prop}(I:be X O σ H s)(hN:X.N.Nodup)(N:X.N[i]?=some x)(B:xp X.env.scope x)(r:fg v u)
  (h:∀s',be X O (σ.set i<|some v) H s'->(∃a,Heap.SameBut a s.heap s'.heap/\(a=X.env.locals\/X.env.cells.lookup x=some a))->Q () s') (hf:X.fn x=true\/X.env.scope.names.lookup x=some .local:=by first|exact .inl rfl|exact .inr rfl|assumption):wpAny M A (storeName X.env x u) Q E s:=by
 obtain⟨m,Y,hl⟩:=id I.loc;have pR:(X.env.scope.kind == .class || (X.env.scope.kind == .module && X.env.locals != X.env.globals))=false:=by rw[I.ok.kind];rfl
 have D:i<σ.length:=by rw[I.len];exact(Ac.mp N).1
 have j4:=I.j4;have l:∀{a:Addr}{h':Heap},(∃o,s.heap.get? a=some o/\H a=none)->Heap.SameBut a s.heap h'->cg X.U X.w H h':=λ{a h'}ha f b ob e=>by
  obtain⟨_,_,oA⟩:=ha;refine(I.aF b ob e).fK (λc T w q=>(f.2 c ?_).trans q) (λ_ q=>q) λ_ _ q=>q;rintro rfl
  obtain rfl|w:=w
  ·rw[oA]at e;cases e
  ·rw[oA]at w;cases w
 obtain G|G:=B
 ·refine wpAny_storeName_local G Y (λh' oB f=>?_) pR;obtain⟨oL,_,_,jI,_⟩:=id Y;refine h _ ⟨I.ok,I.os,I.bare,⟨λb o e n J B=>?_,λb o e n J B=>?_,I.Z.free,λb o e B=>?_,I.Z.eJ,I.Z.dN,I.Z.eN⟩,⟨_,oB,λj y v' t C e3=>?_⟩,λy c e=>?_,I.free,I.bC,λp hp=>?_,l ⟨oL,jI,I.free⟩ f,by simpa using I.len⟩ ⟨_,f,.inl rfl⟩
  ·exact(f.2 b<|Bi<|Bf (Ap e) I.ok.above).trans<|I.Z.keep b o e n J B
  ·obtain⟨sl,t⟩:=I.Z.slot b o e n J B;exact⟨sl,(f.2 b<|Bi<|Bf (Ap e) I.ok.above).trans t⟩
  ·obtain⟨o',t⟩:=I.Z.there b o e B;exact⟨o',(f.2 b<|Bi<|Bf (Ap e) I.ok.above).trans t⟩
  ·by_cases L:j=i
   ·subst L;rw[N]at t;cases t;rw[Gc D]at C;cases C;exact⟨u,r,.inl ⟨G,by simp⟩⟩
   ·rw[Go<|CG L]at C;obtain⟨u',r',q⟩:=hl j y v' t C e3;refine⟨u',r',?_⟩
    obtain⟨k,e⟩|⟨k,c,e,z⟩:=q
    ·refine .inl ⟨k,?_⟩;have:y≠x:=λe=>L<|DV hN t<|e ▸ N;simp[this,e]
    ·exact .inr ⟨k,c,e,z.sameBut f<|j4 y c e⟩
  ·obtain⟨T,z⟩:=I.cell y c e;exact⟨T,z.sameBut f<|j4 y c e⟩
  ·obtain⟨e,n,ne,nf,d⟩:=I.pin p hp;exact⟨(f.2 p.1 ne).trans e,n,ne,nf,d⟩
 ·have uE:X.fn x=true:=by
   obtain z|z:=hf
   ·exact z
   ·rw[z]at G;cases G
  obtain⟨c,w⟩:=I.ok.has x<|.inl G;obtain⟨T,z⟩:=I.cell x c w;refine wpAny_storeName_cell I.ok.kind G w z λh' bu f=>?_;obtain⟨oc,O9,X5⟩:=id z;refine h {s with heap:=h'} ⟨I.ok,I.os,I.bare,⟨λb o e n J B=>?_,λb o e n J B=>?_,I.Z.free,λb o e B=>?_,I.Z.eJ,I.Z.dN,I.Z.eN⟩,⟨m,Y.sameBut f<|CG<|j4 x c w,λj y v' t C e3=>?_⟩,λy U e=>?_,I.free,I.bC,λp hp=>?_,l ⟨oc,O9,I.bC x c w⟩ f,by simpa using I.len⟩ ⟨c,f,.inr w⟩
  ·exact(f.2 b<|Bi<|Bf (Ap e)<|I.ok.mw x c uE w).trans<|I.Z.keep b o e n J B
  ·obtain⟨sl,t⟩:=I.Z.slot b o e n J B;exact⟨sl,(f.2 b<|Bi<|Bf (Ap e)<|I.ok.mw x c uE w).trans t⟩
  ·obtain⟨o',t⟩:=I.Z.there b o e B;exact⟨o',(f.2 b<|Bi<|Bf (Ap e)<|I.ok.mw x c uE w).trans t⟩
  ·by_cases L:j=i
   ·subst L;rw[N]at t;cases t;rw[Gc D]at C;cases C;exact⟨u,r,.inr ⟨.inl G,c,w,bu⟩⟩
   ·rw[Go<|CG L]at C;obtain⟨u',r',q⟩:=hl j y v' t C e3;refine⟨u',r',?_⟩
    obtain q|⟨k,U,e,z'⟩:=q
    ·exact .inl q
    ·refine .inr ⟨k,U,e,z'.sameBut f ?_⟩;rintro rfl;exact L<|DV hN t<|I.ok.inj _ _ _ e w ▸ N
  ·by_cases iV:U=c
   ·subst iV;exact⟨_,bu⟩
   ·obtain⟨w2,z2⟩:=I.cell y U e;exact⟨w2,z2.sameBut f iV⟩
  ·obtain⟨e,n,ne,nf,d⟩:=I.pin p hp;refine⟨(f.2 p.1 ?_).trans e,n,ne,nf,d⟩;intro q;rw[q,O9]at e;have q':=Option.some.inj e;exact d T<|by rwa[<-q']
def uF{Q:Unit->Shared->Prop}(I:be X O σ H s)(a:X.N.Nodup)(b:X.N[i]?=some x)(c:xp X.env.scope x)(r:fg v u)
  (h:∀s',be X O (σ.set i<|some v) H s'->Q () s') (d:X.fn x=true\/X.env.scope.names.lookup x=some .local:=by first|exact .inl rfl|exact .inr rfl|assumption):wpAny M A (storeName X.env x u) Q E s:=
 O8 I a b c r (λs' e _=>h s' e) d
def be.call'(I:be X O σ H s)(a:s'.os=s.os)(u:Un (dF X.stack) ch H H' s.heap s'.heap)(d:cg X.U X.w H' s'.heap)(f:AllBare s'.gens)
  (h:∀b∈ch,(b∈X.ex\/X.æ.heap.objs.size<=b)/\b≠X.env.locals/\(∀x c,X.env.cells.lookup x=some c->c≠b)/\∀p∈X.pn++O,p.1≠b):be X O σ H' s':=by
 obtain⟨h',g',d',t',i⟩:=s';have e:=a;subst e;exact I.call u d f h
end
abbrev XK:=Value->Option Addr->Hp->Prop
abbrev St:=List<|Option V
abbrev VK:=V->Hp->Prop
abbrev TE:=St->Hp->VK->Prop
abbrev TT:=St->Hp->(Bool->Hp->Prop)->Prop
abbrev TA:=St->Hp->(List V->Hp->Prop)->Prop
structure mi where
 nx:St->Hp->Prop
 rt:VK
 bk:St->Hp->Prop:=λ_ _=>False
 ct:St->Hp->Prop:=λ_ _=>False
abbrev TS:=mi->St->Hp->Prop
def EP(X:Cx)(O:Ð)(σ:St)(Q:VK)(u:Value)(s':Shared):Prop:=∃v H',be X O σ H' s'/\fg v u/\Q v H'
def TP(X:Cx)(O:Ð)(σ:St)(Q:Bool->Hp->Prop)(b:Bool)(s':Shared):Prop:=∃H',be X O σ H' s'/\Q b H'
def AP(X:Cx)(O:Ð)(σ:St)(Q:List V->Hp->Prop)(b:Ó)(s':Shared):Prop:=∃a H',be X O σ H' s'/\az a b/\Q a H'
def SP(X:Cx)(O:Ð)(D:mi)(f:Flow)(s':Shared):Prop:=
 match f with
 |.next=>∃a H',be X O a H' s'/\D.nx a H'
 |.brk=>∃a H',be X O a H' s'/\D.bk a H'
 |.cont=>∃a H',be X O a H' s'/\D.ct a H'
 |.ret u=>∃v a H',be X O a H' s'/\fg v u/\D.rt v H'
def PE(X:Cx)(e:Expr)(t:TE):Prop:=
 ∀O s a H Q,be X O a H s->t a H Q->ar X (eval e X.env) (EP X O a Q) X.xe s
def PT(X:Cx)(e:Expr)(t:TT):Prop:=
 ∀O s a H Q,be X O a H s->t a H Q->ar X (isTrue e X.env<|eval e X.env) (TP X O a Q) X.xe s
def PW(X:Cx)(e:Expr)(t:TT):Prop:=
 ∀whole O s a H Q,be X O a H s->t a H Q->ar X (isTrue e X.env whole) (TP X O a Q) X.xe s
def PA(X:Cx)(b:Ô)(t:TA):Prop:=
 ∀pos O s a H Q,be X O a H s->t a H Q->ar X (spliced<|backTo pos<|starEach b X.env) (AP X O a Q) X.xe s
def PS(X:Cx)(st:Stmt)(t:TS):Prop:=
 ∀O s a H D,be X O a H s->t D a H->ar X (exec st X.env) (SP X O D) X.xe s
def ji(X:Cx)(st:Õ)(t:TS):Prop:=
 ∀O s a H D,be X O a H s->t D a H->ar X (execs st X.env) (SP X O D) X.xe s
def aN{α:Type}{t:Sem α}{Q b:α->Shared->Prop}(h:wpAny M A t Q E s)(c:∀a s,Q a s->b a s):wpAny M A t b E s:=CT h c λ_ _ x=>x
variable{R:V->V->Hp->Prop}{σ:St}{ta:TE}{Q:Î}{op:CmpOp}{e c:Expr}
section
def Tb{a b:Expr}{i:TE}(j:PE X a ta)(k:PE X b i)(I:be X O σ H s)(h:ta σ H λx e=>i σ e λy c=>R x y c)
  {α:Type} {Q:α->Shared->Prop} {f:Value->Value->Sem α}
  (l:∀v u d x y c,be X O σ c d->fg x v->fg y u->R x y c->ar X (f v u) Q X.xe d):
  ar X (eval a X.env) (λv m=>ar X (eval b X.env) (λu n=>ar X (f v u) Q X.xe n) X.xe m) X.xe s:=by
 refine aN (j O s σ H _ I h) λv o⟨x,e,p,q,r⟩=>?_;refine aN (k O o σ e _ p r) λu d⟨y,c,t,w,z⟩=>?_;exact l v u d x y c t q w z
def DZ(i:Nat):TE:=λσ H Q=>∃v,σ[i]?=some (some v)/\Q v H
def tC(v:V):TE:=λ_ H Q=>Q v H
def X6{pos:Pos}(f:X.N[i]?=some x)(j:DS X.env.scope x)(hd:(x == ("__debug__" : Str))=false:=by decide)(k:(x == ("__classdict__" : Str))=false:=by decide):PE X (.Name x pos) (DZ i):=by
 intro O s σ H Q I h;obtain⟨v,e,h⟩:=h;obtain⟨m,n,o⟩:=I.loc;obtain⟨u,r,l⟩:=o i x v f e j;have fin:EP X O σ Q u s:=⟨v,H,I,r,h⟩
 obtain⟨a,p⟩|⟨a,c,b,d⟩:=l
 ·exact wpAny_Name (wpAny_loadName_local I.ok.kind a n p fin) hd
 ·obtain a|a:=a
  ·exact wpAny_Name (wpAny_loadName_cell I.ok.kind a b d fin) hd
  ·exact wpAny_Name (wpAny_loadName_free I.ok.kind a b d fin k) hd
def X7{i j pos}:PE X (.Constant (.int i) j pos) (tC<|.int i):=λ_ _ _ H _ I h=>wpAny_Constant_int ⟨.int i,H,I.tok _,⟨_,rfl⟩,h⟩
def X8{b j pos}:PE X (.Constant (.bool b) j pos) (tC<|.bl b):=λ_ _ _ H _ I h=>Constant_bool ⟨.bl b,H,I,rfl,h⟩
def X9{j pos}:PE X (.Constant .none j pos) (tC .non):=λ_ _ _ H _ I h=>Constant_none ⟨.non,H,I,rfl,h⟩
def Ya{x j pos}:PE X (.Constant (.str x) j pos) (tC<|.str x):=λ_ _ _ H _ I h=>Calls.Constant_str ⟨.str x,H,I.tok _,⟨_,rfl⟩,h⟩
def Gl(X:Cx)(x:Str):Prop:=X.env.kindOf x=some .globalImplicit
def uG{pos:Pos}(I:be X O σ H s)(a:Gl X x)(b:X.mg x=some u)(h:Q u s)
  (hd:(x == ("__debug__" : Str))=false:=by decide):ar X (eval (.Name x pos) X.env) Q E s:=
 Calls.Name_function_global I.ok.kind a (Calls.loadGlobal_global (by rw[I.ok.glob];exact I.mod.glob.keeps I.bk) b h) hd
def oD{pos:Pos}(I:be X O σ H s)(a:Gl X x)(b:X.mg x=none)(c:bootBuiltins x=some u)(h:Q u s)
  (d:x ≠ "__name__":=by decide) (hd:(x == ("__debug__" : Str))=false:=by decide):ar X (eval (.Name x pos) X.env) Q E s:=by
 obtain⟨i,e,f⟩:=I.mod.blt;exact Calls.Name_function_global I.ok.kind a (Calls.loadGlobal_builtin (by rw[I.ok.glob];exact I.mod.glob.keeps I.bk) b (by rw[I.ok.blt];exact e.keeps I.bk) ((f x d).trans c) h) hd
def Yb{pos:Pos}(a:Gl X x)(b:X.mg x=some u)(r:fg v u)(hd:(x == ("__debug__" : Str))=false:=by decide):PE X (.Name x pos) (tC v):=
 λ_ _ _ H _ I h=>uG I a b ⟨v,H,I,r,h⟩ hd
def Yc{pos:Pos}(a:Gl X x)(b:X.mg x=none)(c:bootBuiltins x=some u)(r:fg v u)(d:x ≠ "__name__":=by decide)(hd:(x == ("__debug__" : Str))=false:=by decide):PE X (.Name x pos) (tC v):=
 λ_ _ _ H _ I h=>oD I a b c ⟨v,H,I,r,h⟩ d hd
variable{a b:Expr}{tb:TE}{pos:Pos}
def PC(X:Cx)(op:CmpOp)(a b:Expr)(t:TE):Prop:=
 ∀O s σ H Q,be X O σ H s->t σ H Q ->
  ar X (eval a X.env) (λv c=>ar X (eval b X.env) (λu d=>ar X (compareOp op v u) (EP X O σ Q) X.xe d) X.xe c) X.xe s
def tB(t:TE):TT:=λσ H Q=>t σ H λx a=>∃c,x=.bl c/\Q c a
def O'{t:TE}(h:PC X op a b t)(e:behindInMarks op b=false:=by first|exact n _ (by decide) (by decide)|rfl):PT X (.Compare a [op] [b] pos) (tB t):=by
 intro O s σ H Q I f;refine wpAny_isTrue_Compare1 (aN (h O s σ H _ I f) λv o e=>aN e λu p i=>aN i λc r⟨x,j,k,l,m⟩=>?_) e;obtain⟨d,rfl,q⟩:=m;cases l;exact DY ⟨j,k,q⟩
def Yd{t:TE}(h:PE X e t)(a:∀whole,isTrue e X.env whole=(do let v <-whole;standAt e.pos;holding [v] (truthy v)):=by intro _;rfl):PT X e (tB t):=by
 intro O s σ H Q I b;refine isTrue_plain (aN (h O s σ H _ I b) λv k⟨x,c,f,i,j⟩=>?_)<|a _;obtain⟨d,rfl,q⟩:=j;cases i;exact DY ⟨c,f,q⟩
variable{tA yI:TT}{rest:Ô}
def D0(t u:TT):TT:=λσ H Q=>t σ H λc a=>if c=true then u σ a Q else Q false a
def Ye(t u:TT):TT:=λσ H Q=>t σ H λc a=>if c=true then Q true a else u σ a Q
def D1(t:TT):TT:=λσ H Q=>t σ H λc a=>Q (!c) a
theorem Yf(b:PT X a tA):PW X (.BoolOp .And [a] pos) tA:=by
 intro d O s σ H Q I h;refine isTrue_and<|aN (b O s σ H Q I h) λc f e=>?_;cases c with
 |true=>exact isTrue_and_nil e
 |false=>exact e
theorem Yg(b:PT X a tA):PW X (.BoolOp .Or [a] pos) tA:=by
 intro d O s σ H Q I h;refine isTrue_or<|aN (b O s σ H Q I h) λc f e=>?_;cases c with
 |false=>exact isTrue_or_nil e
 |true=>exact e
theorem Yh(i:PT X a tA)(j:PW X (.BoolOp .And (b :: rest) pos) yI):PW X (.BoolOp .And (a :: b :: rest) pos) (D0 tA yI):=by
 intro k O s σ H Q I h;refine isTrue_and<|aN (i O s σ H _ I h) λc l⟨d,e,f⟩=>?_;cases c with
 |true=>exact j k O l σ d Q e f
 |false=>exact⟨d,e,f⟩
theorem Yi(i:PT X a tA)(j:PW X (.BoolOp .Or (b :: rest) pos) yI):PW X (.BoolOp .Or (a :: b :: rest) pos) (Ye tA yI):=by
 intro k O s σ H Q I h;refine isTrue_or<|aN (i O s σ H _ I h) λc l⟨d,e,f⟩=>?_;cases c with
 |true=>exact⟨d,e,f⟩
 |false=>exact j k O l σ d Q e f
def Yj(b:PT X a tA):PT X (.UnaryOp .Not a pos) (D1 tA):=by
 intro O s σ H Q I h;exact isTrue_not<|b O s σ H (λc d=>Q (!c) d) I h
def Yk(ta tb:TE):TE:=λσ H Q=>ta σ H λx a=>∃c,x=.bl c/\if c=true then tb σ a Q else Q (.bl false) a
def D4(ta tb:TE):TE:=λσ H Q=>ta σ H λx a=>∃c,x=.bl c/\if c=true then Q (.bl true) a else tb σ a Q
def Yl(ta:TE):TE:=λσ H Q=>ta σ H λx a=>∃c,x=.bl c/\Q (.bl (!c)) a
def Ym{op}{t:TE}(h:PE X a t):PE X (.BoolOp op [a] pos) t:=λO s σ H Q I b=>BoolOp_one<|h O s σ H Q I b
theorem Yn(i:PE X a ta)(j:PE X (.BoolOp .And (b :: rest) pos) tb):PE X (.BoolOp .And (a :: b :: rest) pos) (Yk ta tb):=by
 intro O s σ H Q I h;refine BoolOp_and<|aN (i O s σ H _ I h) λv k⟨x,e,f,l,d⟩=>?_;obtain⟨c,rfl,d⟩:=d;cases l;refine DY ?_;cases c with
 |true=>exact j O k σ e Q f d
 |false=>exact⟨.bl false,e,f,rfl,d⟩
theorem Yo(i:PE X a ta)(j:PE X (.BoolOp .Or (b :: rest) pos) tb):PE X (.BoolOp .Or (a :: b :: rest) pos) (D4 ta tb):=by
 intro O s σ H Q I h;refine BoolOp_or<|aN (i O s σ H _ I h) λv k⟨x,e,f,l,d⟩=>?_;obtain⟨c,rfl,d⟩:=d;cases l;refine DY ?_;cases c with
 |false=>exact j O k σ e Q f d
 |true=>exact⟨.bl true,e,f,rfl,d⟩
def Yp(d:PE X a ta):PE X (.UnaryOp .Not a pos) (Yl ta):=by
 intro O s σ H Q I h;refine UnaryOp_<|aN (d O s σ H _ I h) λv j⟨x,e,f,i,b⟩=>?_;obtain⟨c,rfl,b⟩:=b;cases i;exact not_of<|DY ⟨.bl (!c),e,f,rfl,b⟩
def Yq(t:TT)(ta tb:TE):TE:=λσ H Q=>t σ H λc a=>if c=true then ta σ a Q else tb σ a Q
theorem Yr(k:PT X c tA)(l:PE X a ta)(m:PE X b tb):PE X (.IfExp c a b pos) (Yq tA ta tb):=by
 intro O s σ H Q I h;refine wpAny_IfExp<|aN (k O s σ H _ I h) λd e⟨f,i,j⟩=>?_;cases d with
 |true=>exact l O e σ f Q i j
 |false=>exact m O e σ f Q i j
end
def aj(K:aa)(H:Hp)(a:Addr)(xs:List V):Prop:=
 Rd H a (.lst xs) \/
  ∃o b n,K.lookup a=some o/\o.cls=.type "list"/\o.dict=none/\o.data=.seq b n/\b.size<=sizeLine/\az xs b.toList
def aS(K:aa)(H:Hp)(a:Addr)(xs:List V):Prop:=
 Rd H a (.tup xs) \/
  ∃o b n,K.lookup a=some o/\o.cls=.type "tuple"/\o.data=.seq b n/\b.size<=sizeLine/\az xs b.toList
def D5:Value->Option V
 |.none=>some .non
 |.bool b=>some<|.bl b
 |.int i _=>some<|.int i
 |.str x _=>some<|.str x
 |.bytes b _=>some<|.jh b
 |.float b _=>some<|.sv b
 |.ref a=>some<|.ref a
 |.type n=>some<|.ty n
 |_=>none
theorem fg.abs{x:V}(r:fg x u):D5 u=some x:=by
 cases x with
 |non=>cases r;rfl
 |bl _=>cases r;rfl
 |int _=>obtain⟨t,rfl⟩:=r;rfl
 |str _=>obtain⟨t,rfl⟩:=r;rfl
 |jh _=>obtain⟨t,rfl⟩:=r;rfl
 |sv _=>obtain⟨t,rfl⟩:=r;rfl
 |ref _=>cases r;rfl
 |ty _=>cases r;rfl
def fg.inj{x y:V}{u:Value}(r:fg x u)(q:fg y u):x=y:=Option.some.inj<|r.abs.symm.trans q.abs
theorem az.inj:∀{xs ys}{a},az xs a->az ys a->xs=ys
 |_,_,_,.nil,.nil=>rfl
 |_,_,_,.cons r t,.cons b t'=>by rw[r.inj b,az.inj t t']
variable{xs:List V}{K:aa}
section
variable{ys:List V}
def aj.of(h:H a=some (.lst xs)):aj K H a xs:= .inl<|.inl h
def aS.of(h:H a=some (.tup xs)):aS K H a xs:= .inl<|.inl h
theorem be.list(I:be X O σ H s)(h:aj X.K H a xs):∃b:Ó,az xs b/\PlainL s.heap a b.toArray/\xs.length<=sizeLine:=by
 obtain h|⟨o,b,n,c,d,hd,f,i,r⟩:=h
 ·obtain⟨z,b,n,r,e⟩:=h.ok I.aF;exact⟨b,r,⟨_,n,e,rfl,rfl,rfl⟩,z⟩
 ·refine⟨b.toList,r,⟨o,n,I.fh a o c,d,hd,by simpa using f⟩,?_⟩;have e:=r.length;simp only[Bv]at e;omega
theorem be.tuple(I:be X O σ H s)(h:aS X.K H a xs):∃b:Ó,az xs b/\IsTup s.heap a b.toArray/\xs.length<=sizeLine:=by
 obtain h|⟨o,b,n,c,d,f,i,r⟩:=h
 ·obtain⟨z,b,r,p⟩:=h.ok I.aF;exact⟨b,r,p,z⟩
 ·refine⟨b.toList,r,⟨o,I.fh a o c,d,n,by simpa using f⟩,?_⟩;have e:=r.length;simp only[Bv]at e;omega
def be.cZ(I:be X O σ H s)(h:aj X.K H a xs)(h':aj X.K H a ys):xs=ys:=by
 obtain⟨f,r,⟨o,n,e,_,_,d⟩,_⟩:=I.list h;obtain⟨b,i,⟨k,l,c,_,_,d'⟩,_⟩:=I.list h';rw[e]at c;cases c;rw[d]at d'
 injection d' with j _
 have:f=b:=by simpa using BZ Array.toList j
 subst this;exact r.inj i
def be.jj(I:be X O σ H s)(h:aS X.K H a xs)(h':aS X.K H a ys):xs=ys:=by
 obtain⟨f,r,⟨o,e,_,n,d⟩,_⟩:=I.tuple h;obtain⟨b,i,⟨k,c,_,l,d'⟩,_⟩:=I.tuple h';rw[e]at c;cases c;rw[d]at d'
 injection d' with j _
 have:f=b:=by simpa using BZ Array.toList j
 subst this;exact r.inj i
end
abbrev Cx.dP(X:Cx)(E:Î):Cx:={X with xe:=E}
abbrev Cx.my(X:Cx):Cx:=X.dP λ_ _=>False
def Cx.Ok.dP{X:Cx}(ok:X.Ok)(E:Î):(X.dP E).Ok:=
 ⟨ok.mod,ok.kind,ok.glob,ok.blt,ok.above,ok.inj,ok.has,ok.mw,ok.hd,ok.frames,ok.lI,ok.sG,ok.bs,ok.jH,ok.fN,ok.gE,ok.cF,ok.lJ⟩
def Cx.Ok.bN(ok:(X.dP E).Ok):X.Ok:=
 ⟨ok.mod,ok.kind,ok.glob,ok.blt,ok.above,ok.inj,ok.has,ok.mw,ok.hd,ok.frames,ok.lI,ok.sG,ok.bs,ok.jH,ok.fN,ok.gE,ok.cF,ok.lJ⟩
def be.dP(I:be X O σ H s)(E:Î):be (X.dP E) O σ H s:=⟨I.ok.dP E,I.os,I.bare,I.Z,I.loc,I.cell,I.free,I.bC,I.pin,I.aF,I.len⟩
def be.bN(I:be (X.dP E) O σ H s):be X O σ H s:=⟨I.ok.bN,I.os,I.bare,I.Z,I.loc,I.cell,I.free,I.bC,I.pin,I.aF,I.len⟩
theorem SP.bN{D:mi}{f:Flow}{s':Shared}(h:SP (X.dP E) O D f s'):SP X O D f s':=by
 cases f with
 |next=>obtain⟨a,H',I,q⟩:=h;exact⟨a,H',I.bN,q⟩
 |brk=>obtain⟨a,H',I,q⟩:=h;exact⟨a,H',I.bN,q⟩
 |cont=>obtain⟨a,H',I,q⟩:=h;exact⟨a,H',I.bN,q⟩
 |ret u=>obtain⟨v,a,H',I,r,q⟩:=h;exact⟨v,a,H',I.bN,r,q⟩
def ji.my{st:Õ}{t:TS}(h:ji X.my st t):ji X st t:=λO s σ H D I a=>
 CT (h O s σ H D (I.dP _) a) (λ_ _ q=>q.bN) λ_ _ z=>False.elim z
variable{te:TE}{tc:TT}
section
variable{st:Stmt}{rest:Õ}{t u:TS}{pos:Pos}
def Ys:TS:=λD σ H=>D.nx σ H
def D6(t u:TS):TS:=λD σ H=>t {D with nx:=u D} σ H
def Pa:ji X [] Ys:=λ_ _ σ H _ I h=>TY ⟨σ,H,I,h⟩
theorem Yu(b:PS X st t)(c:ji X rest u):ji X (st :: rest) (D6 t u):=by
 intro O s σ H D I h;refine wpAny_execs_cons<|aN (b O s σ H {D with nx:=u D} I h) λf d q=>?_;cases f with
 |next=>
  obtain⟨a,H',e,q⟩:=q;exact c O d a H' D e q
 |ret v=>exact q
 |brk=>exact q
 |cont=>exact q
def be.quiet(I:be X O σ H s):interactive X.env=false:=by simp[interactive,I.ok.kind]
def Yv(te:TE):TS:=λD σ H=>te σ H λ_ a=>D.nx σ a
def Yw(a:PE X e te)(b:swapsWith e none pos.line X.env=pure false:=by rfl):PS X (.Expr e pos) (Yv te):=by
 intro O s σ H D I h;exact wpAny_Expr_any (aN (a O s σ H _ I h) λv i⟨x,c,d,j,f⟩=>⟨σ,c,d,f⟩) I.quiet b
def D7(te:TE):TS:=λD σ H=>te σ H D.rt
def Yx(a:PE X e te):PS X (.Return (some e) pos) (D7 te):=by
 intro O s σ H D I h;exact wpAny_Return_some<|aN (a O s σ H _ I h) λv i⟨x,b,c,d,f⟩=>⟨x,σ,b,c,d,f⟩
def D8(c:TT)(t u:TS):TS:=λD σ H=>c σ H λb a=>if b=true then t D σ a else u D σ a
theorem Yy{a b:Õ}(k:PT X c tc)(l:ji X a t)(m:ji X b u):PS X (.If c a b pos) (D8 tc t u):=by
 intro O s σ H D I h;refine wpAny_If<|aN (k O s σ H _ I h) λd e⟨f,i,j⟩=>?_;cases d with
 |true=>exact l O e σ f D i j
 |false=>exact m O e σ f D i j
end
abbrev TG:=V->St->Hp->(St->Hp->Prop)->Prop
abbrev pS:=List V->St->Hp->(St->Hp->Prop)->Prop
def PG(X:Cx)(target:Expr)(t:TG):Prop:=
 ∀O s σ H v u Q,be X O σ H s->fg v u->t v σ H Q ->
  ar X (assign target X.env u) (λ_ s'=>∃a H',be X O a H' s'/\Q a H') X.xe s
def yJ(X:Cx)(d:Ô)(t:pS):Prop:=
 ∀O s σ H b c Q,be X O σ H s->az b c->t b σ H Q ->
  ar X (assignInOrder ((assignEach d X.env).map (·.2)) c) (λ_ s'=>∃a H',be X O a H' s'/\Q a H') X.xe s
variable{es:Ô}{n:Nat}{tg:Expr}{pos':Pos}{tb:TS}{body:Õ}
section
variable{pos:Pos}
def Pb(i:Nat):TG:=λv σ H Q=>Q (σ.set i<|some v) H
def Yz(a:X.N.Nodup)(b:X.N[i]?=some x)(c:xp X.env.scope x)(d:X.fn x=true\/X.env.scope.names.lookup x=some .local:=by first|exact .inl rfl|exact .inr rfl|assumption):PG X (.Name x pos) (Pb i):=by
 intro O s σ H v u Q I r h;exact wpAny_assign_Name<|uF I a b c r (λs' e=>⟨_,H,e,h⟩) d
def pT:pS:=λa σ H Q=>a=[]/\Q σ H
def sI(t:TG)(u:pS):pS:=λb σ H Q=>∃v r,b=v :: r/\t v σ H λa H'=>u r a H' Q
def Pg:yJ X [] pT:=by
 intro O s σ H a b Q I r h;obtain⟨e,h⟩:=h;subst e;cases r;exact assignInOrder_nil ⟨σ,H,I,h⟩
theorem uI{t:TG}{u:pS}(b:PG X e t)(c:yJ X es u)
  (d:(assignEach (e :: es) X.env).map (·.2)=assign e X.env :: (assignEach es X.env).map (·.2):=by rfl):yJ X (e :: es) (sI t u):=by
 intro O s σ H n o Q I r h;obtain⟨v,p,f,h⟩:=h;subst f;cases r with
 |cons r i=>
  rw[d];refine QW<|aN (b O s σ H _ _ _ I r h) λ_ j⟨a,k,l,m⟩=>?_;exact c O j a k _ _ Q l i m
def D9(K:aa)(n:Nat)(t:pS):TG:=λv σ H Q=>∃a xs,v=.ref a/\aS K H a xs/\xs.length=n/\t xs σ H Q
def Ph{k:Nat}{t:pS}(f:X.calm=true)(h:yJ X es t)
  (i:(assignEach es X.env).length=n:=by rfl) (j:(assignEach es X.env).findIdx? (·.1)=none:=by rfl):PG X (.Tuple es k pos) (D9 X.K n t):=by
 intro O s σ H v u Q I r c;obtain⟨a,xs,l,m,p,c⟩:=c;subst l;cases r;obtain⟨y,d,q,z⟩:=I.tuple m;refine assign_Tuple_tuple (I.ok.hd f) q (by simp[i,<-p,d.length]) j λh' w=>?_;have x:=I.kept (t':=s.toks) λb o e=>w b o (Bi<|Ap e) e;exact h O _ σ H xs _ Q x (by simpa using d) c
def uJ(te:TE)(g:TG):TS:=λD σ H=>te σ H λx a=>g x σ a D.nx
def YB{g:TG}(a:PE X e te)(b:PG X tg g)(c:swapsWithSole [tg] e pos.line X.env=pure false:=by rfl)(d:swappedStores [tg] e X.env=pure none:=by rfl)
  (f:(assignEach [tg] X.env).map (·.2)=[assign tg X.env]:=by rfl):PS X (.Assign [tg] e pos) (uJ te g):=by
 intro O s σ H D I h;refine wpAny_Assign_stores (aN (a O s σ H _ I h) λv i⟨x,j,k,l,m⟩=>?_) c d;rw[f];exact aN (b O i σ j x v _ k l m) λ_ n q=>q
def YC(a:X.N.Nodup)(b:X.N[i]?=some x)(c:xp X.env.scope x)(d:PE X e te)(f:swapsWith e (some<|.Name x pos') pos.line X.env=pure false:=by rfl)(j:X.fn x=true\/X.env.scope.names.lookup x=some .local:=by first|exact .inl rfl|exact .inr rfl|assumption):
  PS X (.Assign [.Name x pos'] e pos) (uJ te<|Pb i):=by
 intro O s σ H D I h;refine wpAny_Assign_Name (aN (d O s σ H _ I h) λv p⟨y,k,l,m,n⟩=>?_) f;exact uF l a b c m (λq o=>⟨_,k,o,n⟩) j
def EA(i j:Nat)(ta:TA):TS:=λD σ H=>ta σ H λa b=>∃v w,a=[v,w]/\D.nx ((σ.set i<|some v).set j<|some w) b
def YD{j:Nat}{y:Str}{a b:Expr}{ta:TA}{k py pt:Pos}{l k2 m}(B:X.calm=true)(r:X.N.Nodup)(C:X.N[i]?=some x)(E:X.N[j]?=some y)(G:i≠j)
  (t:X.env.scope.names.lookup x=some .local) (u:X.env.scope.names.lookup y=some .local) (J:PA X [a,b] ta)
  (L:swappedStores [.Tuple [.Name x k,.Name y py] l pt] (.Tuple [a,b] k2 m) X.env=pure (some [x,y]))
  (M:swapsWithSole [.Tuple [.Name x k,.Name y py] l pt] (.Tuple [a,b] k2 m) pos.line X.env=pure false:=by rfl):
  PS X (.Assign [.Tuple [.Name x k,.Name y py] l pt] (.Tuple [a,b] k2 m) pos) (EA i j ta):=by
 intro O s σ H D I h;rw[exec_Assign_arm];refine BJ<|FP ?_;rw[M];refine BJ<|BL ?_;rw[BK<|(by decide)];refine BJ<|Tuple_<|aN (J _ O s σ H _ I h) λN f⟨vs,z,Q,T,n⟩=>?_;obtain⟨v,w,U,n⟩:=n;subst U;obtain⟨c,d,rfl,Y,d9⟩:∃c d,N=[c,d]/\fg v c/\fg w d:=by
  cases T with
  |cons p q=>
   cases q with
   |cons p' q'=>
    cases q';exact⟨_,_,rfl,p,p'⟩
 refine CZ ?_ Z2;have I2:be X O σ z {f with heap:=f.heap.push {cls:= .type "tuple",data:= .seq [c,d].toArray}}:=Q.kept λb o e=>Ae _ e;rw[L];refine BJ<|BL ?_;show ar X (do rule "assign.swapped-stores";let items <-unpackItems (.ref f.heap.objs.size) 2 none;assignInOrder [λv=>bindName X.env y v,λv=>bindName X.env x v] items.reverse;pure Flow.next) _ _ _;refine BJ<|GX<|BJ<|unpackItems_tuple (items:=#[c,d]) (I.ok.hd B) (IsTup.new f.heap _) λh' g8=>?_;have I3:=I2.kept (t':=f.toks) λb o e=>g8 b o (Bi<|Ap e) e;show wpAny _ _ (assignInOrder [λv=>bindName X.env y v,λv=>bindName X.env x v] [d,c] >>= λ_=>pure Flow.next) _ _ _;refine BJ<|QW<|wpAny_bindName<|uF I3 r E (.inl u) d9 (λs2 I4=>?_)<|.inr u;refine QW<|wpAny_bindName<|uF I4 r C (.inl t) Y (λs3 A=>assignInOrder_nil<|BL ?_)<|.inr t;rw[List.set_comm _ _<|CG G]at A;exact⟨_,z,A,n⟩
def YF(c:TT)(tb:TS):TS:=λD σ H=>∃W:Nat->St->Hp->Prop,(∃m,W m σ H)/\∀m σ H,W m σ H ->
 c σ H λb d=>if b=true then ∃N:St->Hp->Prop,(∀a H',N a H'->∃e,e<m/\W e a H')/\tb {D with nx:=N,ct:=N,bk:=D.nx} σ d else D.nx σ d
theorem YG(r:PassesOwn (model X.U X.w) X.A X.env X.xe)(y:PT X c tc)(z:ji X body tb):PS X (.While c body [] pos) (YF tc tb):=by
 intro O s σ H D I h;obtain⟨W,⟨A,B⟩,turn⟩:=h;refine wpAny_While<|codeAny_whileLoop (λn s'=>∃e H',be X O e H' s'/\W n e H') ?_ A ⟨σ,H,I,B⟩;rintro n C ⟨d,t,E,G⟩;refine JB r<|aN (y O C d t _ E<|turn n d t G) λb J⟨u,w,j⟩=>?_;cases b with
 |true=>
  obtain⟨N,x,j⟩:=j;rw[BP rfl];refine JB r<|aN (z O J d u _ w j) λf L k=>?_;cases f with
  |next=>
   obtain⟨a,i,l,m⟩:=k;obtain⟨o,p,q⟩:=x a i m;exact⟨o,p,a,i,l,q⟩
  |cont=>
   obtain⟨a,i,l,m⟩:=k;obtain⟨o,p,q⟩:=x a i m;exact⟨o,p,a,i,l,q⟩
  |brk=>exact k
  |ret v=>exact k
 |false=>
  rw[BK Ax];exact TY ⟨d,u,w,j⟩
end
structure It where
 go:Nat->Hp->Prop
 uK:Nat->Hp->V->Hp->Prop
 stop:Nat->Hp->Prop
def cr(X:Cx)(O:Ð)(H:Hp)(b:Addr):Prop:=
 H b=none/\b≠X.env.locals/\b∉X.fs/\(b∈X.ex\/X.æ.heap.objs.size<=b)/\(∀x c,X.env.cells.lookup x=some c->c≠b)/\∀p∈X.pn++O,p.1≠b
def be.gF(I:be X O σ H s)(a:s.heap.objs.size<=b)(d:H' b=none):cr X O H' b:=by
 refine⟨d,Cw<|Bf I.lt a,I.DU a,.inr<|By I.sz a,λx c e z=>?_,λp f z=>?_⟩
 ·obtain⟨v,q⟩:=I.cell x c e;exact absurd (Bf q.lt<|by rwa[z])<|Cq _
 ·exact absurd (Bf (Ap (I.pin p f).1)<|by rwa[z])<|Cq _
structure pi(P:Program)(w:World)(K:aa)(tg:Expr)(J:It)(fp:List Addr)(it:Addr)(tn:Nat->Heap->Prop):Prop where
 mem:it∈fp
 obj:∀i h,tn i h->∀b∈fp,∃o,h.get? b=some o/\∀v,o.data ≠ .cell v
 keep:∀i h h',tn i h->(∀b∈fp,∀o,h.get? b=some o->h'.get? b=some o)->tn i h'
 item:∀X,X.U=P->X.w=w->X.K=K->X.calm=true->∀i O s σ H E,be X O σ H s->(∀b∈fp,cr X O H b)->tn i s.heap->J.go i H ->
  wpAny (model P w) X.A (pyNext<|.ref it) (λr s1=>∃ u,r=some u /\
   wpAny (model P w) X.A (letOwnedTupleGo tg (.ref it) u) (λ_ s2=>∃x H',be X O σ H' s2/\fg x u/\J.uK i H x H'/\tn (i+1) s2.heap/\∀b∈fp,H' b=none) E s1) E s
 done:∀X,X.U=P->X.w=w->X.K=K->X.calm=true->∀i O s σ H E,be X O σ H s->(∀b∈fp,cr X O H b)->tn i s.heap->J.stop i H ->
  wpAny (model P w) X.A (pyNext<|.ref it) (λr s1=>r=none/\be X O σ H s1) E s
 self:∀A i s Q E,tn i s.heap->Q (.ref it) s->bc P w A (pyIter<|.ref it) Q E s
abbrev TI:=St->Hp->(It->Hp->Prop)->Prop
def Pj(X:Cx)(O:Ð)(σ:St)(tg:Expr)(R:It->Hp->Prop)(e:Value)(a:Shared):Prop:=
 ∃it c d J H',e=.ref it/\be X O σ H' a/\pi X.U X.w X.K tg J c it d/\d 0 a.heap/\(∀b∈c,cr X O H' b)/\R J H'
def PI(X:Cx)(tg iter:Expr)(a:TI):Prop:=
 ∀O s σ H R,be X O σ H s->a σ H R ->
  ar X (eval iter X.env) (λv b=>ar X (pyIter v) (Pj X O σ tg R) X.xe b) X.xe s
def yK{it:Addr}{n:String}{vs:Array Value}{Q:Unit->Shared->Prop}(b:s.heap.get? it=some o)(c:o.cls=.type n)(hd:o.data=.fields vs)
    (d:["enumerate","zip","dict_itemiterator","dict_reverseitemiterator","odict_iterator","itertools.zip_longest","itertools.pairwise"].contains n=false) (a:Q () s):wpAny M A (letOwnedTupleGo tg (.ref it) u) Q E s:=by
  unfold letOwnedTupleGo;cases tg<;>first
    |exact BL a
    | (cases u <;> first
        |exact BL a
        | (refine BJ<|wpAny_load b ?_
           rw[c,hd];show wpAny M A (if(["enumerate","zip","dict_itemiterator","dict_reverseitemiterator","odict_iterator","itertools.zip_longest","itertools.pairwise"].contains n && vs[0]? == some (rawInt _))=true then _ else _) Q E s;rw[BK<|by intro h;rw[d,Bool.false_and]at h;cases h];exact BL a))
def pV(K:aa)(a:Addr):It:=
 ⟨λi H=>∃xs x,aj K H a xs/\xs[i]?=some x,λi H x H'=>H'=H/\∀xs,aj K H a xs->xs[i]?=some x,λi H=>∃xs,aj K H a xs/\xs.length<=i⟩
def yL(K:aa)(a:Addr):It:=
 ⟨λi H=>∃xs x,aS K H a xs/\xs[i]?=some x,λi H x H'=>H'=H/\∀xs,aS K H a xs->xs[i]?=some x,λi H=>∃xs,aS K H a xs/\xs.length<=i⟩
def sN(lo:Int)(n:Nat):It:=⟨λi _=>i<n,λi H x H'=>H'=H/\x=.int (lo+i),λi _=>n<=i⟩
theorem YH(a it:Addr):pi P w K tg (pV K a) [it] it (λi h=>h.IsListIter it a i) where
 mem:=by simp
 obj:=λi h st b hb=>by
  have e:b=it:=by simpa using hb
  subst e;obtain⟨o,e,c,d⟩:=st;exact⟨o,e,λv z=>by rw[d]at z;cases z⟩
 keep:=λi h h' st k=>st.at λo e=>k it (by simp) o e
 item:=by
  intro X hP hw hK hc i O s σ H E I hf st hg;subst hP hw hK;obtain⟨xs,x,hq,hx⟩:=hg;obtain⟨è,rv,p,hz⟩:=I.list hq;obtain⟨u,hu,ru⟩:=rv.get hx;obtain⟨f0,f1,f2,f3,f4,f5⟩:=hf it (by simp);refine wpAny_pyNext_list_item st p.isList (by simpa using hu) λh' dz sb=>?_;have I1:=I.turned (t':=s.toks) (λb o hb e=>(sb.2 b hb).trans e) f0 f1 f3 f4 f5;obtain⟨o,e,c,d⟩:=id dz;exact⟨u,rfl,yK e c d (by decide) ⟨x,H,I1,ru,⟨rfl,λys hy=>by rw[I.cZ hy hq];exact hx⟩,dz,λb hb=>(hf b hb).1⟩⟩
 done:=by
  intro X hP hw hK hc i O s σ H E I hf st hg;subst hP hw hK;obtain⟨xs,hq,hx⟩:=hg;obtain⟨è,rv,p,hz⟩:=I.list hq;obtain⟨f0,f1,f2,f3,f4,f5⟩:=hf it (by simp);have hl:=rv.length;exact wpAny_pyNext_list_end (I.ok.hd hc) st p.isList (by simp;omega) λh' eb=>⟨rfl,I.turned (λb o hb e=>eb b o hb e) f0 f1 f3 f4 f5⟩
 self:=λ_ _ _ _ _ st h=>wpAny_pyIter_listiter st h
theorem YJ(a it:Addr):pi P w K tg (yL K a) [it] it (λi h=>h.IsTupleIter it a i) where
 mem:=by simp
 obj:=λi h st b hb=>by
  have e:b=it:=by simpa using hb
  subst e;obtain⟨o,e,c,d⟩:=st;exact⟨o,e,λv z=>by rw[d]at z;cases z⟩
 keep:=λi h h' st k=>st.at λo e=>k it (by simp) o e
 item:=by
  intro X hP hw hK hc i O s σ H E I hf st hg;subst hP hw hK;obtain⟨xs,x,hq,hx⟩:=hg;obtain⟨è,rv,p,hz⟩:=I.tuple hq;obtain⟨u,hu,ru⟩:=rv.get hx;obtain⟨f0,f1,f2,f3,f4,f5⟩:=hf it (by simp);refine wpAny_pyNext_tuple_item st (show s.heap.IsTuple a è.toArray from p) (by simpa using hu) λh' dz sb=>?_;have I1:=I.turned (t':=s.toks) (λb o hb e=>(sb.2 b hb).trans e) f0 f1 f3 f4 f5;obtain⟨o,e,c,d⟩:=id dz;exact⟨u,rfl,yK e c d (by decide) ⟨x,H,I1,ru,⟨rfl,λys hy=>by rw[I.jj hy hq];exact hx⟩,dz,λb hb=>(hf b hb).1⟩⟩
 done:=by
  intro X hP hw hK hc i O s σ H E I hf st hg;subst hP hw hK;obtain⟨xs,hq,hx⟩:=hg;obtain⟨è,rv,p,hz⟩:=I.tuple hq;obtain⟨f0,f1,f2,f3,f4,f5⟩:=hf it (by simp);have hl:=rv.length;exact wpAny_pyNext_tuple_end (I.ok.hd hc) st (show s.heap.IsTuple a è.toArray from p) (by simp;omega) λh' eb=>⟨rfl,I.turned (λb o hb e=>eb b o hb e) f0 f1 f3 f4 f5⟩
 self:=λ_ _ _ _ _ st h=>wpAny_pyIter_tupleiter st h
theorem YK(it:Addr)(lo:Int)(n:Nat):pi P w K tg (sN lo n) [it] it (λi h=>IsRangeIter h it (lo+(i:Nat)*1) ((n:Int)-(i:Nat)) 1) where
 mem:=by simp
 obj:=λi h st b hb=>by
  have e:b=it:=by simpa using hb
  subst e;exact⟨_,st,λv z=>by
   have z':=z;cases z'⟩
 keep:=λi h h' st k=>k it (by simp) _ st
 item:=by
  intro X hP hw hK hc i O s σ H E I hf st hg;subst hP hw hK;obtain⟨f0,f1,f2,f3,f4,f5⟩:=hf it (by simp);have W:=Walks.range (prog:=X.U) (w:=X.w) (I.ok.hd hc) it lo 1 n;refine W.item i s _ _ hg st λv h' tk hv dz kk=>?_;obtain⟨t,rfl⟩:=hv;have I1:be X O σ H {s with heap:=h',toks:=tk}:=I.turned (λb o hb e=>kk b o (by simpa using hb) e) f0 f1 f3 f4 f5;refine⟨_,rfl,yK dz rfl rfl (by decide) ⟨.int<|lo+i,H,I1,⟨t,?_⟩,⟨rfl,rfl⟩,dz,λb hb=>(hf b hb).1⟩⟩;rw[Int.mul_one]
 done:=by
  intro X hP hw hK hc i O s σ H E I hf st hg;subst hP hw hK;obtain⟨f0,f1,f2,f3,f4,f5⟩:=hf it (by simp);exact wpAny_pyNext_range_end (I.ok.hd hc) st (by have:n<=i:=hg;omega) λh' eb=>⟨rfl,I.turned (λb o hb e=>eb b o hb e) f0 f1 f3 f4 f5⟩
 self:=λ_ _ _ _ _ st h=>wpAny_pyIter_rangeiter st h
variable{tl:TE}{l iter:Expr}{fp:List Addr}{p:Addr×Obj}
def YL(K:aa)(tl:TE):TI:=λσ H R=>tl σ H λx b=>∃a,x=.ref a/\(∃xs,aj K b a xs)/\R (pV K a) b
def EB(K:aa)(tl:TE):TI:=λσ H R=>tl σ H λx b=>∃a,x=.ref a/\(∃xs,aS K b a xs)/\R (yL K a) b
def eB(f:PE X l tl):PI X tg l (YL X.K tl):=by
 intro O s σ H R I h;refine aN (f O s σ H _ I h) λv d⟨x,i,c,j,k⟩=>?_;obtain⟨a,e,⟨xs,m⟩,q⟩:=k;subst e;cases j;obtain⟨r,t,p,u⟩:=c.list m;refine MK p.isList<|⟨d.heap.objs.size,[d.heap.objs.size],_,_,i,rfl,c.kept λb o e=>Ae _ e,YH a _,⟨_,Ao _ rfl,rfl,rfl⟩,λb n=>?_,q⟩;have e:b=d.heap.objs.size:=by simpa using n
 subst e;exact c.gF (Am _)<|c.aF.fresh<|Am _
def YM(f:PE X l tl):PI X tg l (EB X.K tl):=by
 intro O s σ H R I h;refine aN (f O s σ H _ I h) λv c⟨x,i,d,j,k⟩=>?_;obtain⟨a,e,⟨xs,m⟩,q⟩:=k;subst e;cases j;obtain⟨n,t,p,u⟩:=d.tuple m;refine wpAny_pyIter_tuple (show c.heap.IsTuple a n.toArray from p)<|⟨c.heap.objs.size,[c.heap.objs.size],_,_,i,rfl,d.kept λb o e=>Ae _ e,YJ a _,⟨_,Ao _ rfl,rfl,rfl⟩,λb r=>?_,q⟩;have e:b=c.heap.objs.size:=by simpa using r
 subst e;exact d.gF (Am _)<|d.aF.fresh<|Am _
theorem YN{R:It->Hp->Prop}{lo a:Int}{t u v:Tok}{d:Nat}(I:be X O σ H s)(f:-(2 ^ 62)<=lo)(h:lo<2 ^ 62)(i:-(2 ^ 62)<=a)(j:a<2 ^ 62)
  (q:R (sN lo (a-lo).toNat) H):ar X (pyIter<|.ref s.heap.objs.size) (Pj X O σ tg R) E {s with heap:=s.heap.push {cls:= .type "range",data:= .fields #[.int lo t,.int a u,.int 1 v]},toks:=d}:=by
 refine wpAny_pyIter_range (IsRange.new ..) (small_one f h i j) ?_;have c:be X O σ H {s with heap:=s.heap.push {cls:= .type "range",data:= .fields #[.int lo t,.int a u,.int 1 v]},toks:=d}:=I.kept λb o e=>Ae _ e;refine⟨(s.heap.push {cls:= .type "range",data:= .fields #[.int lo t,.int a u,.int 1 v]}).objs.size,[(s.heap.push {cls:= .type "range",data:= .fields #[.int lo t,.int a u,.int 1 v]}).objs.size],_,_,H,rfl,
  c.kept λb o e=>Ae _ e,YK _ lo (a-lo).toNat,?_,λb k=>?_,q⟩
 ·have l:lo+((0:Nat):Int)*1=lo:=by simp
  have m:(((a-lo).toNat:Nat):Int)-((0:Nat):Int)=Builtin.Range.rangeSize lo a 1:=by rw[rangeSize_one];split<;>omega
  show IsRangeIter _ _ (lo+((0:Nat):Int)*1) ((((a-lo).toNat:Nat):Int)-((0:Nat):Int)) 1;rw[l,m];exact Ao _ rfl
 ·have e:b=(s.heap.push {cls:= .type "range",data:= .fields #[.int lo t,.int a u,.int 1 v]}).objs.size:=by simpa using k
  subst e;exact c.gF (Am _)<|c.aF.fresh<|Am _
def Pk(ta:TA):TI:=λσ H R=>ta σ H λa b=>∃j:Int,a=[.int j]/\-(2 ^ 62)<=j/\j<2 ^ 62/\R (sN 0 j.toNat) b
theorem yM{a:Expr}{ta:TA}{p pos:Pos}(c:Gl X "range")(d:X.mg "range" = none)(f:PA X [a] ta)(i:starEach [a] X.env=[(false,eval a X.env)]:=by rfl):PI X tg (.Call (.Name "range" p) [a] [] pos) (Pk ta):=by
 intro O s σ H R I h;refine Call_<|oD I c d boot_range<|IV (aN (f pos O s σ H _ I h) λo u⟨v,w,k,l,b⟩=>?_) i rfl;obtain⟨j,e,b,m,q⟩:=b;subst e;cases l with
 |cons r n=>
  cases n;obtain⟨t,rfl⟩:=r;exact call_range_1<|YN k (by omega) (by omega) b m<|by simpa using q
def EC(d:TI)(g:TG)(tb:TS):TS:=λD σ H=>d σ H λJ e=>∃W:Nat->Nat->St->Hp->Prop,(∃m,W 0 m σ e)/\∀i m σ H,W i m σ H ->
 (J.stop i H/\D.nx σ H)\/(J.go i H/\∃N:St->Hp->Prop,(∀a H',N a H'->∃c,c<m/\W (i+1) c a H')/\∀x H',J.uK i H x H'->g x σ H' λb f=>tb {D with nx:=N,ct:=N,bk:=D.nx} b f)
def uL(fp:List Addr)(h:Heap):Ð:=fp.filterMap λb=>(h.get? b).map λo=>(b,o)
def yN(a:b∈fp)(e:h.get? b=some o):(b,o)∈uL fp h:=Fx.mpr ⟨b,a,by rw[e];rfl⟩
theorem YQ(a:p∈uL fp h):p.1∈fp/\h.get? p.1=some p.2:=by
 obtain⟨b,c,e⟩:=Fx.mp a;cases q:h.get? b with
 |none=>rw[q]at e;cases e
 |some o=>
  rw[q]at e;have d:=Option.some.inj e;subst d;exact⟨c,q⟩
def be.pinned(I:be X O σ H s)(f:∀b∈fp,cr X O H b)(h:∀b∈fp,∃o,s.heap.get? b=some o/\∀v,o.data ≠ .cell v):be X (O++uL fp s.heap) σ H s:=
 I.iU λp i=>(An.mp i).elim (λz=>I.pin p<|Av _ z) λz=>by
  obtain⟨a,e⟩:=YQ z;obtain⟨j,f1,f2,_⟩:=f p.1 a;obtain⟨o,c,d⟩:=h p.1 a;rw[e]at c;cases c;exact⟨e,j,f1,f2,d⟩
def be.c6{a:Ð}(I:be X (O++a) σ H s):be X O σ H s:=I.iU λp b=>I.pin p<|Av _<|Az _ b
def YR{G:TI}{g:TG}{pos:Pos}(w:PassesOwn (model X.U X.w) X.A X.env X.xe)(L:X.calm=true)(hi:PI X tg iter G)(hg:PG X tg g)(c:ji X body tb)
  (hs:∀x,foldedSetIterable iter X.env x=pure x:=by intro _;rfl):PS X (.For tg iter body [] pos) (EC G g tb):=by
 intro O s σ H D I h;refine wpAny_For (aN (hi O s σ H _ I h) λv s1 h1=>aN h1 λoE s2 h2=>?_) hs;obtain⟨it,fp,M,J,H2,e,I2,T,gm,f2,W,⟨m0,w0⟩,turn⟩:=h2;subst e;have j:∀{H':Hp},(∀b∈fp,H' b=none)->∀b∈fp,cr X O H' b:=λhn b c=>⟨hn b c,(f2 b c).2⟩;refine codeAny_forLoop_any (λn s'=>∃i k H',be X O k H' s'/\M i s'.heap/\(∀b∈fp,H' b=none)/\W i n k H') ?_ m0 ⟨0,σ,H2,I2,gm,λb c=>(f2 b c).1,w0⟩;rintro n Q ⟨i,l,z,U,Y,Pp,w3⟩
 obtain⟨stop,qn⟩|⟨go,N,hN,step⟩:=turn i n l z w3
 ·refine JB w<|aN (T.done X rfl rfl rfl L i O Q l z X.xe U (j Pp) Y stop) λr s4⟨A,I4⟩=>?_;subst A;exact TY ⟨l,z,I4,qn⟩
 ·refine JB w<|aN (T.item X rfl rfl rfl L i O Q l z X.xe U (j Pp) Y go) λr s4⟨u,A,h4⟩=>?_;subst A;refine JB w<|aN h4 λ_ s5⟨x,H5,I5,r5,y5,B,YS⟩=>?_;have YT:=I5.pinned (j YS)<|T.obj _ _ B;refine JB w<|aN (hg _ s5 l H5 x u _ YT r5<|step x H5 y5) λ_ s6⟨C,H6,I6,q6⟩=>?_;refine JB w<|aN (c _ s6 C H6 _ I6 q6) λf E t=>?_;have again:∀{a:St}{p:Hp},be X (O++uL fp s5.heap) a p E->N a p->∃m,m<n/\∃i k H',be X O k H' E/\M i E.heap/\(∀b∈fp,H' b=none)/\W i m k H':=λ{a p}q y=>by
   obtain⟨m',hm,w7⟩:=hN a p y;refine⟨m',hm,i+1,a,p,q.c6,T.keep _ _ _ B λb c o e=>(q.pin (b,o)<|Av _<|Av _<|yN c e).1,λb c=>?_,w7⟩;obtain⟨o,e,d⟩:=T.obj _ _ B b c;exact(q.pin (b,o)<|Av _<|Av _<|yN c e).2.1
  cases f with
  |next=>obtain⟨a,p,q,y⟩:=t;exact again q y
  |cont=>obtain⟨a,p,q,y⟩:=t;exact again q y
  |brk=>obtain⟨a,p,q,t⟩:=t;exact⟨a,p,q.c6,t⟩
  |ret v=>obtain⟨x7,a,p,q,r7,t⟩:=t;exact⟨x7,a,p,q.c6,r7,t⟩
abbrev R2:=V->V->Hp->VK->Prop
def cG(X:Cx)(f:Value->Value->Sem Value)(r:R2):Prop:=
 ∀O s σ H x y v u Q,be X O σ H s->fg x v->fg y u->r x y H Q ->
  ar X (f v u) (EP X O σ Q) X.xe s
def yO(X:Cx)(f:Value->Sem Value)(r:V->Hp->VK->Prop):Prop:=
 ∀O s σ H x v Q,be X O σ H s->fg x v->r x H Q ->
  ar X (f v) (EP X O σ Q) X.xe s
def fE(X:Cx)(f:Value)(r:List V->Hp->VK->Prop):Prop:=
 ∀O s σ H xs a Q,be X O σ H s->az xs a->r xs H Q ->
  ar X (call f a) (EP X O σ Q) X.xe s
def EE(X:Cx)(r:V->Hp->(Bool->Hp->Prop)->Prop):Prop:=
 ∀O s σ H x v Q,be X O σ H s->fg x v->r x H Q ->
  ar X (truthy v) (TP X O σ Q) X.xe s
def yP(r:R2)(ta tb:TE):TE:=λσ H Q=>ta σ H λx a=>tb σ a λy b=>r x y b Q
def YV(r:V->Hp->VK->Prop)(ta:TE):TE:=λσ H Q=>ta σ H λx a=>r x a Q
def rI(C:Int->Int->Prop)(g:Int->Int->V):R2:=λx y H Q=>∃i j,x=.int i/\y=.int j/\C i j/\Q (g i j) H
def oF(g:Int->Int->V):R2:=λx y H Q=>∃i j,x=.int i/\y=.int j/\Q (g i j) H
def rU(g:Int->V):V->Hp->VK->Prop:=λx H Q=>∃i,x=.int i/\Q (g i) H
variable{f:Value->Value->Sem Value}{C:Int->Int->Prop}{è us:Ó}
section
variable{a b:Expr}{tb tc:TE}{pos:Pos}
def pW(i:PE X a ta)(j:PE X b tb)(I:be X O σ H s)
  (h:ta σ H λx e=>tb σ e λy c=>R x y c)  
  (k:∀v u d x y c,be X O σ c d->fg x v->fg y u->R x y c->ar X (f v u) Q X.xe d):
  ar X (eval a X.env) (λv l=>ar X (eval b X.env) (λu m=>ar X (f v u) Q X.xe m) X.xe l) X.xe s:=by
 refine aN (i O s σ H _ I h) λv n⟨x,e,o,p,q⟩=>?_;refine aN (j O n σ e _ o q) λu d⟨y,c,r,t,w⟩=>?_;exact k v u d x y c r p t w
def YW{op:Operator}{r:R2}(c:cG X (binaryOp op) r)(d:PE X a ta)(e:PE X b tb):PE X (.BinOp a op b pos) (yP r ta tb):=by
 intro O s σ H Q I h;exact wpAny_BinOp<|pW d e I h λv u f x y i j k l q=>c O f σ i x y v u Q j k l q
def YX{op:UnaryOp}{r:V->Hp->VK->Prop}(b:yO X (unaryOp op) r)(c:PE X a ta):PE X (.UnaryOp op a pos) (YV r ta):=by
 intro O s σ H Q I h;exact UnaryOp_<|aN (c O s σ H _ I h) λv d⟨x,e,f,i,j⟩=>b O d σ e x v Q f i j
def uM{g:Int->Int->Int}
  (rule:∀i j t u s Q E,C i j->Q (.int (g i j) s.toks) {s with toks:=s.toks+1}->ar X (f (.int i t)<|.int j u) Q E s):
  cG X f (rI C λi j=> .int<|g i j):=by
 intro O s σ H x y v u Q I a b h;obtain⟨i,j,rfl,rfl,c,q⟩:=h;obtain⟨t,rfl⟩:=a;obtain⟨t',rfl⟩:=b;exact rule i j t t' s _ _ c ⟨.int<|g i j,H,I.tok _,⟨_,rfl⟩,q⟩
def pX{g:Int->Int->Int}
  (rule:∀i j t u s Q E,Q (.int (g i j) s.toks) {s with toks:=s.toks+1}->ar X (f (.int i t)<|.int j u) Q E s):
  cG X f (oF λi j=> .int<|g i j):=by
 intro O s σ H x y v u Q I a b h;obtain⟨i,j,rfl,rfl,q⟩:=h;obtain⟨t,rfl⟩:=a;obtain⟨t',rfl⟩:=b;exact rule i j t t' s _ _ ⟨.int<|g i j,H,I.tok _,⟨_,rfl⟩,q⟩
def pY{g:Int->Int->Bool}
  (rule:∀i j t u s Q E,Q (.bool<|g i j) s->ar X (f (.int i t)<|.int j u) Q E s):
  cG X f (oF λi j=> .bl<|g i j):=by
 intro O s σ H x y v u Q I a b h;obtain⟨i,j,rfl,rfl,q⟩:=h;obtain⟨t,rfl⟩:=a;obtain⟨t',rfl⟩:=b;exact rule i j t t' s _ _ ⟨.bl<|g i j,H,I,rfl,q⟩
def uN(i j:Int):Prop:=0<j/\j<1073741824
def EF(i j:Int):Prop:=0<=j/\j<=1000000/\i.natAbs<2 ^ 64
def pZ(i j:Int):Prop:=(-(2 ^ 64)<i/\i<2 ^ 64)\/(-(2 ^ 64)<j/\j<2 ^ 64)
def pZ.ok{i j:Int}(h:pZ i j):IntMulOk i j:=by
 obtain⟨a,b⟩|⟨a,b⟩:=h
 ·exact .of_left<|intBits_le_64 a b
 ·exact .of_right<|intBits_le_64 a b
def YY(k:Nat):(0:Int)<=2 ^ k:=by
 rw[two_pow_cast];exact Int.natCast_nonneg _
def fj:cG X (binaryOp .Add) (oF λi j=> .int<|i+j):=pX λ_ _ _ _ _ _ _ q=>add_int q
def Pq:cG X (binaryOp .Sub) (oF λi j=> .int<|i-j):=pX λ_ _ _ _ _ _ _ q=>sub_int q
def yQ:cG X (binaryOp .Mult) (rI pZ λi j=> .int<|i*j):=uM λ_ _ _ _ _ _ _ a q=>mul_int q a.ok
theorem iY:cG X (binaryOp .FloorDiv) (rI uN λi j=> .int<|i/j):=uM λi j _ _ _ _ _ a q=>by
 have b:(0:Int)<j:=a.1;have c:j<1073741824:=a.2;exact floordiv_int (by omega) (by rwa[RJ i<|(by omega)])<|.inl<|PyProof.noPylong_small<|(by omega)
theorem cJ:cG X (binaryOp .Mod) (rI (λ_ j=>0<j) λi j=> .int<|i%j):=uM λi j _ _ _ _ _ a q=>by
 exact mod_int' (by omega)<|by rwa[Int.fmod_eq_emod_of_nonneg i<|(by omega)]
def EG:cG X (binaryOp .Pow) (rI EF λi j=> .int<|i ^ j.toNat):=uM λ_ _ _ _ _ _ _ a q=>pow_int_small a.1 a.2.1 a.2.2 q
def Pt:cG X (binaryOp .RShift) (rI (λ_ j=>0<=j) λi j=> .int<|i/2 ^ j.toNat):=uM λi j _ _ _ _ _ a q=>
 rshift_int a (by rwa[RJ i<|YY _])
def YZ:cG X (binaryOp .BitAnd) (oF λi j=> .int<|Builtin.bitAnd i j):=pX λ_ _ _ _ _ _ _ q=>and_int q
def Y0{f:Value->Sem Value}{g:Int->Int}
  (rule:∀i t s Q E,Q (.int (g i) s.toks) {s with toks:=s.toks+1}->ar X (f<|.int i t) Q E s):
  yO X f (rU λi=> .int<|g i):=by
 intro O s σ H x v Q I a h;obtain⟨i,rfl,q⟩:=h;obtain⟨t,rfl⟩:=a;exact rule i t s _ _ ⟨.int<|g i,H,I.tok _,⟨_,rfl⟩,q⟩
def yR:yO X (unaryOp .USub) (rU λi=> .int (-i)):=Y0 λ_ _ _ _ _ q=>neg_int q
def p7:V->V->Bool
 |.non,.non=>true|.non,.int _=>true|.int _,.non=>true|.non,.bl _=>true|.bl _,.non=>true|.non,.str _=>true|.str _,.non=>true
 |.int _,.int _=>true|.bl _,.bl _=>true|.str _,.str _=>true|.jh _,.jh _=>true
 |.int _,.str _=>true|.str _,.int _=>true|.bl _,.str _=>true|.str _,.bl _=>true
 |_,_=>false
def Y1:R2:=λx y H Q=>p7 x y=true/\Q (.bl<|decide (x=y)) H
def Y2:R2:=λx y H Q=>p7 x y=true/\Q (.bl (!decide (x=y))) H
def Pu{i j:Int}:decide (V.int i=V.int j)=(i == j):=by
 rw[Cr];simp
def uO{i j:Bool}:decide (V.bl i=V.bl j)=(i == j):=by
 rw[Cr];simp
def Pw{i j:Str}:decide (V.str i=V.str j)=(i == j):=by
 rw[Cr];simp
def Px{i j:Array UInt8}:decide (V.jh i=V.jh j)=(i.toList == j.toList):=by
 rw[Cr];cases i;cases j;simp
def cK{Q:VK}{k a:Bool}(I:be X O σ H s)(q:Q (.bl k) H)(e:k=a):EP X O σ Q (.bool a) s:=by
 subst e;exact⟨.bl k,H,I,rfl,q⟩
theorem jl:cG X (compareOp .Eq) Y1:=by
 intro O s σ H x y v u Q I c a h;obtain⟨b,q⟩:=h;cases x with
 |non=>
  cases c;cases y with
  |non=>cases a;exact PySem.EqNone.eq_none_none<|cK I q<|by simp
  |bl j=>cases a;exact PySem.EqNone.eq_none_bool<|cK I q<|by simp
  |int j=>obtain⟨t',rfl⟩:=a;exact PySem.EqNone.eq_none_int<|cK I q<|by simp
  |str j=>obtain⟨t',rfl⟩:=a;exact PySem.EqNone.eq_none_str<|cK I q<|by simp
  |_=>exact absurd (show false=true from b) Ax
 |bl i=>
  cases c;cases y with
  |non=>cases a;exact PySem.EqNone.eq_bool_none<|cK I q<|by simp
  |bl j=>cases a;exact eq_bool<|cK I q uO
  |str j=>obtain⟨t',rfl⟩:=a;exact PySem.EqMixed.eq_bool_str<|cK I q<|by simp
  |_=>exact absurd (show false=true from b) Ax
 |int i=>
  obtain⟨t,rfl⟩:=c;cases y with
  |non=>cases a;exact PySem.EqNone.eq_int_none<|cK I q<|by simp
  |int j=>obtain⟨t',rfl⟩:=a;exact eq_int<|cK I q Pu
  |str j=>obtain⟨t',rfl⟩:=a;exact PySem.EqMixed.eq_int_str<|cK I q<|by simp
  |_=>exact absurd (show false=true from b) Ax
 |str i=>
  obtain⟨t,rfl⟩:=c;cases y with
  |non=>cases a;exact PySem.EqNone.eq_str_none<|cK I q<|by simp
  |bl j=>cases a;exact PySem.EqMixed.eq_str_bool<|cK I q<|by simp
  |int j=>obtain⟨t',rfl⟩:=a;exact PySem.EqMixed.eq_str_int<|cK I q<|by simp
  |str j=>obtain⟨t',rfl⟩:=a;exact eq_str<|cK I q Pw
  |_=>exact absurd (show false=true from b) Ax
 |jh i=>
  obtain⟨t,rfl⟩:=c;cases y with
  |jh j=>obtain⟨t',rfl⟩:=a;exact PySem.W.eq_bytes<|cK I q Px
  |_=>exact absurd (show false=true from b) Ax
 |_=>cases y<;>exact absurd (show false=true from b) Ax
theorem yS:cG X (compareOp .NotEq) Y2:=by
 intro O s σ H x y v u Q I c a h;obtain⟨b,q⟩:=h;cases x with
 |non=>
  cases c;cases y with
  |non=>cases a;exact PySem.EqNone.ne_none_none<|cK I q<|by simp
  |bl j=>cases a;exact PySem.EqNone.ne_none_bool<|cK I q<|by simp
  |int j=>obtain⟨t',rfl⟩:=a;exact PySem.EqNone.ne_none_int<|cK I q<|by simp
  |str j=>obtain⟨t',rfl⟩:=a;exact PySem.EqNone.ne_none_str<|cK I q<|by simp
  |_=>exact absurd (show false=true from b) Ax
 |bl i=>
  cases c;cases y with
  |non=>cases a;exact PySem.EqNone.ne_bool_none<|cK I q<|by simp
  |bl j=>cases a;exact ne_bool<|cK I q<|BZ not uO
  |str j=>obtain⟨t',rfl⟩:=a;exact PySem.EqMixed.ne_bool_str<|cK I q<|by simp
  |_=>exact absurd (show false=true from b) Ax
 |int i=>
  obtain⟨t,rfl⟩:=c;cases y with
  |non=>cases a;exact PySem.EqNone.ne_int_none<|cK I q<|by simp
  |int j=>obtain⟨t',rfl⟩:=a;exact ne_int<|cK I q<|BZ not Pu
  |str j=>obtain⟨t',rfl⟩:=a;exact PySem.EqMixed.ne_int_str<|cK I q<|by simp
  |_=>exact absurd (show false=true from b) Ax
 |str i=>
  obtain⟨t,rfl⟩:=c;cases y with
  |non=>cases a;exact PySem.EqNone.ne_str_none<|cK I q<|by simp
  |bl j=>cases a;exact PySem.EqMixed.ne_str_bool<|cK I q<|by simp
  |int j=>obtain⟨t',rfl⟩:=a;exact PySem.EqMixed.ne_str_int<|cK I q<|by simp
  |str j=>obtain⟨t',rfl⟩:=a;exact ne_str<|cK I q<|BZ not Pw
  |_=>exact absurd (show false=true from b) Ax
 |jh i=>
  obtain⟨t,rfl⟩:=c;cases y with
  |jh j=>obtain⟨t',rfl⟩:=a;exact PySem.W.ne_bytes<|cK I q<|BZ not Px
  |_=>exact absurd (show false=true from b) Ax
 |_=>cases y<;>exact absurd (show false=true from b) Ax
def Py:cG X (compareOp .Lt) (oF λi j=> .bl<|decide (i<j)):=pY λ_ _ _ _ _ _ _ q=>lt_int q
def Y3:cG X (compareOp .Gt) (oF λi j=> .bl<|decide (j<i)):=pY λ_ _ _ _ _ _ _ q=>gt_int q
def Y4:cG X (compareOp .GtE) (oF λi j=> .bl<|decide (j<=i)):=pY λ_ _ _ _ _ _ _ q=>ge_int q
def Y5:cG X (compareOp .Is) (λx y H Q=>y=.non/\Q (.bl<|decide (x=.non)) H):=by
 intro O s σ H x y v u Q I a b h;obtain⟨rfl,q⟩:=h;cases b;refine is_none_gen<|cK I q ?_;cases x<;>first
  |(cases a;rfl)
  |(obtain⟨t,rfl⟩:=a;rfl)
def Y6:cG X (compareOp .IsNot) (λx y H Q=>y=.non/\Q (.bl (!decide (x=.non))) H):=by
 intro O s σ H x y v u Q I a b h;obtain⟨rfl,q⟩:=h;cases b;refine isnot_none_gen<|cK I q ?_;cases x<;>first
  |(cases a;rfl)
  |(obtain⟨t,rfl⟩:=a;rfl)
def Y7{r:R2}(c:cG X (compareOp op) r)(d:PE X a ta)(e:PE X b tb)(f:behindInMarks op b=false):PE X (.Compare a [op] [b] pos) (yP r ta tb):=by
 intro O s σ H Q I h;exact wpAny_Compare1 (pW d e I h λv u i x y j k l m q=>c O i σ j x y v u Q k l m q) f
def Y8(t:TE):TT:=λσ H Q=>t σ H λx H'=>∃k,x=.bl k/\Q k H'
def Y9{r:R2}(d:cG X (compareOp op) r)(f:PE X a ta)(i:PE X b tb)(j:behindInMarks op b=false):PT X (.Compare a [op] [b] pos) (Y8<|yP r ta tb):=by
 intro O s σ H Q I h;refine wpAny_isTrue_Compare1 (aN (f O s σ H _ I h) λv l⟨x,m,n,o,p⟩=>aN (i O l σ m _ n p) λu q⟨y,t,w,A,B⟩=>
  aN (d O q σ t x y v u _ w o A B) λc J⟨z,C,D,E,k,e,G⟩=>?_) j
 subst e;cases E;exact DY ⟨C,D,G⟩
def mB(K:aa)(x:V)(H:Hp)(k:Bool):Prop:=
 match x with
 |.non=>k=false
 |.bl b=>k=b
 |.int i=>k=(i != 0)
 |.str y=>y.length<=sizeLine/\k=((y.length:Int) != 0)
 |.jh y=>y.size<=sizeLine/\k=((y.size:Int) != 0)
 |.ref p=>(∃xs,aj K H p xs/\k = !xs.isEmpty)\/(∃xs,aS K H p xs/\k = !xs.isEmpty)\/∃Y,H p=some (.dK Y)/\k = !Y.isEmpty
 |_=>False
def Y'{κ:Type}{Y:List (κ×V)}{vs:List (κ×Value)}(r:KV Y vs):(!vs.isEmpty) = !Y.isEmpty:=by
 cases r<;>rfl
def Pz(r:az xs è):(!è.toArray.isEmpty) = !xs.isEmpty:=by
 cases r<;>simp
def uP:(sizeLine:Nat)<2 ^ 63:=by rw[FJ];decide
theorem PD:EE X (λx H Q=>∃k,mB X.K x H k/\Q k H):=by
 intro O s σ H x v Q I d h;obtain⟨k,e,q⟩:=h;have w:sizeLine=16777216:=FJ;cases x with
 |non=>
  cases d;have a:=e;subst a;exact truthy_none ⟨H,I,q⟩
 |bl b=>
  cases d;have a:=e;subst a;exact DY ⟨H,I,q⟩
 |int i=>
  obtain⟨t,rfl⟩:=d;have a:=e;subst a;exact PySem.P.truthy_int ⟨H,I,q⟩
 |str y=>
  obtain⟨t,rfl⟩:=d;obtain⟨o,a⟩:y.length<=sizeLine/\k=((y.length:Int) != 0):=e;subst a;exact PySem.P.truthy_str (by omega) ⟨H,I.tok _,q⟩
 |jh y=>
  obtain⟨t,rfl⟩:=d;obtain⟨o,a⟩:y.size<=sizeLine/\k=((y.size:Int) != 0):=e;subst a;exact PySem.W.truthy_bytes (by omega) ⟨H,I.tok _,q⟩
 |ref p=>
  cases d;have a:=e
  obtain⟨xs,f,a⟩|⟨xs,f,a⟩|⟨Y,f,a⟩:=a
  ·subst a;obtain⟨è,r,l,n⟩:=I.list f;have c:=r.length;exact wpAny_truthy_list l.isList (by simp only[Aw];omega) ⟨H,I.tok _,by rwa[Pz r]⟩
  ·subst a;obtain⟨è,r,l,n⟩:=I.tuple f;have c:=r.length;exact truthy_tuple l (by simp only[Aw];omega) ⟨H,I.tok _,by rwa[Pz r]⟩
  ·subst a;obtain⟨n,u,j,r,m⟩:Y.length<=sizeLine/\(p == sysModules)=false/\∃j,KV Y j/\s.heap.DictOf (dM X.U X.w) p j:=I.aF p _ f;have c:Y.length=j.length:=Paired.length r;exact wpAny_truthy_dict u m (by omega) ⟨H,I.tok _,by rwa[Y' r]⟩
 |_=>exact(show False from e).elim
def Za(b:PE X a ta)(c:∀whole,isTrue a X.env whole=(do let v <-whole;standAt a.pos;holding [v] (truthy v))):
  PT X a (λσ H Q=>ta σ H λx H'=>∃k,mB X.K x H' k/\Q k H'):=by
 intro O s σ H Q I h;exact isTrue_plain (aN (b O s σ H _ I h) λv d⟨x,e,f,i,j⟩=>PD O d σ e x v Q f i j)<|c _
def Zb:cG X (binaryOp .Add) (λx y H Q=>∃i j,x=.str i/\y=.str j/\i.length+j.length<=sizeLine/\Q (.str<|i++j) H):=by
 intro O s σ H x y v u Q I a b h;obtain⟨i,j,rfl,rfl,c,q⟩:=h;obtain⟨t,rfl⟩:=a;obtain⟨t',rfl⟩:=b;exact add_str (λt' d=>⟨.str<|i++j,H,I.tok _,⟨_,rfl⟩,q⟩) c
theorem kw{x:V}(r:az [x] us):∃u,us=[u]/\fg x u:=by
 cases r with
 |cons a b=>cases b;exact⟨_,rfl,a⟩
theorem re{x y:V}(r:az [x,y] us):∃u a,us=[u,a]/\fg x u/\fg y a:=by
 cases r with
 |cons b c=>
  cases c with
  |cons d e=>cases e;exact⟨_,_,rfl,b,d⟩
def PF(b:X.calm=true):fE X (.builtin "max") (λxs H Q=>∃i j,xs=[.int i,.int j]/\Q (.int (if j>i then j else i)) H):=by
 intro O s σ H xs us Q I r h;obtain⟨i,j,rfl,q⟩:=h;obtain⟨u,c,rfl,⟨t,rfl⟩,⟨t',rfl⟩⟩:=re r;refine max_two_ints (I.ok.hd b) λh' d k=>⟨_,H,I.kept k,?_,q⟩
 by_cases a:j>i
 ·rw[BP a,BP a];exact⟨_,rfl⟩
 ·rw[BK a,BK a];exact⟨_,rfl⟩
end
structure p8(h:Heap)(x dx C:Addr)(mA:Ò):Prop where
 obj:h.get? x=some (PySem.W.instObj C dx)
 ns:h.Ns1 dx mA
 ne:dx≠x
variable{mA:Ò}{dx:Addr}
set_option tactic.hygienic true in
def Zc(n:h.Ns1 dx mA):∃b,h.get? dx=some b/\∀name,PySem.W.lookIn name b=some (mA name):=by
 obtain⟨o,es,l,c,hd,d,_,f⟩:=n;refine⟨o,c,λname=>?_⟩;have e:=f name;unfold nsFind findBy at e;rw[<-Array.find?_toList]at e;unfold PySem.W.lookIn;rw[hd]
 dsimp only
 split
 ·rename_i y q;rw[q]at e;exact BZ some e
 ·rename_i q;rw[q]at e;have a:es.toList.any (·.refKey)=false:=by
   rw[List.any_eq_false];intro y i;obtain⟨z,t,j⟩:=d y<|Array.mem_toList_iff.mp i;simp[DictEntry.refKey,j]
  have k:¬ es.toList.any (·.refKey)=true:=by rw[a];exact Ax
  rw[BK k];exact BZ some e
def p8.look{x C:Addr}(I:p8 h x dx C mA):∃a,PySem.W.InstAt h x (PySem.W.instObj C dx) C (some a)/\∀name,PySem.W.lookIn name a=some (mA name):=
 let ⟨a,b,c⟩:=Zc I.ns
 ⟨a,⟨I.obj,rfl,rfl,b⟩,c⟩
variable{name:Str}{U:Program}
theorem eI.some_of{o:Option Value}(r:eI (some v) o):∃u,o=some u/\fg v u:=by
 cases o with
 |none=>exact(show False from r).elim
 |some u=>exact⟨u,rfl,r⟩
section
variable{C:Addr}{fs X1:List (Str×V)}
def Zd(b:cg P w H h)(e:H a=some (.ins C dx fs)):∃mA,p8 h a dx C mA/\(∀f,eI (fs.lookup f)<|mA f)/\PySem.Within mA (fs.map (·.1))/\fs.length<=1000/\H dx=some (.own a):=by
 obtain⟨d,z,ne,c,mA,n,r,q⟩:=(show aB P w H h a (.ins C dx fs)from b a _ e);exact⟨mA,⟨c,n,ne⟩,r,q,z,d⟩
end
structure EI(K:aa)(C:Addr):Prop where
 pg:PySem.W.plainGet K C Str.empty=true
 hd:PySem.W.hasDictIn K C=true
 po:PySem.W.plainOver K C=true
 sa:PySem.W.findIn K (.ref C) "__setattr__" = some (some<|.builtin "object.__setattr__")
def EI.get{K:aa}{C:Addr}(c:EI K C)(f:Str):PySem.W.plainGet K C f=true:=c.pg
section
variable{c:Value}{b:Bool}
inductive dA(K:aa)(H:Hp):V->Value->Prop where
 |non:dA K H .non<|.type "NoneType"
 |bl (x:Bool):dA K H (.bl x)<|.type "bool"
 |int (i:Int):dA K H (.int i)<|.type "int"
 |str (x:Str):dA K H (.str x)<|.type "str"
 |sv (x:UInt64):dA K H (.sv x)<|.type "float"
 |lst {a:Addr} {xs:List V} (e:H a=some (.lst xs)):dA K H (.ref a)<|.type "list"
 |bB {a:Addr} {o:Obj} {xs:List V} (e:H a=some (.bB o<|.lst xs)):dA K H (.ref a)<|.type "list"
 |tup {a:Addr} {xs:List V} (e:H a=some (.tup xs)):dA K H (.ref a)<|.type "tuple"
 |dK {a:Addr} {Y:List (Key×V)} (e:H a=some (.dK Y)):dA K H (.ref a)<|.type "dict"
 |dT {a:Addr} {Y:List (List Key×V)} (e:H a=some (.dT Y)):dA K H (.ref a)<|.type "dict"
 | ins {a C dx:Addr} {fs:List (Str×V)} (e:H a=some (.ins C dx fs)) (cl:EI K C) (ha:PySem.W.findIn K (.ref C) "__class__" = some (some<|.builtin "object.__class__"))
   (hn:PySem.W.specialIn K (.builtin "object.__class__") "__get__" = some (some<|.builtin "getset_descriptor.__get__")) (uQ:PySem.W.takesIn K (.builtin "object.__class__")=some true)
   (hm:PySem.W.mroIn K C (.type "object")=some true):dA K H (.ref a)<|.ref C
theorem Ze{x:V}{t:Value}(I:be X O σ H s)(d:fg x u)(ty:dA X.K H x t)(e:PySem.W.kitOne X.K t c=some b)(h:∀m,Q (.bool b) {s with toks:=m}):
  wpAny (model X.U X.w) A (call (.builtin "isinstance") [u,c]) Q E s:=by
 cases ty with
 |non=>cases (show u=Value.none from d);exact EY PySem.W.kitx_none I.fh True.intro e (λz=>nomatch z) h
 |bl y=>cases (show u=Value.bool y from d);exact EY PySem.W.kitx_bool I.fh True.intro e (λz=>nomatch z) h
 |int i=>obtain⟨t,q⟩:=(show ∃t,u=Value.int i t from d);cases q;exact EY PySem.W.kitx_int I.fh True.intro e (λz=>nomatch z) h
 |str y=>obtain⟨t,q⟩:=(show ∃t,u=Value.str y t from d);cases q;exact EY PySem.W.kitx_str I.fh True.intro e (λz=>nomatch z) h
 |sv y=>obtain⟨t,q⟩:=(show ∃t,u=Value.float y t from d);cases q;exact EY PySem.W.kitx_float I.fh True.intro e (λz=>nomatch z) h
 | @lst a xs f=>
  cases (show u=Value.ref a from d);obtain⟨_,_,n,_,j⟩:=(show aB X.U X.w H s.heap a (.lst xs)from I.aF a _ f);exact EY PySem.W.kitx_list I.fh ⟨_,j,rfl⟩ e (λz=>nomatch z) h
 | @bB a r xs f=>
  cases (show u=Value.ref a from d);obtain⟨_,_,_,n,_,j⟩:=(show aB X.U X.w H s.heap a (.bB r<|.lst xs)from I.aF a _ f);exact EY PySem.W.kitx_list I.fh ⟨_,j,rfl⟩ e (λz=>nomatch z) h
 | @tup a xs f=>
  cases (show u=Value.ref a from d);obtain⟨_,_,_,p⟩:=(show aB X.U X.w H s.heap a (.tup xs)from I.aF a _ f);obtain⟨o,j,k,_⟩:=p;exact EY PySem.W.kitx_tuple I.fh ⟨o,j,k⟩ e (λz=>nomatch z) h
 | @dK a Y f=>
  cases (show u=Value.ref a from d);obtain⟨_,_,M,_,p⟩:=(show aB X.U X.w H s.heap a (.dK Y)from I.aF a _ f);obtain⟨o,es,v,j,k,_⟩:=p;exact EY PySem.W.kitx_dict I.fh ⟨o,j,k.1⟩ e (λz=>nomatch z) h
 | @dT a Y f=>
  cases (show u=Value.ref a from d);obtain⟨_,_,xs,_,o,es,v,j,k,_⟩:=(show aB X.U X.w H s.heap a (.dT Y)from I.aF a _ f);exact EY PySem.W.kitx_dict I.fh ⟨o,j,k.1⟩ e (λz=>nomatch z) h
 | @ins a C dx N f l w B D G=>
  cases (show u=Value.ref a from d);obtain⟨mA,L,_⟩:=Zd I.aF f;obtain⟨T,J,_⟩:=L.look;exact EY (PySem.W.kitx_own (l.get _) l.hd w B D G) I.fh J e (λz=>nomatch z) h
end
structure bv(k:Nat)(A:Around):Prop where
 hd:A.handled=none
 dp:A.depth+3*k+5<recursionLimit
 un:A.units+16*k+200<cLine
theorem bv.mono{j k:Nat}(r:bv k A)(h:j<=k):bv j A:=⟨r.hd,by have:=r.dp;omega,by have:=r.un;omega⟩
theorem bv.deeper{k:Nat}{A:Around}(r:bv (k+1) A)(env:Env):bv k (A.deeper env):=
 ⟨r.hd,by have:=r.dp;show A.depth+1+3*k+5<_;omega,by have:=r.un;show A.units+3+16*k+200<_;omega⟩
theorem bv.depth{k:Nat}{A:Around}(r:bv k A):A.depth<recursionLimit:=by have:=r.dp;omega
def EJ:TA:=λ_ H Q=>Q [] H
def PH(ta:TE)(a:TA):TA:=λσ H Q=>ta σ H λx b=>a σ b λxs c=>Q (x :: xs) c
section
variable{t:TA}{pos:Pos}
def Zf:PA X [] EJ:=λ_ _ _ _ H Q I h=>Calls.spliced_nil ⟨[],H,I,.nil,h⟩
def Zg(a:PE X e te)(b:PA X es t)(c:starEach (e :: es) X.env=(false,eval e X.env):: starEach es X.env:=by rfl):PA X (e :: es) (PH te t):=by
 intro pos O s σ H Q I h;rw[c];show wpAny _ _ (spliced<|(false,eval e X.env):: backTo pos (starEach es X.env)) _ _ s;refine Calls.spliced_cons<|aN (a O s σ H _ I h) λu d⟨x,f,i,j,k⟩=>?_;exact aN (b pos O d σ f _ i k) λus p⟨xs,l,m,n,o⟩=>⟨x :: xs,l,m,.cons j n,o⟩
def EK(t:TA):TE:=λσ H Q=>t σ H λxs a=>xs.length<=sizeLine/\∀p,a p=none->Q (.ref p) (upd a p<|.tup xs)
def EL(t:TA):TE:=λσ H Q=>t σ H λxs a=>xs.length<=sizeLine/\∀p,a p=none->Q (.ref p) (upd a p<|.lst xs)
def Zh{d}(h:PA X es t):PE X (.Tuple es d pos) (EK t):=by
 intro O s σ H Q I f;refine wpAny_Tuple_spliced (aN (h pos O s σ H _ I f) λus a⟨xs,i,c,r,z,q⟩=>⟨by rwa[<-r.length],?_⟩);have j:=c.aF.fresh<|Am _;refine⟨.ref a.heap.objs.size,upd i a.heap.objs.size<|.tup xs,c.laid (λb u e=>Ae _ e) (Am _) ?_,rfl,q _ j⟩;exact⟨z,us,r,⟨_,Ao _ rfl,rfl,_,rfl⟩⟩
def Zi(h:PA X es t):PE X (.List es pos) (EL t):=by
 intro O s σ H Q I d;refine wpAny_List_spliced (aN (h pos O s σ H _ I d) λus a⟨xs,f,c,r,z,q⟩=>⟨by rwa[<-r.length],?_⟩);have i:=c.aF.fresh<|Am _;refine⟨.ref a.heap.objs.size,upd f a.heap.objs.size<|.lst xs,c.laid (λb u e=>Ae _ e) (Am _) ?_,rfl,q _ i⟩;exact⟨z,us,0,r,Ao _ rfl⟩
end
abbrev Sp:=List V->Hp->VK->XK->Prop
abbrev jJ:=List Env->Hp->Shared->XK->Î
structure mD(P:Program)(w:World)(K:aa)(mg:Ò)(Z:Heap)(A:Around)(outer:List Env)(s:Shared)(H:Hp):Prop where
 frames:A.frames=some outer
 mod:xz K mg Z
 bs:∀b o,Z.get? b=some o->s.heap.get? b=some o/\H b=none
 jH:Z.objs.size<=s.heap.objs.size
 cF:s.heap.FunFrames Z outer
 lJ:∀b∈dF outer,H b=none
 aF:cg P w H s.heap
 bare:AllBare s.gens
def CE(outer:List Env)(P:Program)(w:World)(H:Hp)(s:Shared)(Q:VK)(u:Value)(s':Shared):Prop:=
 ∃v H',s'.os=s.os/\AllBare s'.gens/\Un (dF outer) [] H H' s.heap s'.heap/\cg P w H' s'.heap/\fg v u/\Q v H'
def CR(CX:jJ)(outer:List Env)(P:Program)(w:World)(H:Hp)(s:Shared)(Q:VK)(E:XK)(r:Result)(s':Shared):Prop:=
 match r with
 |.ok (.ret u)=>CE outer P w H s Q u s'
 |.ok _=>False
 |.error e=>CX outer H s E e s'
structure aD(P:Program)(w:World)(K:aa)(mg:Ò)(Z:Heap)(CX:jJ)(k:Nat)(f:Addr)(fd:FuncData)(ps:Ñ)(sp:Sp):Prop where
 len:∀vs H Q E,sp vs H Q E->vs.length=ps.length
 run:∀A outer s H args us vs Q E,bv k A->mD P w K mg Z A outer s H->BindsTo s fd args (ps.zip us)->az vs us->sp vs H Q E ->
  codeAny (model P w) A (.call (.ref f) args) (CR CX outer P w H s Q E) s
def aD.mono{P:Program}{w:World}{K:aa}{mg:Ò}{Z:Heap}{CX:jJ}{j k:Nat}{f:Addr}{b:FuncData}{ps:Ñ}{sp:Sp}(F:aD P w K mg Z CX j f b ps sp)(h:j<=k):
  aD P w K mg Z CX k f b ps sp:=⟨F.len,λA a s H args us c Q E d=>F.run A a s H args us c Q E<|d.mono h⟩
variable{sp:Sp}{ps:Ñ}{fd:FuncData}{CX:jJ}{Z:Heap}{mg:Ò}
def aD.imp{k:Nat}{f:Addr}{b:Sp}(F:aD P w K mg Z CX k f fd ps sp)
  (h:∀vs H Q E,b vs H Q E->sp vs H Q E):aD P w K mg Z CX k f fd ps b:=
 ⟨λvs H Q E q=>F.len vs H Q E<|h _ _ _ _ q,λA a s H args us vs Q E c d e i j=>F.run A a s H args us vs Q E c d e i<|h _ _ _ _ j⟩
def be.uR(I:be X O σ H s):mD X.U X.w X.K X.mg X.Z X.A X.stack s H:=
 ⟨I.ok.frames,I.ok.mod,I.bs,By I.ok.jH I.sz,I.stack,I.d8,I.aF,I.bare⟩
def be.after{Q:VK}(I:be X O σ H s)(h:CE X.stack X.U X.w H s Q u s'):EP X O σ Q u s':=by
 obtain⟨v,H',os,a,un,c,r,q⟩:=h;obtain⟨f,g,d,t,e⟩:=s';obtain rfl:e=s.os:=os;exact⟨v,H',I.call un c a (λb z=>absurd z<|by simp),r,q⟩
def PR(sp:Sp)(a:List V)(E:XK)(t:TA):TE:=λσ H Q=>t σ H λb c=>sp (b++a) c Q E
def ma(K:aa)(fd:FuncData)(ps:Ñ)(a:Ó):Prop:=
 ∀s us,K.In s.heap->(us++a).length=ps.length->BindsTo s fd ⟨us,[]⟩ (ps.zip<|us++a)
def ma.all(h:∀us:Ó,us.length=ps.length->bindArgs fd ⟨us,[]⟩=pure (ps.zip us)):ma K fd ps []:=λs us _ a=>by
 rw[Be]at a ⊢;exact .of_eq<|h us a
def p9(CX:jJ)(X:Cx)(E:XK):Prop:=∀O σ H s e s',be X O σ H s->CX X.stack H s E e s'->X.xe e s'
variable{apos:Pos}{ds:Ó}{mE vs:List V}
section
variable{k:Nat}{f C:Addr}{E:XK}{m:Str}{p pos:Pos}{o:Expr}{t:TA}
theorem Zj{Q:VK}(F:aD X.U X.w X.K X.mg X.Z CX k f fd ps sp)(c:bv k X.A)(d:ma X.K fd ps ds)(hd:az mE ds)(i:p9 CX X E)
  (I:be X O σ H s) (r:az vs us) (h:sp (vs++mE) H Q E):ar X (call (.ref f) us) (EP X O σ Q) X.xe s:=by
 have b:=r.append hd;have j:(us++ds).length=ps.length:=by rw[<-b.length];exact F.len _ _ _ _ h
 refine RT<|JK (F.run X.A X.stack s H ⟨us,[]⟩ (us++ds) (vs++mE) Q E c I.uR (d s us I.fh j) b h) λr s' a=>?_;cases r with
 |error e=>exact i O σ H s e s' I a
 |ok l=>
  cases l with
  |ret u=>exact I.after a
  |next=>exact False.elim a
  |brk=>exact False.elim a
  |cont=>exact False.elim a
def Zk(F:aD X.U X.w X.K X.mg X.Z CX k f fd ps sp)(b:bv k X.A)(c:Gl X x)(d:X.mg x=some (.ref f))(i:PySem.W.keepIn X.K (.ref f)=true)(j:ma X.K fd ps ds)(hd:az mE ds)(l:p9 CX X E)
  (m:PA X (e :: es) t) (n:(x == ("__debug__" : Str))=false:=by decide) (o:starEach (e :: es) X.env=(false,eval e X.env):: starEach es X.env:=by rfl) (u:(backTo pos<|starEach es X.env).any (·.1)=false:=by rfl):
  PE X (.Call (.Name x p) (e :: es) [] pos) (PR sp mE E t):=by
 intro O s σ H Q I h;refine JR<|uG I c d ?_ n;refine PySem.W.callWith_K I.ok.mod.sy i (aN (m pos O s σ H _ I h) λus v⟨vs,w,a,r,q⟩=>⟨a.fh,?_⟩) o u;exact Zj F b j hd l a r q
end
variable{kws:List Keyword}{gV:List V->List V->List V}
structure ak(N P:Ñ)(sc:Scope):Prop where
 kind:sc.kind=.function
 co:sc.isCoroutine=false
 gen:sc.isGenerator=false
 nd:N.Nodup
 pre:N.take P.length=P
 par:∀x∈P,sc.names.lookup x=some .local\/sc.names.lookup x=some .cell
 ii:∀y∈sc.names,y.2 ≠ .free
theorem PU{kindOf:Str->Option NameKind}{x:Str}:∀{a}{m},(∀v,(x,v)∉a)->bindL kindOf a m x=m x
 |[],_,_=>rfl
 |(n,v):: r,m,h=>by
  unfold bindL;rw[PU λw b=>h w<|Ak _ b]
  split
  ·have:x≠n:=by rintro rfl;exact h v Ag
   simp[this]
  ·rfl
theorem PV{kindOf:Str->Option NameKind}{x:Str}:∀{a}{m},(∀v,(x,v)∉a)->bindC kindOf a m x=m x
 |[],_,_=>rfl
 |(n,v):: r,m,h=>by
  unfold bindC;rw[PV λw b=>h w<|Ak _ b]
  split
  ·rfl
  ·have:x≠n:=by rintro rfl;exact h v Ag
   simp[this]
theorem PY{kindOf:Str->Option NameKind}{x:Str}{v:Value}:∀{P:Ñ}{vs:Ó}{i:Nat}{m:Ò},P.Nodup->P[i]?=some x->vs[i]?=some v->kindOf x=some .local ->
  bindL kindOf (P.zip vs) m x=some v
 |[],_,_,_,_,h,_,_=>by simp at h
 |_ :: _,[],_,_,_,_,h,_=>by simp at h
 |p :: P,w :: vs,0,m,nd,a,b,c=>by
  simp at a b;subst a;subst b;show bindL kindOf ((p,w):: P.zip vs) m p=_;unfold bindL;rw[PU λv d=>(Bk.mp nd).1 (UG d).1,BP c];simp
 |p :: P,w :: vs,i+1,m,nd,a,b,c=>by
  show bindL kindOf ((p,w):: P.zip vs) m x=_;unfold bindL;exact PY (i:=i) (Bk.mp nd).2 (by simpa using a) (by simpa using b) c
theorem PZ{kindOf:Str->Option NameKind}{x:Str}{v:Value}:∀{P:Ñ}{vs:Ó}{i:Nat}{m:Ò},P.Nodup->P[i]?=some x->vs[i]?=some v->kindOf x≠some .local ->
  bindC kindOf (P.zip vs) m x=some v
 |[],_,_,_,_,h,_,_=>by simp at h
 |_ :: _,[],_,_,_,_,h,_=>by simp at h
 |p :: P,w :: vs,0,m,nd,a,b,c=>by
  simp at a b;subst a;subst b;show bindC kindOf ((p,w):: P.zip vs) m p=_;unfold bindC;rw[PV λv d=>(Bk.mp nd).1 (UG d).1,BK c];simp
 |p :: P,w :: vs,i+1,m,nd,a,b,c=>by
  show bindC kindOf ((p,w):: P.zip vs) m x=_;unfold bindC;exact PZ (i:=i) (Bk.mp nd).2 (by simpa using a) (by simpa using b) c
def jp(N:Ñ)(vs:List V):St:=vs.map some++replicate (N.length-vs.length) none
def fq(CX:jJ)(P:Program)(w:World)(K:aa)(mg:Ò)(Z:Heap)(N:Ñ)(qual:Str)(scope:Scope)(f:Addr)(cd:Value)(A:Around)(outer:List Env)(s:Shared)(H:Hp)(E:XK):Cx where
 U:=P
 w:=w
 K:=K
 mg:=mg
 Z:=Z
 A:=A.deeper<|envOfC qual scope s.heap.objs.size f cd
 N:=N
 æ:=s
 ç:=H
 env:=envOfC qual scope s.heap.objs.size f cd
 outer:=outer
 stack:=envOfC qual scope s.heap.objs.size f cd :: outer
 ex:=[]
 calm:=true
 fn:=λ_=>true
 pn:=[]
 xe:=λe s'=>wpAny (model P w) (A.deeper<|envOfC qual scope s.heap.objs.size f cd) (leaving (envOfC qual scope s.heap.objs.size f cd) e) (λ_ qb=>CX outer H s E e qb) (λe' qb=>CX outer H s E e' qb) s'
def P0{a:Scope}(h:a.names.lookup x=some .cell):∃c,(cellsFrom n a.names []).lookup x=some c:=by
 have q:=JV a.names n []<|.inl h;exact Ez.mp q
variable{outer:List Env}{scope:Scope}{qual:Str}
theorem Zm{f:Addr}{o:Value}{D:Shared}{E:XK}
  (S:ak N ps scope) (hd:A.handled=none) (j:mD P w K mg Z A outer s H) (O:vs.length=ps.length) (r:az vs us)
  (x:InCallC s s.heap.objs.size (bindL (envOfC qual scope s.heap.objs.size f o).kindOf (ps.zip us) λ_=>none) (cellsFrom (s.heap.objs.size+1) scope.names []) (bindC (envOfC qual scope s.heap.objs.size f o).kindOf (ps.zip us) λ_=>none) D):
  be (fq CX P w K mg Z N qual scope f o A outer s H E) [] (jp N vs) H D:=by
 have Q:ps.length<=N.length:=by have:=BZ List.length S.pre;rw[Bh]at this;omega
 obtain⟨B,T,rfl,G⟩:=x.done;have C:∀b:Addr,b∉(fq CX P w K mg Z N qual scope f o A outer s H E).ex:=λb z=>absurd (show b∈([]:List Addr)from z) (by simp);refine⟨⟨j.mod,S.kind,rfl,rfl,Am _,λy z c B d=>?_,λy l=>?_,λy c _ h=>?_,λ_=>hd,Around.frames_deeper j.frames,.inr ⟨rfl,rfl⟩,λb z=>absurd z<|C b,j.bs,j.jH,λb _ _=>C b,λb z=>absurd z<|C b,j.cF,j.lJ⟩,
  rfl,j.bare,Un.kept G,⟨_,x.toInCall.ns,λi y v B d U=>?_⟩,λy c h=>⟨_,x.cell y c h⟩,j.aF.fresh<|Am _,λy c h=>?_,λp m=>absurd (show p∈([]:Ð)from m) (by simp),j.aF.kept G,?_⟩
 ·exact name_of_addr x.apart (DG B)<|DG d
 ·have l:scope.names.lookup y=some .cell\/scope.names.lookup y=some .free:=l
  obtain l|l:=l
  ·exact P0 l
  ·exact absurd rfl (S.ii _<|DG l)
 ·exact Bz<|x.above y c<|DG h
 ·have t:i<vs.length:=by
   unfold jp at d
   by_cases t:i<vs.length
   ·exact t
   ·rw[Ba<|by simpa using t]at d;rw[Fb]at d
    split at d<;>cases d
  have L:vs[i]?=some v:=by
   unfold jp at d;rw[Aq (by simpa using t),Ah]at d;cases e:vs[i]? with
   |none=>rw[e]at d;cases d
   |some a=>rw[e]at d;cases d;rfl
  obtain⟨u,I,M⟩:=r.get L;have m:ps[i]?=some y:=by
   rwa[<-S.pre,Ee<|(by omega)]
  have J:ps.Nodup:=by rw[<-S.pre];exact S.nd.sublist<|List.take_sublist _ _
  refine⟨u,M,?_⟩
  obtain k|k:=S.par y (At m)
  ·exact .inl ⟨k,PY J m I k⟩
  ·obtain⟨c,e⟩:=P0 (n:=s.heap.objs.size+1) k;refine .inr ⟨.inl k,c,e,?_⟩;have q:=x.cell y c e;rwa[PZ J m I<|by show scope.names.lookup y≠_;rw[k];decide]at q
 ·exact j.aF.fresh<|Bz<|x.above y c<|DG h
 ·unfold jp;show _=N.length;rw[Ad,Aa,Fk];omega
variable{j5:Array (Option Value)}{params:Arguments}
theorem P2{k:Nat}{f:Addr}{p kV h pm c ct G:Value}{z L:Option Addr}
     (lk:K.lookup f=some ⟨G,L,.func<|PySem.W.fnOf name qual params body scope p kV h pm z c ct,j5⟩) (M:PySem.W.codeIn K c qual=true) (S:ak N ps scope)
  (len:∀vs H Q E,sp vs H Q E->vs.length=ps.length)
  (O : ∀(A : Around)(outer : List Env)(s : Shared)(H : Hp)(vs : List V)(Q : VK)(E : XK), bv k (A.deeper<|envOfC qual scope s.heap.objs.size f c) → sp vs H Q E →
   ∃t,ji (fq CX P w K mg Z N qual scope f c A outer s H E) body t/\t {nx:=λ_ H'=>Q .non H',rt:=Q} (jp N vs) H):
  aD P w K mg Z CX (k+1) f (PySem.W.fnOf name qual params body scope p kV h pm z c ct) ps sp:=by
 refine⟨len,λA outer s H args us vs Q E j i T r B=>?_⟩;have U:=len _ _ _ _ B;have C:K.In s.heap:=i.mod.sy.keeps λb o e=>(i.bs b o e).1;have l:s.heap.NoLimit:=i.mod.nolimit.keeps λb o e=>(i.bs b o e).1;have Y:∀y∈ps.zip us,scope.names.lookup y.1=some .local\/(scope.names.lookup y.1=some .cell/\((cellsFrom (s.heap.objs.size+1) scope.names []).lookup y.1).isSome=true):=λ⟨n,v⟩hy=>by
  obtain q|q:=S.par n (UG hy).1
  ·exact .inl q
  ·exact .inr ⟨q,JV _ _ _<|.inl q⟩
 refine codeAny_call_function j.depth (C _ _ lk) rfl S.co S.gen rfl (PySem.W.codeRec_of C M) (T _ _ _ _ ?_);refine wpAny_newFunctionEnv_cells S.kind Y λÖ he D x=>?_;subst he;refine⟨l.keeps x.toInCall.keep,codeAny_func ?_⟩;obtain⟨t,ht,hq⟩:=O A outer s H vs Q E (j.deeper _) B;have I:be (fq CX P w K mg Z N qual scope f c A outer s H E) [] (jp N vs) H D:=Zm S j.hd i U r x;refine CT (ht [] D (jp N vs) H _ I hq) (λfl s' d=>?_) λe s' d=>d;have fin:∀{a:St}{H':Hp}{v:V}{u:Value},be (fq CX P w K mg Z N qual scope f c A outer s H E) [] a H' s'->fg v u->Q v H'->CE outer P w H s Q u s':=
  λ{a H' v u}J m q=>⟨v,H',J.os,J.bare,J.Z,J.aF,m,q⟩
 cases fl with
 |ret u=>
  obtain⟨v,a,H',J,m,q⟩:=d;exact fin J m q
 |next=>
  obtain⟨a,H',J,q⟩:=d;exact fin (v:=V.non) (u:=Value.none) J rfl q
 |brk=>
  obtain⟨_,_,_,q⟩:=d;exact False.elim q
 |cont=>
  obtain⟨_,_,_,q⟩:=d;exact False.elim q
variable{r:List V->Hp->VK->Prop}
section
variable{p pos:Pos}{t:TA}{id T:String}
def yT(r:List V->Hp->VK->Prop)(t:TA):TE:=λσ H Q=>t σ H λvs a=>r vs a Q
def Zn(a:fE X (.builtin id) r)(b:Gl X x)(c:X.mg x=none)(d:bootBuiltins x=some (.builtin id))(f:PA X (e :: es) t)(i:x ≠ "__name__":=by decide)(j:(x == ("__debug__" : Str))=false:=by decide)
  (k:starEach (e :: es) X.env=(false,eval e X.env):: starEach es X.env:=by rfl) (l:(backTo pos<|starEach es X.env).any (·.1)=false:=by rfl):PE X (.Call (.Name x p) (e :: es) [] pos) (yT r t):=by
 intro O s σ H Q I h;refine JR<|oD I b c d ?_ i j;exact PyProof.Rows.callWith_builtin1 (aN (f pos O s σ H _ I h) λus m⟨vs,n,o,q,u⟩=>a O m σ n vs us Q o q u) k l
def Zo(a:fE X (.type T) r)(b:Gl X x)(c:X.mg x=none)(d:bootBuiltins x=some (.type T))(f:PA X (e :: es) t)(i:x ≠ "__name__":=by decide)(j:(x == ("__debug__" : Str))=false:=by decide)
  (k:starEach (e :: es) X.env=(false,eval e X.env):: starEach es X.env:=by rfl) (l:(backTo pos<|starEach es X.env).any (·.1)=false:=by rfl):PE X (.Call (.Name x p) (e :: es) [] pos) (yT r t):=by
 intro O s σ H Q I h;refine JR<|oD I b c d ?_ i j;exact IV (aN (f pos O s σ H _ I h) λus m⟨vs,n,o,q,u⟩=>a O m σ n vs us Q o q u) k l
end
end L2
namespace HT
open PySem PyProof.Rows
variable{E:Î}{U:Program}
section
variable{w:World}{A:Around}{s:Shared}
def gG(n d:Nat):Option Int->Nat
 |none=>d
 |some v=>if v<0 then(v+(n:Int)).toNat else min v.toNat n
def c7(n d:Nat):gG n d none=d:=rfl
theorem eF(n d k:Nat):gG n d (some (k:Int))=min k n:=by
 show(if(k:Int)<0 then((k:Int)+(n:Int)).toNat else min (k:Int).toNat n)=min k n;rw[BK (by omega),Bm]
end
end HT
namespace L2
open PySem PySem.Spec PyProof.Rows
abbrev TO:=St->Hp->(Option Int->Hp->Prop)->Prop
def PO(X:Cx)(e:Option Expr)(t:TO):Prop:=
 ∀O s a H Q,be X O a H s->t a H Q ->
  ar X (evalPart e X.env) (λu c=>∃o b,be X O a b c/\IsPart u o/\Q o b) X.xe s
def Zq:TO:=λ_ H Q=>Q none H
def Zr(t:TE):TO:=λa H Q=>t a H λx b=>∃i,x=.int i/\Q (some i) b
variable{X:Cx}{r:V->Option Int->Option Int->Hp->VK->Prop}
section
variable{e:Expr}{te:TE}{lo hi:Option Expr}{tl th:TO}{pos p2:Pos}
def Zt:PO X none Zq:=by
 intro O s a H Q I h;rw[evalPart_none];exact BL ⟨none,H,I,.none,h⟩
def Zu(h:PE X e te):PO X (some e) (Zr te):=by
 intro O s a H Q I b;rw[evalPart_some];refine aN (h O s a H _ I b) λu k⟨x,c,d,f,j⟩=>?_;obtain⟨i,rfl,q⟩:=j;obtain⟨t,rfl⟩:=f;exact⟨some i,c,d,.int i t,q⟩
def EV(X:Cx)(r:V->Option Int->Option Int->Hp->VK->Prop):Prop:=
 ∀O s a H x v b c lo hi d Q,be X O a H s->fg x v->s.heap.IsSliceOf d b c .none->IsPart b lo->IsPart c hi->r x lo hi H Q ->
  ∃T id,typeLookup (.type T) "__getitem__" = pure (some<|.builtin id)/\s.TypeIs v T/\ar X (getItem v<|.ref d) (EP X O a Q) X.xe s
def Zv(r:V->Option Int->Option Int->Hp->VK->Prop)(te:TE)(tl th:TO):TE:=λa H Q=>te a H λx b=>tl a b λl c=>th a c λu d=>r x l u d Q
def Zw(j:EV X r)(k:PE X e te)(m:PO X lo tl)(n:PO X hi th):PE X (.Subscript e (.Slice lo hi none p2) pos) (Zv r te tl th):=by
 intro O s c H Q I h;refine Subscript_<|aN (k O s c H _ I h) λv o ⟨x,p,t,w,y⟩=>?_;refine wpAny_Slice<|aN (m O o c p _ t y) λd z ⟨l,A,B,C,D⟩=>aN (n O z c A _ B D) λf a ⟨u,i,E,G,J⟩=>?_;rw[evalPart_none];refine BL ?_;have L:be X O c i {a with heap:=a.heap.push {cls:= .type "slice",data:= .fields #[d,f,.none]}}:=E.kept λb Y q=>Ae _ q;obtain⟨T,id,M,N,U⟩:=j O {a with heap:=a.heap.push {cls:= .type "slice",data:= .fields #[d,f,.none]}} c i x v d f l u a.heap.objs.size Q L w (Heap.IsSliceOf.new ..) C G J;show ar X (subscriptTail e (.Slice lo hi none p2) v<|.ref a.heap.objs.size) (EP X O c Q) X.xe {a with heap:=a.heap.push {cls:= .type "slice",data:= .fields #[d,f,.none]}};exact tail_any N M U<|by with_unfolding_all rfl
def dR(xs:List V)(lo hi:Option Int):List V:=(xs.drop<|HT.gG xs.length 0 lo).take<|HT.gG xs.length xs.length hi-HT.gG xs.length 0 lo
theorem Zx(xs:List V)(lo hi:Option Int):(dR xs lo hi).length<=xs.length:=by
 unfold dR;rw[Bh,Dd];omega
end
def oG(n:Nat)(i:Int):Option Nat:=if 0<=i then(if i<n then some i.toNat else none)else if -(n:Int)<=i then some (i+n).toNat else none
def fG{α:Type}(xs:List α)(i:Int):Option α:=(oG xs.length i).bind λj=>xs[j]?
variable{j n:Nat}{i:Int}
theorem Zy(h:oG n i=some j):seqIndex? i n=some j/\j<n/\-(n:Int)<=i/\i<n:=by
 unfold oG at h
 by_cases b:0<=i
 ·rw[BP b]at h
  by_cases a:i<n
  ·rw[BP a]at h;have e:=Option.some.inj h;exact⟨by rw[seqIndex_of b a,e],(by omega),(by omega),a⟩
  ·rw[BK a]at h;cases h
 ·rw[BK b]at h
  by_cases a:-(n:Int)<=i
  ·rw[BP a]at h;have e:=Option.some.inj h;exact⟨by rw[seqIndex_neg (by omega) a,e],(by omega),a,(by omega)⟩
  ·rw[BK a]at h;cases h
theorem EW{α:Type}{xs:List α}{v:α}(h:fG xs i=some v):∃j,seqIndex? i xs.length=some j/\xs[j]?=some v/\j<xs.length/\-(xs.length:Int)<=i/\i<xs.length:=by
 unfold fG at h;cases e:oG xs.length i with
 |none=>rw[e]at h;cases h
 |some j=>
  rw[e]at h;obtain⟨a,b,c,d⟩:=Zy e;exact⟨j,a,h,b,c,d⟩
theorem oH{α:Type}{xs:List α}{v:α}(h:xs[j]?=some v):fG xs (j:Int)=some v:=by
 have a:j<xs.length:=(Ac.mp h).1;have e:oG xs.length (j:Int)=some j:=by
  unfold oG;rw[BP (by omega),BP<|(by omega)];simp
 unfold fG;rwa[e]
theorem Zz{α:Type}(xs:List α)(v:α):fG (xs++[v]) (-1)=some v:=by
 have a:(xs++[v]).length=xs.length+1:=by simp
 have e:oG (xs++[v]).length (-1)=some xs.length:=by
  unfold oG;rw[a,BK (by decide),BP<|(by omega)]
  congr 1
  omega
 unfold fG;rw[e];show(xs++[v])[xs.length]?=some v;simp
def P4(b:Expr):Prop:=∀o i,subscripted b false o i=operate [o,i] (getItem o i)
def uU(X:Cx)(r:R2):Prop:=
 ∀value slice O s a H x y v u Q,be X O a H s->fg x v->fg y u->r x y H Q ->
  subscripted slice false v u=operate [v,u] (getItem v u)->ar X (subscriptTail value slice v u) (EP X O a Q) X.xe s
def uV(X:Cx)(id:String)(r:V->List V->Hp->VK->Prop):Prop:=
 ∀O s a H x b v c Q,be X O a H s->fg x v->az b c->r x b H Q ->
  ar X (call (.builtin id)<|v :: c) (EP X O a Q) X.xe s
variable{u v:Value}{x:V}{s:Shared}{A:Around}{T:String}{H:Hp}{σ:St}{O:Ð}{name:Str}{es:Ô}
section
variable{a b:Expr}{ta tb:TE}{pos:Pos}
def ZA{r:R2}(c:uU X r)(d:PE X a ta)(e:PE X b tb)(f:P4 b):PE X (.Subscript a b pos) (yP r ta tb):=by
 intro O s σ H Q I h;exact Subscript_<|pW d e I h λv u i x y j k l m q=>c a b O i σ j x y v u Q k l m q<|f _ _
def EX(K:aa):R2:=λx y H Q=>∃p a i v,x=.ref p/\y=.int i/\aj K H p a/\fG a i=some v/\Q v H
def EZ(K:aa):R2:=λx y H Q=>∃p a i v,x=.ref p/\y=.int i/\aS K H p a/\fG a i=some v/\Q v H
def E1:R2:=λx y H Q=>∃z i c,x=.str z/\y=.int i/\z.length<=sizeLine/\fG z.cps.toList i=some c/\Q (.str ⟨#[c]⟩) H
theorem cL:uU X (EX X.K):=by
 intro value slice O s σ H x y v u Q I k l h d;obtain⟨p,G,i,z,rfl,rfl,m,n,q⟩:=h;cases k;obtain⟨t,rfl⟩:=l;obtain⟨o,r,b,J⟩:=I.list m;obtain⟨j,a,A,L,B,C⟩:=EW n;obtain⟨w,e,D⟩:=r.get A;have E:=r.length;have M:=uP;have fin:EP X O σ Q w s:=⟨z,H,I,D,q⟩
 by_cases f:0<=i
 ·have c:i.toNat=j:=by
   rw[seqIndex_of f C]at a;exact Option.some.inj a
  exact item_listR b.isList f (by omega) (by rw[c];simpa using e) fin d
 ·have c:(i+(o.toArray.size:Int)).toNat=j:=by
   rw[seqIndex_neg (by omega) B]at a;rw[Aw,<-E];exact Option.some.inj a
  exact subscriptTail_builtinR b.isList.typeIs slot_list_getitem.lookup
   (wpAny_getItem_list_neg b.isList (by omega) (by rw[Aw]<;>omega) (by omega) (by rw[c];simpa using e) ⟨rfl,fin⟩) d
theorem cv:uU X (EZ X.K):=by
 intro value slice O s σ H x y v u Q I b c h d;obtain⟨p,o,i,z,rfl,rfl,e,f,q⟩:=h;cases b;obtain⟨t,rfl⟩:=c;obtain⟨A,r,a,B⟩:=I.tuple e;obtain⟨j,C,k,D,E,G⟩:=EW f;obtain⟨w,l,m⟩:=r.get k;have n:=r.length;have J:=uP;have fin:EP X O σ Q w s:=⟨z,H,I,m,q⟩;exact subscriptTail_builtinR a.typeIs slot_tuple_getitem.lookup
  (getItem_tuple a (by omega) (by omega) (by rwa[Aw,<-n]) (by simpa using l) ⟨rfl,fin⟩) d
theorem P5:uU X E1:=by
 intro value slice O s σ H x y v u Q I b d h e;obtain⟨z,i,c,rfl,rfl,r,f,q⟩:=h;obtain⟨t,rfl⟩:=b;obtain⟨w,rfl⟩:=d;obtain⟨j,a,k,A,l,m⟩:=EW f;have n:z.cps.toList.length=z.length:=by simp[Str.length]
 rw[n]at a l m;have B:=uP;exact tail_any (typeIs_str s z t) slot_str_getitem.lookup (getItem_str (by
  have o:decide (i < -(2 ^ 63:Int))=false:=BR (by omega);have p:decide (i>=2 ^ 63)=false:=BR (by omega);rw[o,p,Bool.or_false]) (by rw[a];simpa using k) ⟨.str ⟨#[c]⟩,H,I.tok _,⟨_,rfl⟩,q⟩) e
theorem ZC(lo a:Option Int)(n:Nat):(sliceBounds lo a none n).1=((HT.gG n 0 lo:Nat):Int)/\(sliceBounds lo a none n).2.1=((HT.gG n n a:Nat):Int)/\(sliceBounds lo a none n).2.2=1:=by
 refine⟨?_,?_,rfl⟩
 ·cases lo with
  |none=>simp[sliceBounds,HT.gG]
  |some i=>
   simp only[sliceBounds,HT.gG,Option.getD_none,show(1:Int)>0 by decide,DP]
   by_cases h:i<0
   ·simp only[h,DP]<;>omega
   ·simp only[h,CV]<;>omega
 ·cases a with
  |none=>simp[sliceBounds,HT.gG]
  |some i=>
   simp only[sliceBounds,HT.gG,Option.getD_none,show(1:Int)>0 by decide,DP]
   by_cases h:i<0
   ·simp only[h,DP]<;>omega
   ·simp only[h,CV]<;>omega
def ZD(a:Ó)(lo b:Option Int):slicePick a.toArray lo b none=((a.drop<|HT.gG a.length 0 lo).take<|HT.gG a.length a.length b-HT.gG a.length 0 lo).toArray:=by
 obtain⟨c,d,e⟩:=ZC lo b a.toArray.size;unfold slicePick;rw[c,d,e];simp only[sliceRange_one,pick_run,Aw]<;>rfl
def E3(K:aa):V->Option Int->Option Int->Hp->VK->Prop:=λx lo c H Q=>∃a b,x=.ref a/\aj K H a b/\∀p,H p=none->Q (.ref p) (upd H p<|.lst<|dR b lo c)
theorem yU:EV X (E3 X.K):=by
 intro O s σ H x v o p lo e t Q I i j k l h;obtain⟨a,c,rfl,m,q⟩:=h;cases i;obtain⟨u,r,f,n⟩:=I.list m;have d:=r.length;refine⟨"list",_,slot_list_getitem.lookup,f.isList.typeIs,?_⟩;refine wpAny_getItem_list_slice f.isList j k l .none (by simp) ?_ (by rw[Aw]<;>omega);rw[ZD,<-d];refine⟨.ref s.heap.objs.size,_,I.laid (λb w q=>Ae _ q) (Am _) ?_,rfl,q _<|I.aF.fresh<|Am _⟩;exact⟨By (Zx c lo e) n,_,0,(r.drop<|HT.gG c.length 0 lo).take<|HT.gG c.length c.length e-HT.gG c.length 0 lo,Ao _ rfl⟩
def jK:V->Bool
 |.non=>true
 |.bl _=>true
 |.int _=>true
 |.str _=>true
 |_=>false
def cC:V->V->Bool
 |.non,.non=>true
 |.bl a,.bl b=>a == b
 |.bl a,.int b=>(if a then 1 else 0) == b
 |.int a,.bl b=>a == (if b then 1 else 0)
 |.int a,.int b=>a == b
 |.str a,.str b=>a == b
 |_,_=>false
theorem P6{y:V}(e:fg y u)(c:fg x v)(h:jK y=true)(f:jK x=true):SeqAt.EqAt A s u v (cC y x):=by
 cases y with
 |non=>
  cases e;cases x with
  |non=>cases c;exact SeqAt.EqAt.same _
  |bl b=>cases c;exact SeqAt.EqAt.none_bool b
  |int b=>obtain⟨t,rfl⟩:=c;exact SeqAt.EqAt.none_int b t
  |str b=>obtain⟨t,rfl⟩:=c;exact SeqAt.EqAt.none_str b t
  |_=>exact absurd (show false=true from f) Ax
 |bl a=>
  cases e;cases x with
  |non=>cases c;exact SeqAt.EqAt.bool_none a
  |bl b=>cases c;exact SeqAt.EqAt.bool_bool a b
  |int b=>obtain⟨t,rfl⟩:=c;exact SeqAt.EqAt.bool_int a b t
  |str b=>obtain⟨t,rfl⟩:=c;exact SeqAt.EqAt.bool_str a b t
  |_=>exact absurd (show false=true from f) Ax
 |int a=>
  obtain⟨d,rfl⟩:=e;cases x with
  |non=>cases c;exact SeqAt.EqAt.int_none a d
  |bl b=>cases c;exact SeqAt.EqAt.int_bool a d b
  |int b=>obtain⟨t,rfl⟩:=c;exact SeqAt.EqAt.int_int a d b t
  |str b=>obtain⟨t,rfl⟩:=c;exact SeqAt.EqAt.int_str a d b t
  |_=>exact absurd (show false=true from f) Ax
 |str a=>
  obtain⟨d,rfl⟩:=e;cases x with
  |non=>cases c;exact SeqAt.EqAt.str_none a d
  |bl b=>cases c;exact SeqAt.EqAt.str_bool a d b
  |int b=>obtain⟨t,rfl⟩:=c;exact SeqAt.EqAt.str_int a d b t
  |str b=>obtain⟨t,rfl⟩:=c;exact SeqAt.EqAt.str_str a d b t
  |_=>exact absurd (show false=true from f) Ax
 |_=>exact absurd (show false=true from h) Ax
def ik(x:V)(u:Value):Bool:=match u with
 |.none=>cC .non x
 |.bool b=>cC (.bl b) x
 |.int i _=>cC (.int i) x
 |.str z _=>cC (.str z) x
 |_=>false
theorem P7{y:V}(r:fg y u)(f:jK y=true):ik x u=cC y x:=by
 cases y with
 |non=>cases r;rfl
 |bl b=>cases r;rfl
 |int i=>obtain⟨t,rfl⟩:=r;rfl
 |str z=>obtain⟨t,rfl⟩:=r;rfl
 |_=>exact absurd (show false=true from f) Ax
theorem uW{x:V}:∀{xs}{a},az xs a->xs.all jK=true->a.any (ik x)=xs.any λy=>cC y x
 |_,_,.nil,_=>rfl
 |y :: xs,u :: a,.cons r t,f=>by
  rw[Gy,Bq]at f;rw[Fj,Fj,P7 r f.1,uW t f.2]
theorem uX{A:Around}{s:Shared}{x:V}{v:Value}(c:fg x v)(d:jK x=true):∀{xs}{b},az xs b->xs.all jK=true->∀u∈b,SeqAt.EqAt A s u v<|ik x u
 |_,_,.nil,_=>λu a=>by cases a
 |y :: xs,u :: b,.cons r t,f=>λe a=>by
  rw[Gy,Bq]at f
  obtain rfl|a:=Al.mp a
  ·rw[P7 r f.1];exact P6 r c f.1 d
  ·exact uX c d t f.2 e a
def j6(x:V)(xs:List V):Bool:=xs.any λy=>cC y x
def P8(K:aa)(neg:Bool):R2:=λx y H Q=>∃p a,y=.ref p/\(aj K H p a\/aS K H p a)/\jK x=true/\a.all jK=true/\Q (.bl (if neg then !j6 x a else j6 x a)) H
def lN:cG X (compareOp .In) (P8 X.K false):=by
 intro O s σ H x y v u Q I f j h;obtain⟨p,l,rfl,a,i,c,q⟩:=h;cases j
 obtain a|a:=a
 ·obtain⟨b,r,d,k⟩:=I.list a;refine SeqAt.in_listAt (ik x) d.isList (λw e=>uX f i r c w<|by simpa using e) ⟨.bl _,H,I,rfl,?_⟩;rwa[show b.toArray.any (ik x)=b.any (ik x) by simp,uW r c]
 ·obtain⟨b,r,d,k⟩:=I.tuple a;refine SeqAt.in_tupleAt (ik x) d (λw e=>uX f i r c w<|by simpa using e) ⟨.bl _,H,I,rfl,?_⟩;rwa[show b.toArray.any (ik x)=b.any (ik x) by simp,uW r c]
def E4:cG X (compareOp .NotIn) (P8 X.K true):=by
 intro O s σ H x y v u Q I f j h;obtain⟨p,l,rfl,a,i,c,q⟩:=h;cases j
 obtain a|a:=a
 ·obtain⟨b,r,d,k⟩:=I.list a;refine SeqAt.notIn_listAt (ik x) d.isList (λw e=>uX f i r c w<|by simpa using e) ⟨.bl _,H,I,rfl,?_⟩;rwa[show b.toArray.any (ik x)=b.any (ik x) by simp,uW r c]
 ·obtain⟨b,r,d,k⟩:=I.tuple a;refine SeqAt.notIn_tupleAt (ik x) d (λw e=>uX f i r c w<|by simpa using e) ⟨.bl _,H,I,rfl,?_⟩;rwa[show b.toArray.any (ik x)=b.any (ik x) by simp,uW r c]
theorem dH:fE X (.builtin "len") (λxs H Q=>∃p ys,xs=[.ref p]/\(aj X.K H p ys\/aS X.K H p ys)/\Q (.int ys.length) H):=by
 intro O s σ H xs j Q I r h;obtain⟨p,ys,rfl,b,q⟩:=h;obtain⟨u,rfl,e⟩:=kw r;cases e;have k:=uP
 obtain b|b:=b
 ·obtain⟨f,c,d,i⟩:=I.list b;have a:=c.length;exact Calls.call_len_list d.isList (by simp only[Aw]<;>omega) ⟨.int ys.length,H,I.tok _,⟨s.toks+1,by rw[Aw,a]⟩,q⟩
 ·obtain⟨f,c,d,i⟩:=I.tuple b;have a:=c.length;exact len_tuple d (by simp only[Aw]<;>omega) ⟨.int ys.length,H,I.tok _,⟨s.toks+1,by rw[Aw,a]⟩,q⟩
theorem E5:fE X (.type "list") (λxs H Q=>∃p ys,xs=[.ref p]/\(aj X.K H p ys\/aS X.K H p ys)/\∀l,H l=none->Q (.ref l) (upd H l<|.lst ys)):=by
 intro O s σ H xs z Q I r h;obtain⟨p,ys,rfl,i,q⟩:=h;obtain⟨u,rfl,y⟩:=kw r;cases y;have fin:∀(c:Ó),az ys c->ys.length<=sizeLine->∀(a:Heap)(d:Nat),(∀b x,s.heap.get? b=some x->a.get? b=some x) ->
   a.get? s.heap.objs.size=some {cls:= .type "list",dict:=none,data:= .seq c.toArray d,slots:=#[]}->EP X O σ Q (.ref s.heap.objs.size) {s with heap:=a}:=λc f j a d k e=>
  ⟨.ref s.heap.objs.size,_,I.laid k (Am _) (show aB X.U X.w _ a _ (.lst ys) from⟨j,c,d,f,e⟩),rfl,q _<|I.aF.fresh<|Am _⟩
 obtain i|i:=i
 ·obtain⟨c,f,t,j⟩:=I.list i;have m:=f.length;obtain⟨o,v,w,n,hd⟩:=t.isList;exact call_list_seq p (.inl rfl) v w hd (λa d k e=>fin c f j a d k e)<|by simp only[Aw]<;>omega
 ·obtain⟨c,f,t,j⟩:=I.tuple i;have m:=f.length;obtain⟨o,v,w,n,hd⟩:=t;exact call_list_seq p (.inr rfl) v w hd (λa d k e=>fin c f j a d k e)<|by simp only[Aw]<;>omega
def mF(K:aa)(T:String)(x:V)(H:Hp):Prop:=match x with
 |.str _=>T = "str"
 |.int _=>T = "int"
 | .ref p=>(T = "list"/\∃a,aj K H p a)\/(T = "tuple"/\∃o,K.lookup p=some o/\o.cls=.type "tuple"/\o.dict=none) \/
   (T = "dict"/\((∃Y,H p=some (.dK Y))\/∃Y,H p=some (.dT Y)))\/(T = "set"/\∃S n,H p=some (.set S n))
 |_=>False
theorem P9(I:be X O σ H s)(r:fg x v)(ty:mF X.K T x H):
  s.TypeIs v T/\∀a,v=.ref a->∃h,s.heap.get? a=some h/\h.dict=none:=by
 cases x with
 |str z=>
  obtain⟨t,rfl⟩:=r;cases (show T = "str" from ty);exact⟨typeIs_str s z t,λ_ e=>nomatch e⟩
 |int i=>
  obtain⟨t,rfl⟩:=r;cases (show T = "int" from ty);exact⟨typeIs_int s i t,λ_ e=>nomatch e⟩
 |ref p=>
  cases r
  obtain⟨rfl,m,k⟩|⟨rfl,o,b,l,hd⟩|⟨rfl,b⟩|⟨rfl,S,n,b⟩:=ty
  ·obtain⟨q,_,j,_⟩:=I.list k;refine⟨j.isList.typeIs,λa e=>?_⟩;cases e;obtain⟨o,n,e,c,hd,_⟩:=j;exact⟨o,e,hd⟩
  ·refine⟨⟨o,I.fh p o b,l⟩,λa e=>?_⟩;cases e;exact⟨o,I.fh _ o b,hd⟩
  ·have z:∃o,s.heap.get? p=some o/\o.ExactDict:=by
    obtain⟨Y,b⟩|⟨Y,b⟩:=b
    ·obtain⟨_,_,_,_,o,_,_,e,d,_⟩:=I.aF p _ b;exact⟨o,e,d⟩
    ·obtain⟨_,_,_,_,o,_,_,e,d,_⟩:=I.aF p _ b;exact⟨o,e,d⟩
   obtain⟨o,e,d⟩:=z;refine⟨⟨o,e,d.1⟩,λa f=>?_⟩;cases f;exact⟨o,e,d.2.1⟩
  ·obtain⟨o,_,_,_,e,d,_⟩:=I.aF p _ b;refine⟨⟨o,e,d.1⟩,λa f=>?_⟩;cases f;exact⟨o,e,d.2.1⟩
 |_=>exact False.elim ty
def E6(K:aa)(T:String)(r:V->List V->Hp->VK->Prop)(b:TE):TE:=λσ H Q=>b σ H λx a=>mF K T x a/\r x [] a Q
def ZE(K:aa)(T:String)(r:V->List V->Hp->VK->Prop)(b:TE)(t:TA):TE:=λσ H Q=>b σ H λx a=>mF K T x a/\t σ a λc d=>r x c d Q
variable{o e:Expr}{to:TE}{t:TA}{apos fu:Pos}{id:String}{r:V->List V->Hp->VK->Prop}
def ZF(d:PlainAttrs T)(slot:Slot T name id)(e:typeOf (.builtin id)=pure (.type "method_descriptor"))(f:uV X id r)(i:PE X o to)
  (j:attributeBase o name X.env (eval o X.env)=eval o X.env:=by rfl) (a:(apos.endLine == fu.line)=true:=by rfl):PE X (.Call (.Attribute o name apos) [] [] fu) (E6 X.K T r to):=by
 intro O s σ H Q I h;refine wpAny_Call_method0_late j a<|aN (i O s σ H _ I h) λv k⟨x,l,b,c,ty,m⟩=>?_;obtain⟨n,p⟩:=P9 b c ty;exact⟨T,id,d,slot,e,n,p,JW rfl (PySem.evalArgs_none<|f O k σ l x [] v [] Q b c .nil m)⟩
def E7(f:PlainAttrs T)(slot:Slot T name id)(i:typeOf (.builtin id)=pure (.type "method_descriptor"))(j:uV X id r)(k:PE X o to)(l:PA X (e :: es) t)
  (m:attributeBase o name X.env (eval o X.env)=eval o X.env:=by rfl)
  (n : ((backTo fu<|starEach (e :: es) X.env).all (λx => !x.1) && (backToKw fu<|keywordEach [] X.env).all (λx => x.1.isSome)
   && decide ((e :: es).length+([]:List Keyword).length+(if([]:List Keyword).isEmpty then 0 else 1)<30))=true:=by rfl)
  (a:(apos.endLine == fu.line)=true:=by rfl) (p:starEach (e :: es) X.env=(false,eval e X.env):: starEach es X.env:=by rfl) (q:(backTo fu<|starEach es X.env).any (·.1)=false:=by rfl):
  PE X (.Call (.Attribute o name apos) (e :: es) [] fu) (ZE X.K T r to t):=by
 intro O s σ H Q I h;refine wpAny_Call_method_late m n a rfl (aN (k O s σ H _ I h) λv u⟨x,w,b,c,ty,y⟩=>?_);obtain⟨z,A⟩:=P9 b c ty;refine⟨T,id,f,slot,i,z,A,?_⟩;have d:=l fu O u σ w _ b y;rw[p]at d ⊢;refine JW (by show(false || (backTo fu<|starEach es X.env).any (·.1))=false;rw[q]<;>rfl)<|PX ?_;exact aN d λB C⟨D,E,G,J,L⟩=>j O C σ E x D v B Q G c J L
end
def qd(X:Cx)(id:String)(r:V->List V->Hp->VK->Prop):Prop:=
 ∀O s σ H x a v b Q,be X O σ H s->fg x v->az a b->r x a H Q ->
  ar X (call (.builtin id)<|v :: b) (EP X O σ Q) X.xe s
variable{us:Ó}{xs:List V}
theorem az.hd(h:az (x :: xs) us):∃u vs,us=u :: vs/\fg x u/\az xs vs:=by
 cases h with
 |cons r t=>exact⟨_,_,rfl,r,t⟩
def az.nl(h:az [] us):us=[]:=by
 cases h;rfl
def az.one(h:az [x] us):∃u,us=[u]/\fg x u:=by
 obtain⟨u,a,rfl,r,t⟩:=h.hd;rw[t.nl];exact⟨u,rfl,r⟩
def az.two{y:V}(h:az [x,y] us):∃u v,us=[u,v]/\fg x u/\fg y v:=by
 obtain⟨u,a,rfl,r,t⟩:=h.hd;obtain⟨v,b,rfl,q,t⟩:=t.hd;rw[t.nl];exact⟨u,v,rfl,r,q⟩
theorem az.zero:∀{us},az [] us->us=[]
 |_,.nil=>rfl
theorem az.dropLast{xs:List V}{us:Ó}(h:az xs us):az xs.dropLast us.dropLast:=by
 induction h with
 |nil=>exact .nil
 |cons r t a=>
  cases t with
  |nil=>exact .nil
  |cons q b=>exact .cons r a
theorem az.eraseIdx:∀{xs}{us}i,az xs us->az (xs.eraseIdx i) (us.eraseIdx i)
 |_,_,_,.nil=> .nil
 |_,_,0,.cons _ t=>t
 |_,_,i+1,.cons r t=> .cons r<|az.eraseIdx i t
theorem ZG{α:Type}(l:List α):l.eraseIdx (l.length-1)=l.dropLast:=by
 induction l with
 |nil=>rfl
 |cons a r c=>
  cases r with
  |nil=>rfl
  |cons b r=>
   have e:(a :: b :: r).length-1=((b :: r).length-1)+1:=by
    have d:(a :: b :: r).length=r.length+2:=rfl;have f:(b :: r).length=r.length+1:=rfl;omega
   rw[e,SX,c]
   all_goals rfl
theorem P'{α:Type}:∀(l:List α)(i:Nat),(l.eraseIdx i).length<=l.length
 |[],_=>Am _
 |_ :: _,0=>Ef _
 |_ :: r,i+1=>Nat.succ_le_succ<|P' r i
variable{t':Nat}{f:Array Value->Array Value}{è:Ó}
section
variable{l b:Addr}{ys zs:List V}
def be.j7{a:Ó}(I:be X O σ H s)(b:H l=some (.lst xs))
  (e:s.heap.get? l=some {cls:= .type "list",data:= .seq è.toArray n}) (c:f è.toArray=a.toArray) (d:az ys a) (h:ys.length<=sizeLine):
  be X O σ (upd H l<|.lst ys) {s with heap:=s.heap.update l<|Obj.mapSeq f,toks:=t'}:=by
 have q:=PySem.IsL.update e f;rw[c]at q;refine I.write (by rw[b];exact trivial) (.inl rfl) (λk u i j=>(Cb s.heap (Obj.mapSeq f)<|CG i).trans j) ⟨_,q⟩ ?_;exact⟨h,a,_,d,q⟩
def be.j8(I:be X O σ H s)(a:az ys è)(b:ys.length<=sizeLine):
  be X O σ (upd H s.heap.objs.size<|.lst ys) {s with heap:=s.heap.push {cls:= .type "list",data:= .seq è.toArray},toks:=t'}:=
 I.laid (λ_ _ q=>Ae _ q) (Am _) ⟨b,è,0,a,Ao _ rfl⟩
def be.fresh(I:be X O σ H s):H s.heap.objs.size=none:=I.aF.fresh<|Am _
def be.gH(I:be X O σ H s)(a:H l=some (.lst xs)):xs.length<=sizeLine/\∃è n,az xs è/\xs.length=è.length/\s.heap.get? l=some {cls:= .type "list",data:= .seq è.toArray n}:=by
 obtain⟨z,è,n,r,e⟩:=I.aF l _ a;exact⟨z,è,n,r,r.length,e⟩
theorem ZH(h:n<=sizeLine):Builtin.List.listTooLong n=false:=by
 unfold Builtin.List.listTooLong;exact BR<|(by omega)
end
def ZI:V->List V->Hp->VK->Prop:=λx a H Q=>∃l xs y,x=.ref l/\a=[y]/\H l=some (.lst xs)/\xs.length<sizeLine/\Q .non (upd H l<|.lst<|xs++[y])
theorem Qa:qd X "list.append" ZI:=by
 intro O s σ H x f v us Q I b c h;obtain⟨l,xs,y,rfl,rfl,a,i,q⟩:=h;cases b;obtain⟨u,rfl,d⟩:=c.one;obtain⟨z,è,n,r,j,e⟩:=I.gH a;refine QB F.slot_list_append ⟨_,e,rfl⟩ F.entry_list_append (F.args_list_append_2 _ _) (PySem.list_append l è.toArray n u<|by rw[Aw];omega) ⟨e,?_⟩;refine⟨.non,_,I.j7 a e (by simp) (r.append<|.cons d .nil) ?_,rfl,q⟩;rw[Ad,Cz];omega
def ZJ:V->List V->Hp->VK->Prop:=λx c H Q=>∃l b xs a,x=.ref l/\c=[.ref b]/\H l=some (.lst xs)/\H b=some (.lst a)/\xs.length+a.length<=sizeLine/\Q .non (upd H l<|.lst<|xs++a)
theorem ZK:qd X "list.extend" ZJ:=by
 intro O s σ H x w v us Q I f i h;obtain⟨l,b,xs,y,rfl,rfl,d,j,A,q⟩:=h;cases f;obtain⟨u,rfl,k⟩:=i.one;cases k;obtain⟨z,è,n,r,B,e⟩:=I.gH d;obtain⟨C,a,m,o,D,p⟩:=I.gH j;have c:è.toArray.size+a.toArray.size<=sizeLine:=by rw[Aw,Aw];omega
 have t:¬(!è.toArray.isEmpty && Builtin.List.listTooLong (è.toArray.size+a.toArray.size))=true:=by
  rw[ZH c,VG];exact Ax
 refine QB F.slot_list_extend ⟨_,e,rfl⟩ F.entry_list_extend (F.args_list_extend_2 _ _)
  (AutoSeq1.list_extend_list_list_0 l è.toArray n b a.toArray m t (by rw[Aw];omega)<|(by omega)) ⟨e,p,?_⟩
 refine⟨.non,_,I.j7 d e (by simp) (r.append o) ?_,rfl,q⟩;rw[Ad];omega
def E8:V->List V->Hp->VK->Prop:=λx a H Q=>∃l xs y,x=.ref l/\a=[]/\H l=some (.lst xs)/\xs[xs.length-1]?=some y/\Q y (upd H l<|.lst xs.dropLast)
theorem ZL:qd X "list.pop" E8:=by
 intro O s σ H x m v us Q I b c h;obtain⟨l,xs,y,rfl,rfl,a,d,q⟩:=h;cases b;have f:=c.zero;subst f;obtain⟨z,è,n,r,i,e⟩:=I.gH a;obtain⟨u,o,j⟩:=r.get d;have k:è.toArray[è.toArray.size-1]?=some u:=by
  show è.toArray[è.length-1]?=some u;rwa[<-Bw,<-i]
 refine QB F.slot_list_pop ⟨_,e,rfl⟩ F.entry_list_pop (F.args_list_pop_1 _) (MeetsSeq.list_pop_last l è.toArray n u k<|by rw[Aw];omega) ⟨e,?_⟩;refine⟨y,_,I.j7 a e ?_ r.dropLast ?_,j,q⟩
 ·show è.toArray.eraseIdxIfInBounds (è.toArray.size-1)=è.dropLast.toArray;rw[Aw,PL,ZG]
 ·rw[List.length_dropLast];omega
def ZN:V->List V->Hp->VK->Prop:=λx a H Q=>∃l xs i k y,x=.ref l/\a=[.int i]/\H l=some (.lst xs)/\-(2 ^ 63)<=i/\i<2 ^ 63/\seqIndex? i xs.length=some k/\xs[k]?=some y/\Q y (upd H l<|.lst<|xs.eraseIdx k)
theorem ZO:qd X "list.pop" ZN:=by
 intro O s σ H x A v us Q I b c h;obtain⟨l,xs,i,k,y,rfl,rfl,a,d,f,B,j,q⟩:=h;cases b;obtain⟨u,rfl,m⟩:=c.one;obtain⟨t,rfl⟩:=m;obtain⟨z,è,n,r,o,e⟩:=I.gH a;obtain⟨w,C,p⟩:=r.get j;refine QB F.slot_list_pop ⟨_,e,rfl⟩ F.entry_list_pop (F.args_list_pop_2 _ _)
  (MeetsSeq.list_pop_at l è.toArray n i t k w (fitsIndex_both d f) (by rwa[Aw,<-o]) (by rwa[<-Bw])<|by rw[Aw];omega) ⟨e,?_⟩
 refine⟨y,_,I.j7 a e ?_ (r.eraseIdx k) ?_,p,q⟩
 ·show è.toArray.eraseIdxIfInBounds k=(è.eraseIdx k).toArray;rw[PL]
 ·have:=P' xs k;omega
def E9:R2:=λx y H Q=>∃l b xs a,x=.ref l/\y=.ref b/\H l=some (.lst xs)/\H b=some (.lst a)/\xs.length+a.length<=sizeLine/\∀p,H p=none->Q (.ref p) (upd H p<|.lst<|xs++a)
theorem yW:cG X (binaryOp .Add) E9:=by
 intro O s σ H x y v u Q I c d h;obtain⟨l,b,xs,o,rfl,rfl,f,i,p,q⟩:=h;cases c;cases d;obtain⟨z,è,n,r,t,e⟩:=I.gH f;obtain⟨w,a,A,j,B,k⟩:=I.gH i;refine PySem.P.add_list e k ?_ (by rw[Aw,Aw];omega);have m:è.toArray++a.toArray=(è++a).toArray:=by simp
 rw[m];exact⟨.ref _,_,I.j8 (r.append j) (by rw[Ad];omega),rfl,q _ I.fresh⟩
variable{E:Î}{U:Program}
end L2
namespace Qb
open PySem PySem.W PySem.Calls PyProof.Rows
variable{h:Heap}{P:Params}
theorem ZP:∀ns vs,WellAll P h vs (ns.map WData.int)->IntsAre vs ns:=by
 intro ns
 induction ns with
 |nil=>
  intro vs w;rw[List.map_nil]at w;cases w;exact .nil
 |cons n ns c=>
  intro vs w;rw[Bn]at w;cases w with
  |cons a b=>
   cases a;exact .cons _ _<|c _ b
variable{vals:Ó}{args:List WData}{n:Nat}{l:OpenLaw}
theorem ZQ(j:l.most=some n)
  (f:l.row.toRowW.claim.pre args=true) (k:WellAll P h vals args):
  ∃a vs ns,vals=[Value.ref a]/\args=[WData.list<|ns.map WData.int]/\h.get? a=some {cls:= .type "list",data:= .seq vs.toArray}/\IntsAre vs ns/\ns.length<=n:=by
 have m:=(pre_splitW f).1;have i:l.pre.holds [] {args:=args}=true:=(pre_splitW f).2;obtain⟨d,r,rfl,o,p⟩:=hasAllW_cons m;obtain rfl:=hasAllW_nil p;obtain⟨y,rfl,s⟩:=hasW_list o;obtain⟨ns,rfl⟩:=items_int s;have b:ns.length<=n:=by
  unfold OpenLaw.pre at i;have e:(WTm.not<|.lt (.lit<|.int (n:Int))<|.len<|.arg 0).holds [] {args:=[.list<|ns.map .int]}=true:=by
   have e:=(holds_andW i).1;rwa[j]at e
  have c:=condW_of e<|w_not<|w_lt w_lit<|w_len_list<|w_arg rfl;rw[Aa]at c;refine Nat.le_of_not_lt λq=>?_;have t:(n:Int)<((ns.length:Nat):Int):=(by omega)
  first
   |(rw[BW t]at c;exact absurd c<|(by decide))
   |(simp at c;omega)
 cases k with
 |cons u v=>
  cases v;cases u with
  |list w x=>exact⟨_,_,ns,rfl,rfl,w,ZP ns _ x,b⟩
def ZS(l:OpenLaw)(args:List WData):l.row.toRowW.claim.post args (.bool true) args=true:=
 postW_of
  (show WShape.has [] (.bool true) .bool=true by first|rfl|decide|simp[WShape.has,WShape.arms,WShape.armsAll])
  (show(WTm.eq .res<|.lit<|.bool true).value [] {args:=args,res:=some<|.bool true,after:=args}=some (.bool<|true == true)from w_eq_bool (w_res rfl) w_lit) rfl
variable{YP:World->Heap->Prop}{XP:Ò->Heap->Prop}{loose:Ñ}
def gI{q:Program}{d:DefRec}
  (s:l.most=some n) (t:d.params.defaults=[])
  (call : ∀(w : World)(æ b : Shared)(mg k : Str → Option Value)(h : Addr)(o : Obj)(pm j c : Value)(a : Addr)(vs : List Value)(ns : List Int),
   Ground q loose [] XP w æ mg k b.heap->YP w b.heap ->
   b.heap.get? h=some o->o.data=.func (docDef d.name d.params d.body d.scope pm j c)->b.heap.CodeRec j d.name->mg d.name=some (.ref h) ->
   b.heap.get? a=some {cls:= .type "list",data:= .seq vs.toArray}->IntsAre vs ns->ns.length<=n->b.gens=#[] ->
   codeAny (model l.prog w) callerA (.call (.ref h) ⟨[.ref a],[]⟩) (λr s'=>r=.ok (.ret<|.bool true)/\OldK b.heap s'.heap/\s'.os=b.os/\AllBare s'.gens) b):
  WalkO q loose XP YP l.row.toRowW d [] (λf vs=>PySem.call f vs):=by
 intro w æ b mg k G u h o pm j c v kV x hd y m z A args vals as B p C D E;obtain rfl:v=.none:=Dflts.none m t;obtain rfl:kV=.none:=Dflts.noKw m;obtain⟨a,vs,ns,rfl,rfl,H,e,i⟩:=ZQ s B D;refine enter_call<|JK (call w æ b mg k h o pm j c a vs ns G u x (fd_plain hd) y z H e i A) λr s' I=>?_;obtain⟨rfl,J,L,M⟩:=I;exact⟨.inl ⟨.bool true,.bool true,[],rfl,λ_=>rfl,.bool true,ZS l _,λ_=>⟨List.Pairwise.nil,λ_ N=>(nomatch N)⟩⟩,J,L,M⟩
variable{E:Î}{U:Program}
end Qb
namespace L2
open PySem PySem.Spec PyProof.Rows
theorem Qc:∀{vs}{ns},IntsAre vs ns->az (ns.map V.int) vs
 |_,_,.nil=> .nil
 |_,_,.cons n t h=> .cons ⟨t,rfl⟩<|Qc h
def xy(H:Hp):Prop:=∀b,H b=none\/∃o a,H b=some (.bB o<|.lst a)
variable{ns:List Int}{À:Shared}{sp:Sp}{x:Str}{fd:FuncData}{fa a:Addr}{CX:jJ}{mg:Ò}{K:aa}{w:World}{P:Program}
theorem ZT{y:Ò}{k:Nat}{vs:Ó}
  (C:K.In À.heap) (D:À.heap.Ns mainGlobals mg) (c:À.heap.Ns builtinsNs y) (Q:∀ x:Str,x ≠ "__name__"->y x=bootBuiltins x) (T:À.heap.NoLimit) (U:À.gens=#[])
  (p:À.heap.get? a=some {cls:= .type "list",data:= .seq vs.toArray}) (E:IntsAre vs ns) (hl:ns.length<=sizeLine) (Y:bv k callerA)
  (F:∀Z:Heap,K.In Z->Z.Ns mainGlobals mg->aD P w K mg Z CX k fa fd [x] sp) (va:∀s u,BindsTo s fd ⟨[u],[]⟩ [(x,u)])
  (dG:∀H:Hp,xy H->aj K H a (ns.map V.int)->sp [.ref a] H (λv _=>v=.bl true) λ_ _ _=>False)
  (FD:∀H e s',CX [] H À (λ_ _ _=>False) e s'->False):
  codeAny (model P w) callerA (.call (.ref fa) ⟨[.ref a],[]⟩) (λr s'=>r=.ok (.ret<|.bool true)/\OldK À.heap s'.heap/\s'.os=À.os/\AllBare s'.gens) À:=by
 have G:=Qc E;have FE:=E.length;have core:∀H:Hp,xy H->aj K H a (ns.map V.int)->cg P w H À.heap->(∀b,H b≠none->b=a)->(H a≠none->K.lookup a=none) ->
   codeAny (model P w) callerA (.call (.ref fa) ⟨[.ref a],[]⟩) (λr s'=>r=.ok (.ret<|.bool true)/\OldK À.heap s'.heap/\s'.os=À.os/\AllBare s'.gens) À:=by
  intro H I hS J L hK;have M:∀{b:Addr}{o:Obj},À.heap.get? b=some o->H b=none->(fM À.heap H).get? b=some o:=λe n=>X3 e n;have uS:∀{b:Addr}{o:Obj}{f:Array DictEntry}{i:Nat},À.heap.get? b=some o->o.data=.dict f i->H b=none:=λ{b o f i}e d=>by
   cases q:H b with
   |none=>rfl
   |some u=>
    have A:b=a:=L b (by rw[q];simp);subst A;rw[p]at e;cases e;have d':Data.seq vs.toArray _=Data.dict f i:=d;cases d'
  have t:∀{b:Addr}{m:Ò},À.heap.Ns b m->(fM À.heap H).Ns b m:=λ{b m}⟨o,f,i,e,d,r⟩=>⟨o,f,i,M e<|uS e d,d,r⟩;have N:K.In (fM À.heap H):=λb o e=>M (C b o e)<|by
   cases q:H b with
   |none=>rfl
   |some u=>
    have A:b=a:=L b (by rw[q];simp);subst A;rw[hK<|by rw[q];simp]at e;cases e
  have hM:xz K mg (fM À.heap H):=⟨N,t D,⟨y,t c,Q⟩,let ⟨mc,h1,h2⟩:=T;⟨mc,t h1,h2⟩⟩;have e0:mD P w K mg (fM À.heap H) callerA [] À H:=⟨rfl,hM,λb o e=>X4 e,WD<|X2 _ _,trivial,λb c=>absurd (show b∈([]:List Addr)from c) (by simp),J,.of_eq U⟩;refine JK ((F _ N<|t D).run callerA [] À H ⟨[.ref a],[]⟩ [.ref a] [.ref a] _ _ Y e0 (va À<|.ref a) (.cons rfl .nil)<|dG H I hS) λr s' h=>?_;cases r with
  |error e=>exact(FD H e s' h).elim
  |ok fl=>
   cases fl with
   |next=>exact False.elim h
   |brk=>exact False.elim h
   |cont=>exact False.elim h
   |ret u=>
    obtain⟨v,H',os,j,un,FG,r',q⟩:=h;have q':v=.bl true:=q;subst q';obtain rfl:u=Value.bool true:=r';refine⟨rfl,OldK.of_keep λb o e=>?_,os,j⟩;cases q:H b with
    |none=>exact un.keep b o e q (by intro z;exact absurd (show b∈([]:List Addr)from z)<|by simp)<|by simp
    |some u=>
     obtain z|⟨ob,xs,z⟩:=I b
     ·rw[q]at z;cases z
     ·have z2:=un.dN b ob _ z;obtain⟨O,_⟩:=J b _ z;obtain⟨e2,_⟩:=FG b _ z2;rw[e]at O;cases O;exact e2
 cases B:K.lookup a with
 |some o=>
  have e:=C a o B;rw[p]at e;cases e;refine core (λ_=>none) (λ_=> .inl rfl) (.inr ⟨_,vs.toArray,_,B,rfl,rfl,rfl,by rwa[Aw,FE],by simpa using G⟩) (λb u z=>by have l:(none:Option HO)=some u:=z;cases l) (λb z=>absurd rfl z) λz=>absurd rfl z
 |none=>
  refine core (λb=>if b=a then some (.bB {cls:= .type "list",data:= .seq vs.toArray}<|.lst<|ns.map V.int)else none) (λb=>?_) (.inl<|.inr ⟨{cls:= .type "list",data:= .seq vs.toArray},BP rfl⟩) (λb u z=>?_) (λb z=>?_) λ_=>B
  ·by_cases c:b=a
   ·exact .inr ⟨_,_,BP c⟩
   ·exact .inl<|BK c
  ·by_cases c:b=a
   ·have l:=(BP c).symm.trans z;cases l;subst c;exact⟨p,by rwa[Aa],vs,_,G,p⟩
   ·have l:=(BK c).symm.trans z;cases l
  ·by_cases c:b=a
   ·exact c
   ·exact absurd (BK c) z
variable{YP:World->Heap->Prop}{XP:Ò->Heap->Prop}{loose:Ñ}{n:Nat}{l:PySem.W.OpenLaw}
def mJ{k:Nat}{q:Program}{d:DefRec}{K:Params->aa}{CX:World->jJ}{sp:World->Sp}
  (j:l.most=some n) (m:n<=sizeLine) (p:d.params.defaults=[]) (r:bv k callerA)
  (t:∀(w:World)(h:Heap),YP w h->(K w.params).In h)
  (F : ∀(w : World)(mg : Str → Option Value)(fa : Addr)(h : Heap), (K w.params).In h → h.Ns mainGlobals mg → mg d.name = some (.ref fa) →
   ∃fd:FuncData,(∀(s:Shared)(u:Value),BindsTo s fd ⟨[u],[]⟩ [(x,u)]) /\
    ∀Z:Heap,(K w.params).In Z->Z.Ns mainGlobals mg->aD l.prog w (K w.params) mg Z (CX w) k fa fd [x] (sp w))
  (y:∀(w:World)(H:Hp)(a:Addr)(ns:List Int),ns.length<=n->xy H->aj (K w.params) H a (ns.map V.int)->sp w [.ref a] H (λv _=>v=.bl true) λ_ _ _=>False)
  (z:∀(w:World)(H:Hp)(s:Shared)(e:Value)(s':Shared),CX w [] H s (λ_ _ _=>False) e s'->False):
  PySem.W.WalkO q loose XP YP l.row.toRowW d [] (λf vs=>PySem.call f vs):=by
 refine Qb.gI j p λw N À mg O fa o pm Q A a vs ns G B T hd U C D c b E=>?_;have i:=t w _ B;obtain⟨fd,I,J⟩:=F w mg fa _ i G.T.g C;exact ZT i G.T.g G.T.b G.T.builtins G.T.nolimit E D c (By b m) r J I (λH L M=>y w H a ns b L M) λH e s'=>z w H À e s'
def lP(s:Stmt):Arguments:=match s with
 |.FunctionDef _ a _ _ _ _ _ _ _ _=>a
 |_=>{posonlyargs:=[],args:=[],vararg:=none,kwonlyargs:=[],kw_defaults:=[],kwarg:=none,defaults:=[]}
def gn(s:Stmt):Õ:=match s with
 |.FunctionDef _ _ b _ _ _ _ _ _ _=>b
 |_=>[]
def aP(s:Stmt):Scope:=match s with
 |.FunctionDef _ _ _ _ _ _ a _ _ _=>a
 |_=>{kind:= .function,names:=[],isGenerator:=false,isCoroutine:=false}
abbrev bz:jJ:=λ_ _ _ _ _ _=>False
abbrev E0:XK:=λ_ _ _=>False
variable{X:Cx}
def ka:p9 bz X E0:=λ_ _ _ _ _ _ _ h=>h.elim
structure bo(K:aa)(x qual:Str)(st:Stmt)(f:Addr)(fd:FuncData):Prop where
 ex:∃oc od kV doc pm an bF ct j5,
  fd=PySem.W.fnOf x qual (lP st) (gn st) (aP st) .none kV doc pm an bF ct/\K.lookup f=some ⟨oc,od,.func fd,j5⟩/\PySem.W.codeIn K bF qual=true
 kp:PySem.W.keepIn K (.ref f)=true
variable{Z:Heap}{ps:Ñ}{f:Addr}{st:Stmt}{qual:Str}{j5:Array (Option Value)}{oc:Value}
def bo.ok{N:Ñ}{k:Nat}(F:bo K x qual st f fd)(S:ak N ps<|aP st)(len:∀vs H Q E,sp vs H Q E->vs.length=ps.length)
  (b : ∀a A outer s H vs Q E, bv k (A.deeper<|envOfC qual (aP st) s.heap.objs.size f a) → sp vs H Q E →
   ∃t,ji (fq bz P w K mg Z N qual (aP st) f a A outer s H E).my (gn st) t/\t {nx:=λ_ H'=>Q .non H',rt:=Q} (jp N vs) H):aD P w K mg Z bz (k+1) f fd ps sp:=by
 obtain⟨oc,j,kV,c,pm,l,a,m,j5,rfl,lk,d⟩:=F.ex;refine P2 lk d S len λA outer s H vs Q E e i=>?_;obtain⟨t,h,q⟩:=b a A outer s H vs Q E e i;exact⟨t,h.my,q⟩
def bo.binds(F:bo K x qual st f fd)
  (h:∀kV a pm b c ct d,d.length=ps.length->bindArgs (PySem.W.fnOf x qual (lP st) (gn st) (aP st) .none kV a pm b c ct) ⟨d,[]⟩=pure (ps.zip d)):ma K fd ps []:=by
 obtain⟨oc,e,kV,a,pm,b,c,ct,j5,rfl,lk,i⟩:=F.ex;exact .all<|h kV a pm b c ct
def ZV{e d:Option Addr}{kV a pm b ct:Value}(l:K.lookup f=some ⟨oc,e,.func<|PySem.W.fnOf x qual (lP st) (gn st) (aP st) .none kV a pm d b ct,j5⟩)
  (c:PySem.W.codeIn K b qual=true) (k:PySem.W.keepIn K (.ref f)=true):bo K x qual st f (PySem.W.fnOf x qual (lP st) (gn st) (aP st) .none kV a pm d b ct):=⟨⟨oc,e,kV,a,pm,d,b,ct,j5,rfl,l,c⟩,k⟩
def bH{A B:Prop}(h:B):if false=true then A else B:=by
 rwa[BK Ax]
def cz{A B:Prop}(h:A):if true=true then A else B:=by
 rwa[BP rfl]
def iq{c A B:Prop}[Decidable c](a:c->A)(b:¬ c->B):if c then A else B:=by
 by_cases h:c
 ·rw[BP h];exact a h
 ·rw[BK h];exact b h
def ah(H H':Hp):Prop:=∀b o,H b=some o->H' b=some o
def ah.refl(H:Hp):ah H H:=λ_ _ h=>h
variable{H H2:Hp}
def ah.trans{d:Hp}(a:ah H d)(b:ah d H2):ah H H2:=λc o h=>b c o<|a c o h
variable{H':Hp}
theorem ah.free(e:ah H H'){l:Addr}(h:H' l=Option.none):H l=Option.none:=by
 cases q:H l with
 |none=>rfl
 |some o=>
  rw[e l o q]at h;cases h
def ah.seq{xs:List V}(e:ah H H')(h:aj K H a xs):aj K H' a xs:=by
 obtain(h|⟨o,h⟩)|h:=h
 ·exact .inl<|.inl<|e _ _ h
 ·exact .inl<|.inr ⟨o,e _ _ h⟩
 ·exact .inr h
variable{o:Option V}{u:Value}{y:V}
section
variable{κ:Type} [DecidableEq κ]
def ao(Y:List<|κ×V)(k:κ):Option V:=(Y.find? λa=>decide (a.1=k)).map (·.2)
def putK(Y:List<|κ×V)(k:κ)(v:V):List (κ×V):=
 if(Y.any λa=>decide (a.1=k))=true then Y.map (λa=>if a.1=k then(a.1,v)else a)else Y++[(k,v)]
def gJ{p:κ×V}{r:List (κ×V)}{k:κ}(e:p.1=k):ao (p :: r) k=some p.2:=by simp[ao,Fi,e]
def gK{p:κ×V}{r:List (κ×V)}{k:κ}(e:¬ p.1=k):ao (p :: r) k=ao r k:=by simp[ao,Fi,e]
theorem sO(k:κ):∀Y:List<|κ×V,(Y.any λa=>decide (a.1=k))=(ao Y k).isSome
 |[]=>rfl
 |p :: r=>by
  rw[Fj]
  by_cases e:p.1=k
  ·simp only[gJ e,BW e,Bool.true_or,Option.isSome_some]
  ·rw[gK e,BR e,Bool.false_or];exact sO k r
theorem Qe(k j:κ)(y:V):∀Y:List<|κ×V,ao (Y.map λa=>if a.1=k then(a.1,y)else a) j=(ao Y j).map λx=>if j=k then y else x
 |[]=>rfl
 |p :: r=>by
  have b:=Qe k j y r;rw[Bn]
  by_cases h:p.1=k
  ·rw[BP h]
   by_cases e:p.1=j
   ·rw[gJ (p:=(p.1,y)) e,gJ e,Gr,BP<|e.symm.trans h]
   ·rw[gK (p:=(p.1,y)) e,gK e,b]
  ·rw[BK h]
   by_cases e:p.1=j
   ·rw[gJ e,gJ e,Gr,BK λz=>h<|e.trans z]
   ·rw[gK e,gK e,b]
theorem Qf(k j:κ)(y:V):∀Y:List<|κ×V,ao Y k=none->ao (Y++[(k,y)]) j=if j=k then some y else ao Y j
 |[],_=>by
  by_cases e:k=j
  ·rw[BP e.symm];exact gJ (p:=(k,y)) e
  ·rw[BK λz=>e z.symm];exact gK (p:=(k,y)) e
 |p :: r,a=>by
  rw[Ft];have b:¬ p.1=k:=λz=>by rw[gJ z]at a;cases a
  rw[gK b]at a;have c:=Qf k j y r a
  by_cases e:p.1=j
  ·rw[gJ e,gJ e,BK λz=>b<|e.trans z]
  ·rw[gK e,gK e,c]
def dC(Y:List<|κ×V)(k j:κ)(y:V):ao (putK Y k y) j=if j=k then some y else ao Y j:=by
 unfold putK
 by_cases a:(Y.any λb=>decide (b.1=k))=true
 ·rw[BP a,Qe];rw[sO]at a
  by_cases e:j=k
  ·obtain⟨x,c⟩:=Ez.mp a;rw[BP e,e,c,Gr,BP rfl]
  ·rw[BK e];cases ao Y j with
   |none=>rfl
   |some x=>rw[Gr,BK e]
 ·rw[BK a];refine Qf k j y Y ?_;rw[sO]at a;cases q:ao Y k with
  |none=>rfl
  |some x=>rw[q]at a;exact(a rfl).elim
theorem jn(Y:List<|κ×V)(k:κ)(v:V):(putK Y k v).length<=Y.length+1:=by
 unfold putK
 split
 ·rw[Aa];omega
 ·rw[Ad,As,Eu];omega
def Qg{Y:List (κ×V)}{k:κ}(v:V)(h:ao Y k=none):putK Y k v=Y++[(k,v)]:=by
 unfold putK;rw[sO,h];exact BK<|(by decide)
theorem eI.bW{u:Option Value}(r:eI o u):o.isSome=u.isSome:=by
 cases o with
 |none=>cases u with
  |none=>rfl
  |some _=>exact(show False from r).elim
 |some _=>cases u with
  |none=>exact(show False from r).elim
  |some _=>rfl
theorem KV.val{Y:List (κ×V)}{vs:List (κ×Value)}(r:KV Y vs)(k:κ):eI (ao Y k) (valueAt vs k):=by
 unfold KV at r
 induction r with
 |nil=>exact True.intro
 | @cons p q ps a h t f=>
  obtain⟨d,i⟩:=h
  by_cases e:p.1=k
  ·have c:=d.symm.trans e;have b:valueAt (q :: a) k=some q.2:=by simp[valueAt,Fi,c]
   rwa[gJ e,b]
  ·have c:¬ q.1=k:=λz=>e<|d.trans z;have b:valueAt (q :: a) k=valueAt a k:=by simp[valueAt,Fi,c]
   rwa[gK e,b]
theorem KV.any{Y:List (κ×V)}{vs:List (κ×Value)}(r:KV Y vs)(k:κ):(Y.any λa=>decide (a.1=k))=vs.any λa=>decide (a.1=k):=by
 unfold KV at r
 induction r with
 |nil=>rfl
 |cons h t b=>rw[Fj,Fj,b,h.1]
theorem KV.repl{Y:List (κ×V)}{vs:List (κ×Value)}(r:KV Y vs)(k:κ)(c:fg y u):
  KV (Y.map λa=>if a.1=k then(a.1,y)else a) (vs.map λa=>if a.1=k then(a.1,u)else a):=by
 unfold KV at r ⊢
 induction r with
 |nil=>exact .nil
 | @cons p q ps i h t d=>
  rw[Bn,Bn];refine .cons ?_ d;obtain⟨b,f⟩:=h
  by_cases e:p.1=k
  ·rw[BP e,BP<|b.symm.trans e];exact⟨b,c⟩
  ·rw[BK e,BK λz=>e<|b.trans z];exact⟨b,f⟩
def KV.put{Y:List (κ×V)}{vs:List (κ×Value)}(r:KV Y vs)(k:κ)(a:fg y u):KV (putK Y k y) (stored vs k u):=by
 unfold putK stored;rw[r.any k]
 by_cases e:(vs.any λb=>decide (b.1=k))=true
 ·rw[BP e,BP e];exact r.repl k a
 ·rw[BK e,BK e];exact Paired.snoc r ⟨rfl,a⟩
theorem KV.keys{Y:List (κ×V)}{vs:List (κ×Value)}(r:KV Y vs):Y.map (·.1)=vs.map (·.1):=by
 unfold KV at r
 induction r with
 |nil=>rfl
 |cons h t a=>rw[Bn,Bn,a,h.1]
def KV.length{Y:List (κ×V)}{vs:List (κ×Value)}(r:KV Y vs):Y.length=vs.length:=Paired.length r
end
theorem oJ{k:Key}(r:fg (kV k) u):(dM P w).is k u=true:=by
 cases k with
 |inl i=>obtain⟨t,e⟩:=(show ∃t,u=Value.int i t from r);subst e;exact XZ P w i t
 |inr x=>obtain⟨t,e⟩:=(show ∃t,u=Value.str x t from r);subst e;exact X0 P w x t
theorem Qh{P:Program}{w:World}:∀{ks}{a},az (ks.map kV) a->ItemsAre (dM P w) ks a
 |[],_,r=>by rw[List.map_nil]at r;cases r;exact .nil
 |k :: ks,_,r=>by
  rw[Bn]at r;cases r with
  |cons h t=>exact .cons (oJ h)<|Qh t
abbrev KT(H:Hp):List (List Key×V)->List (List Key×Addr×Value)->Prop:=Paired λp q=>p.1=q.1/\H q.2.1=some (.tup<|p.1.map kV)/\fg p.2 q.2.2
variable{xs:List (List Key×Addr×Value)}{Y:List (List Key×V)}
theorem KT.val(r:KT H Y xs)(k:List Key):eI (ao Y k) ((atKey xs k).map (·.2)):=by
 induction r with
 |nil=>exact True.intro
 | @cons p q ps a h t f=>
  obtain⟨d,_,i⟩:=h
  by_cases e:p.1=k
  ·have c:=d.symm.trans e;have b:atKey (q :: a) k=some q.2:=by simp[atKey,Fi,c]
   rwa[gJ e,b]
  ·have c:¬ q.1=k:=λz=>e<|d.trans z;have b:atKey (q :: a) k=atKey a k:=by simp[atKey,Fi,c]
   rwa[gK e,b]
theorem KT.repl(r:KT H Y xs)(k:List Key)(d:fg y u):
  KT H (Y.map λb=>if b.1=k then(b.1,y)else b) (xs.map<|putAt k u):=by
 induction r with
 |nil=>exact .nil
 | @cons p q ps j h t f=>
  rw[Bn,Bn];refine .cons ?_ f;obtain⟨a,c,i⟩:=h;unfold putAt
  by_cases e:p.1=k
  ·rw[BP e,BP<|a.symm.trans e];exact⟨a,c,d⟩
  ·rw[BK e,BK λz=>e<|a.trans z];exact⟨a,c,i⟩
variable{b:Addr}
def KT.put(r:KT H Y xs)(k:List Key)(c:H b=some (.tup<|k.map kV))(a:fg y u):
  KT H (putK Y k y) (storedH xs k b u):=by
 have e:(Y.any λd=>decide (d.1=k))=(atKey xs k).isSome:=by
  rw[sO,(r.val k).bW,RL]
 unfold putK storedH;rw[e]
 by_cases q:(atKey xs k).isSome=true
 ·rw[BP q,BP q];exact r.repl k a
 ·rw[BK q,BK q];exact Paired.snoc r ⟨rfl,c,a⟩
def KT.keeps(r:KT H Y xs)(a:∀b ys,H b=some (.tup ys)->H' b=some (.tup ys)):KT H' Y xs:=
 Paired.pP r λ_ _ z=>⟨z.1,a _ _ z.2.1,z.2.2⟩
variable{h:Heap}{ks:List Key}
def Qi{u:HO}(ok:cg P w H h)(e:Rd H a u):aB P w H h a u:=e.ok ok
def vb{Y:List (Key×V)}(ok:cg P w H h)(e:Rd H a<|.dK Y):Y.length<=sizeLine/\(a == sysModules)=false/\∃vs,KV Y vs/\h.DictOf (dM P w) a vs:=
 show aB P w H h a (.dK Y)from Qi ok e
def vd{Y:List (Key×V)}(ok:cg P w H h)(e:H a=some (.dK Y)):Y.length<=sizeLine/\(a == sysModules)=false/\∃vs,KV Y vs/\h.DictOf (dM P w) a vs:=vb ok<|.inl e
def sR(ok:cg P w H h)(e:H a=some (.tup<|ks.map kV)):(tupleKind<|dM P w).is h ks a:=by
 obtain⟨_,b,r,o,c,d,n,f⟩:=(show aB P w H h a (.tup<|ks.map kV)from ok a _ e);exact⟨o,b.toArray,n,c,d,f,by simpa using Qh r⟩
def ve(ok:cg P w H h)(e:Rd H a<|.dT Y):Y.length<=sizeLine/\(a == sysModules)=false /\
  ∃xs,KT H Y xs/\h.DictOfH (tupleKind<|dM P w) a xs:=by
 obtain⟨z,y,xs,r,o,d,f,i,j,k,n,s⟩:=(show aB P w H h a (.dT Y)from Qi ok e);refine⟨z,y,xs,r,o,d,f,i,j,k,n,λx b=>?_,s⟩;have all:∀{l}{m},KT H l m->∀x∈m,(tupleKind<|dM P w).is h x.1 x.2.1:=by
  intro l m q
  induction q with
  |nil=>intro x b;exact nomatch b
  | @cons p q ps v c t u=>
   intro x b
   obtain e|b:=Al.mp b
   ·subst e;exact sR ok<|by rw[<-c.1];exact c.2.1
   ·exact u x b
 exact all r x b
def Qj(ok:cg P w H h)(e:H a=some (.dT Y)):Y.length<=sizeLine/\(a == sysModules)=false /\
  ∃xs,KT H Y xs/\h.DictOfH (tupleKind<|dM P w) a xs:=ve ok<|.inl e
def aX(H:Hp)(a:Addr)(y:V)(r:Option V):Prop:=
 (∃Y k,Rd H a (.dK Y)/\y=kV k/\r=ao Y k)\/∃Y k b,Rd H a (.dT Y)/\y=.ref b/\H b=some (.tup<|k.map kV)/\r=ao Y k
def bX(H:Hp)(a:Addr)(y v:V)(H':Hp):Prop:=
 (∃Y k,H a=some (.dK Y)/\y=kV k/\Y.length<sizeLine/\H'=upd H a (.dK<|putK Y k v)) \/
 ∃Y k b,H a=some (.dT Y)/\y=.ref b/\H b=some (.tup<|k.map kV)/\Y.length<sizeLine/\H'=upd H a (.dT<|putK Y k v)
def aX.k{H:Hp}{a:Addr}{Y:List (Key×V)}{k:Key}(e:H a=some (.dK Y)):aX H a (kV k) (ao Y k):= .inl ⟨Y,k,.inl e,rfl,rfl⟩
def aX.t{k:List Key}(e:H a=some (.dT Y))(c:H b=some (.tup<|k.map kV)):aX H a (.ref b) (ao Y k):= .inr ⟨Y,k,b,.inl e,rfl,c,rfl⟩
def bX.k{H:Hp}{a:Addr}{Y:List (Key×V)}{k:Key}{v:V}(e:H a=some (.dK Y))(b:Y.length<sizeLine):bX H a (kV k) v (upd H a<|.dK<|putK Y k v):= .inl ⟨Y,k,e,rfl,b,rfl⟩
variable{v:V}
def bX.t{k:List Key}(e:H a=some (.dT Y))(c:H b=some (.tup<|k.map kV))(d:Y.length<sizeLine):
  bX H a (.ref b) v (upd H a<|.dT<|putK Y k v):= .inr ⟨Y,k,b,e,rfl,c,d,rfl⟩
variable{E Q:Î}{A:Around}{s:Shared}{σ:St}{O:Ð}{t':Nat}{h':Heap}{vs:List (Key×Value)}
section
variable{r:Value}
def be.big(I:be X O σ H s):sysModules<s.heap.objs.size:=by
 have h:=(I.mod.glob.keeps I.bk).lt;exact Nat.lt_trans (by decide) h
def ZW(n:A.units+1<cLine)(I:be X O σ H s)(g:aX H a y<|some v)(m:fg y u)(h:∀c s',be X O σ H s'->fg v c->Q c s'):
  wpAny (model X.U X.w) A (getItem (.ref a) u) Q E s:=by
 obtain⟨Y,k,e,d,l⟩|⟨Y,k,b,e,d,o,l⟩:=g
 ·subst d;obtain⟨z,hd,vs,rel,f⟩:=vb I.aF e;obtain⟨c,i,j⟩:=eI.some_of (by rw[l];exact rel.val k);exact wpAny_getItem_of (oJ m) f.mapOf i<|h c _ (I.tok _) j
 ·subst d;cases (show u=Value.ref b from m);obtain⟨z,hd,xs,rel,f⟩:=ve I.aF e;obtain⟨c,i,j⟩:=eI.some_of (by rw[l];exact rel.val k);obtain⟨p,q,r⟩:=Ar.mp i;refine wpAny_getItem_heap (KZ n) (sR I.aF o) f q ?_;rw[r];exact h c _ (I.tok _) j
def FI(i:A.units+1<cLine)(I:be X O σ H s)(g:aX H a y o)(f:fg y u)(h:∀s',be X O σ H s'->Q (.bool o.isSome) s'):
  wpAny (model X.U X.w) A (compareOp .In u<|.ref a) Q E s:=by
 obtain⟨Y,k,e,c,l⟩|⟨Y,k,b,e,c,j,l⟩:=g
 ·subst c;obtain⟨z,hd,vs,rel,d⟩:=vb I.aF e;refine wpAny_in_of (oJ f) hd d.mapOf ?_;rw[<-(rel.val k).bW,<-l];exact h _<|I.tok _
 ·subst c;cases (show u=Value.ref b from f);obtain⟨z,hd,xs,rel,d⟩:=ve I.aF e;refine wpAny_in_heap (KZ i) (sR I.aF j) hd d ?_;have q:=(rel.val k).bW;rw[RL]at q;rw[<-q,<-l];exact h _<|I.tok _
def ZX(i:A.units+1<cLine)(I:be X O σ H s)(g:aX H a y o)(f:fg y u)(h:∀s',be X O σ H s'->Q (.bool (!o.isSome)) s'):
  wpAny (model X.U X.w) A (compareOp .NotIn u<|.ref a) Q E s:=by
 obtain⟨Y,k,e,c,l⟩|⟨Y,k,b,e,c,j,l⟩:=g
 ·subst c;obtain⟨z,hd,vs,rel,d⟩:=vb I.aF e;refine wpAny_notIn_of (oJ f) hd d.mapOf ?_;rw[<-(rel.val k).bW,<-l];exact h _<|I.tok _
 ·subst c;cases (show u=Value.ref b from f);obtain⟨z,hd,xs,rel,d⟩:=ve I.aF e;refine wpAny_notIn_heap (KZ i) (sR I.aF j) hd d ?_;have q:=(rel.val k).bW;rw[RL]at q;rw[<-q,<-l];exact h _<|I.tok _
def mK{c:HO}(I:be X O σ H s)(d:uA<|H a)(e:Heap.SameBut a s.heap h')(f:∃q,h'.get? a=some q)(new:aB X.U X.w (upd H a c) h' a c):
  be X O σ (upd H a c) {s with heap:=h',toks:=t'}:=
 I.write d (.inl rfl) (λb q h z=>(e.2 b h).trans z) f new
def FK{Y:List (Key×V)}(z:Y.length<=sizeLine)(hd:(a == sysModules)=false)(rel:KV Y vs)(dd:h'.DictOf (dM P w) a vs):
  aB P w H' h' a (.dK Y):=⟨z,hd,vs,rel,dd⟩
theorem ZY{Q:Unit->Shared->Prop}(x:A.units+1<cLine)(I:be X O σ H s)(g:bX H a y v H')(p:fg y u)(t:fg v r)(h:∀s',be X O σ H' s'->Q () s'):
  wpAny (model X.U X.w) A (setItem (.ref a) u r) Q E s:=by
 obtain⟨Y,k,e,i,l,j⟩|⟨Y,k,b,e,i,w,l,j⟩:=g
 ·subst i j;obtain⟨z,hd,vs,rel,m⟩:=vd I.aF e;have B:vs.length<=sizeLine:=by rwa[<-rel.length]
  have n:(putK Y k v).length<=sizeLine:=by have:=jn Y k v;omega
  refine wpAny_setItem_pairs (oJ p) m λh' d o=>h _ ?_;have C:∃q,h'.get? a=some q:=let ⟨q,_,_,f,_⟩:=d;⟨q,f⟩
  exact mK I (by rw[e];exact True.intro) o C<|FK n hd (rel.put k t) d
 ·subst i j;cases (show u=Value.ref b from p);obtain⟨z,hd,xs,rel,m⟩:=Qj I.aF e;have B:xs.length<=sizeLine:=by rwa[<-Paired.length rel]
  have n:(putK Y k v).length<=sizeLine:=by have:=jn Y k v;omega
  refine wpAny_setItem_heap (KZ x) (sR I.aF w) m λh' d o=>h _ ?_;obtain⟨q,D,G,f,J,L,M,_,N⟩:=d;refine mK I (by rw[e];exact True.intro) o ⟨q,f⟩ ⟨n,hd,_,(rel.put k w t).keeps λc U T=>?_,q,D,G,f,J,L,M,N⟩;rwa[au<|bV T e λz=>nomatch z]
end
def qe(i:Expr):Prop:=∀a b,subscripted i false a b=operate [a,b] (getItem a b)
variable{value:Expr}{env:Env}{U:Program}
def ZZ{slice:Expr}{pos:Pos}{T id:String}
  (f:typeLookup (.type T) "__getitem__" = pure (some<|.builtin id)) (j:qe slice)
  (h:bc U w A (eval value env) (λo À=>bc U w A (eval slice env) (λi b=>b.TypeIs o T/\bc U w A (getItem o i) Q E b) E À) E s):
  bc U w A (eval (.Subscript value slice pos) env) Q E s:=by
 refine Subscript_<|CT h (λo À a=>CT a (λi b c=>?_) λ_ _ x=>x) λ_ _ x=>x;obtain⟨d,c⟩:=c;unfold subscriptTail;refine BJ ?_;rw[getitemInPython_of_ne d.not_modules];refine BJ<|UJ d f ?_;have fin:bc U w A (subscripted slice false o i) (λr e=>bc U w A (letTemporaryGo value o r >>= λ_=>pure r) Q E e) E b:=by
  rw[j o i];exact wpAny_operating<|CT c (λr e k=>BJ<|wpAny_letTemporaryGo<|BL k) λ_ _ x=>x
 first
  |exact BL<|BJ fin
  |exact BJ<|BL<|BJ fin
  |exact BJ fin
def Z4(I:be X O σ H s)(g:aX H a y o):s.TypeIs (.ref a) "dict":=by
 obtain⟨Y,k,e,_,_⟩|⟨Y,k,b,e,_,_,_⟩:=g
 ·obtain⟨_,_,vs,_,c⟩:=vb I.aF e;exact c.typeIs
 ·obtain⟨_,_,xs,_,c⟩:=ve I.aF e;exact c.typeIs
def Z5(b ty:TE):TE:=λσ H Q=>b σ H λx c=>ty σ c λy H2=>∃a v,x=.ref a/\aX H2 a y (some v)/\Q v H2
def FL(ty b:TE):TE:=λσ H Q=>ty σ H λy c=>b σ c λx H2=>∃a o,x=.ref a/\aX H2 a y o/\Q (.bl o.isSome) H2
def Z6(ty b:TE):TE:=λσ H Q=>ty σ H λy c=>b σ c λx H2=>∃a o,x=.ref a/\aX H2 a y o/\Q (.bl (!o.isSome)) H2
def Z7(c ty d:TE):TS:=λD σ H=>d σ H λv e=>c σ e λx H2=>ty σ H2 λy f=>∃a b,x=.ref a/\bX f a y v b/\D.nx σ b
variable{pos':Pos}{e:Expr}
section
variable{o i:Expr}{pos Z8:Pos}{td ty tv:TE}
def Z9(c:X.A.units+1<cLine)(d:PE X o td)(e:PE X i ty)(f:qe i):PE X (.Subscript o i pos) (Z5 td ty):=by
 intro O s σ H Q I h;refine ZZ PySem.F.slot_dict_getitem.lookup f<|aN (d O s σ H _ I h) λu j⟨x,k,l,m,n⟩=>aN (e O j σ k _ l n) λz A⟨y,H2,b,p,a,v,q,g,r⟩=>?_;subst q;obtain rfl:u=Value.ref a:=m;exact⟨Z4 b g,ZW c b g p λB C t w=>⟨v,H2,t,w,r⟩⟩
def Z'(b:X.A.units+1<cLine)(c:PE X i ty)(d:PE X o td):PC X .In i o (FL ty td):=by
 intro O s σ H Q I h;refine aN (c O s σ H _ I h) λv e⟨y,f,j,k,l⟩=>aN (d O e σ f _ j l) λu w⟨x,H2,m,n,a,p,q,g,r⟩=>?_;subst q;obtain rfl:u=Value.ref a:=n;exact FI b m g k λz t=>⟨.bl p.isSome,H2,t,rfl,r⟩
def S4(b:X.A.units+1<cLine)(c:PE X i ty)(d:PE X o td):PC X .NotIn i o (Z6 ty td):=by
 intro O s σ H Q I h;refine aN (c O s σ H _ I h) λv e⟨y,f,j,k,l⟩=>aN (d O e σ f _ j l) λu w⟨x,H2,m,n,a,p,q,g,r⟩=>?_;subst q;obtain rfl:u=Value.ref a:=n;exact ZX b m g k λz t=>⟨.bl (!p.isSome),H2,t,rfl,r⟩
def Jl(b:X.A.units+1<cLine)(c:PE X o td)(d:PE X i ty)(e:PE X value tv)(f:swapsWith value (some<|.Subscript o i pos') pos.line X.env=pure false):
  PS X (.Assign [.Subscript o i pos'] value pos) (Z7 td ty tv):=by
 intro O s σ H D I h;refine wpAny_Assign_Subscript (aN (e O s σ H _ I h) λr j⟨v,k,l,m,n⟩=>aN (c O j σ k _ l n) λu p⟨x,H2,q,t,w⟩=>aN (d O p σ H2 _ q w) λJ L⟨y,M,z,A,a,B,C,g,E⟩=>?_) f;subst C;obtain rfl:u=Value.ref a:=t;exact ZY b z g A m λN G=>⟨σ,B,G,E⟩
end
def Qk(h:Heap)(a:sysModules < h.objs.size):aB P w H (h.push {cls:= .type "dict",data:= .dict #[]}) h.objs.size (.dK []):=
 ⟨Bu _,beq_eq_false_iff_ne.mpr<|CG<|Bi a,[],.nil,Heap.DictOf.new h⟩
def FO(h:Heap)(a:sysModules < h.objs.size):aB P w H (h.push {cls:= .type "dict",data:= .dict #[]}) h.objs.size (.dT []):=
 ⟨Bu _,beq_eq_false_iff_ne.mpr<|CG<|Bi a,[],.nil,_,#[],0,Ao _ rfl,⟨rfl,rfl,rfl⟩,rfl,rfl,Cn⟩
def wW:TE:=λ_ H Q=>∀p,H p=none->Q (.ref p) (upd H p<|.dK [])
def br:TE:=λ_ H Q=>∀p,H p=none->Q (.ref p) (upd H p<|.dT [])
section
variable{pos:Pos}
def Nl:PE X (.Dict [] [] pos) wW:=λO s σ H Q I h=>
 wpAny_Dict_empty ⟨.ref s.heap.objs.size,_,I.laid (λ_ _ q=>Ae _ q) (Am _)<|Qk s.heap I.big,rfl,h _<|I.aF.fresh<|Am _⟩
def ee:PE X (.Dict [] [] pos) br:=λO s σ H Q I h=>
 wpAny_Dict_empty ⟨.ref s.heap.objs.size,_,I.laid (λ_ _ q=>Ae _ q) (Am _)<|FO s.heap I.big,rfl,h _<|I.aF.fresh<|Am _⟩
end
variable{apos:Pos}
section
variable{κ:Type} [DecidableEq κ]
def Ql{Y:List (κ×V)}{k:κ}(h:ao Y k=some v):k∈Y.map (·.1):=by
 have q:(Y.any λa=>decide (a.1=k))=true:=by
  rw[sO,h]
  all_goals rfl
 obtain⟨p,b,e⟩:=Fc.mp q;exact Ai.mpr ⟨p,b,BX e⟩
theorem lQ:∀{l:List κ}{k:κ},l.Nodup->¬ k∈l->(l++[k]).Nodup
 |[],k,_,_=>by simp
 |a :: r,k,h,b=>by
  obtain⟨c,d⟩:=Bk.mp h;show(a :: (r++[k])).Nodup;refine Bk.mpr ⟨λm=>?_,lQ d λm=>b<|Al.mpr<|Or.inr m⟩
  obtain q|q:=An.mp m
  ·exact c q
  ·exact b<|Al.mpr<|Or.inl (Af.mp q).symm
end
variable{tg:Expr}
theorem Qm{env:Env}:∀{names:List (Str×NameKind)}{x:Str}{a:NameKind},
  (names.map λ(n,k)=>if(k == NameKind.free && env.scope.kind == .function && env.kindOf n == some .cell) then(n,NameKind.cell) else(n,k)).lookup x=some a ->
  ∃k,names.lookup x=some k/\(a=k\/(k=.free/\a=.cell))
 |[],_,_,h=>by simp at h
 |(n,k):: r,x,a,h=>by
  have d:=@Qm env r x a
  change List.lookup x ((if(k == NameKind.free && env.scope.kind == .function && env.kindOf n == some .cell)=true then(n,NameKind.cell) else(n,k)):: _)=_ at h
  cases b:x == n with
  |true=>
   by_cases c:(k == NameKind.free && env.scope.kind == .function && env.kindOf n == some .cell)=true
   ·rw[BP c]at h;simp only[Dx,b]at h;cases h;have e:k=.free:=by
     have:=(Bq _ _ ▸ (Bq _ _ ▸ c).1).1;cases k<;>first|rfl|(exact absurd this<|(by decide))
    exact⟨k,by simp[Dx,b],.inr ⟨e,rfl⟩⟩
   ·rw[BK c]at h;simp only[Dx,b]at h;cases h;exact⟨k,by simp[Dx,b],.inl rfl⟩
  |false=>
   have f:∃k,r.lookup x=some k/\(a=k\/(k=.free/\a=.cell)):=by
    by_cases c:(k == NameKind.free && env.scope.kind == .function && env.kindOf n == some .cell)=true
    ·rw[BP c]at h;simp only[Dx,b]at h;exact d h
    ·rw[BK c]at h;simp only[Dx,b]at h;exact d h
   obtain⟨i,j,l⟩:=f;exact⟨i,by simp[Dx,b,j],l⟩
def cM(names:List<|Str×NameKind)(b:List<|Str×Addr)(acc:List<|Str×Addr):List (Str×Addr):=
 names.foldl (λa x=>if x.2 == .free then(match b.lookup x.1 with|some c=>(x.1,c):: a|none=>a)else a) acc
variable{scope:Scope}
def FR(h:∀x∈scope.names,x.2=.free->∃c,env.cells.lookup x.1=some c):closureFor scope env=pure (cM scope.names env.cells []):=by
 have all:∀l a,(∀x∈l,x.2=.free->∃c,env.cells.lookup x.1=some c) ->
   (forIn l a λx e=>(if x.2 == .free then(do let c <-cellOf env x.1;pure (ForInStep.yield<|(x.1,c):: e))else pure (ForInStep.yield e):Sem _))=pure (cM l env.cells a):=by
  intro l
  induction l with
  |nil=>intro a _;rfl
  |cons x r f=>
   intro a i;rw[Gs];have j:=λy m=>i y<|Ak _ m;cases b:x.2 == .free with
   |true=>
    have d:x.2=.free:=by
     revert b
     cases x.2<;>intro b<;>first|rfl|(exact absurd b<|(by decide))
    obtain⟨c,k⟩:=i x Ag d;simp only[DP,cellOf,k];rw[show cM (x :: r) env.cells a=cM r env.cells ((x.1,c):: a) by unfold cM;rw[Dp];simp[b,k]];exact f _ j
   |false=>
    simp only[Bb,CV];rw[show cM (x :: r) env.cells a=cM r env.cells a by unfold cM;rw[Dp];simp[b]];exact f _ j
 have q:=all scope.names [] h;simp only[closureFor];exact(BZ (· >>= λr=>pure r) q).trans rfl
theorem FU:∀names a acc,(∀x c,(x,c)∈acc->a.lookup x=some c)->∀x c,(x,c)∈cM names a acc->a.lookup x=some c
 |[],_,_,h=>h
 |y :: r,a,acc,h=>by
  have e:cM (y :: r) a acc=cM r a (if y.2 == .free then(match a.lookup y.1 with|some c=>(y.1,c):: acc|none=>acc)else acc):=rfl;rw[e];refine FU r a _ ?_;cases i:y.2 == .free with
  |false=>simpa using h
  |true=>
   cases f:a.lookup y.1 with
   |none=>simpa using h
   |some c=>
    intro x d b;simp only[DP]at b
    obtain e|b:=Al.mp b
    ·cases e;exact f
    ·exact h x d b
theorem Qn:∀names a acc x c,(x,c)∈acc->(x,c)∈cM names a acc
 |[],_,_,_,_,h=>h
 |y :: r,a,acc,x,c,h=>by
  have e:cM (y :: r) a acc=cM r a (if y.2 == .free then(match a.lookup y.1 with|some c=>(y.1,c):: acc|none=>acc)else acc):=rfl;rw[e];refine Qn r a _ x c ?_;cases b:y.2 == .free with
  |false=>simpa using h
  |true=>
   cases f:a.lookup y.1 with
   |none=>simpa using h
   |some d=>simp only[DP];exact Ak _ h
theorem FV:∀names a acc x c,(x,NameKind.free)∈names->a.lookup x=some c->(x,c)∈cM names a acc
 |[],_,_,_,_,h,_=>by cases h
 |y :: r,a,acc,x,c,h,b=>by
  have e:cM (y :: r) a acc=cM r a (if y.2 == .free then(match a.lookup y.1 with|some c=>(y.1,c):: acc|none=>acc)else acc):=rfl;rw[e]
  obtain d|h:=Al.mp h
  ·subst d;refine Qn r a _ x c ?_;have:(NameKind.free == NameKind.free)=true:=rfl;simp only[b,this,DP];exact Ag
  ·exact FV r a _ x c h b
theorem FX{α:Type}:∀{l:List (Str×α)}{x:Str}{c:α},(x,c)∈l->∃d,l.lookup x=some d
 |[],_,_,h=>by cases h
 |(n,d):: r,x,c,h=>by
  cases a:x == n with
  |true=>exact⟨d,by simp[Dx,a]⟩
  |false=>
   obtain e|h:=Al.mp h
   ·cases e;simp at a
   ·obtain⟨b,e⟩:=FX h;exact⟨b,by simp[Dx,a,e]⟩
variable{R:Result->Shared->Prop}{acc:Value}{ifs:Ô}{elt iter:Expr}
theorem S8{target:Expr}{pos:Pos}{it:Value}(I:Nat->Shared->Prop)
  (turn : ∀ n s, I n s → bc U w A (pyNext it) (λr À => match r with
   |none=>R (.ok .next) À
   | some v=>bc U w A (letOwnedTupleGo target it v) (λ_ a=>bc U w A (assign target env v) (λ_ i=>
     bc U w A (forIn ifs true λc r=>if r=true then do let ok <- isTrue c env<|eval c env;pure (ForInStep.yield ok)else pure (ForInStep.yield r)) (λok f=>
      if ok=true then bc U w A (eval elt env) (λx j=>
       bc U w A (call (.builtin "list.append") [acc,x]) (λ_ k=>∃m,m<n/\I m k) (notedBy (model U w) A env λe s'=>R (.error e) s') j) (notedBy (model U w) A env λe s'=>R (.error e) s') f
      else ∃m,m<n/\I m f) (notedBy (model U w) A env λe s'=>R (.error e) s') i) (notedBy (model U w) A env λe s'=>R (.error e) s') a) (notedBy (model U w) A env λe s'=>R (.error e) s') À) (notedBy (model U w) A env λe s'=>R (.error e) s') s)
  (n:Nat) (h:I n s):
  codeAny (model U w) A (.compLoop (.ListComp elt [⟨target,iter,ifs,0⟩] scope pos) 0 it acc env) R s:=by
 refine codeAny_loop rfl I (λn s o=>?_) n h;show wpAny _ A ((compTurn (.ListComp elt [⟨target,iter,ifs,0⟩] scope pos) 0 it acc env).onRaise λx=>do noteFrame x env;theTreesLotGoes x) _ _ s;refine wpAny_noted ?_;rw[compTurn_list];refine BJ<|FP<|BJ<|CT (turn n s o) (λr À b=>?_) λ_ _ h'=>h';cases r with
 |none=>exact BL b
 |some v=>
  refine BJ<|CT b (λ_ a d=>?_) λ_ _ h'=>h';refine BJ<|CT d (λ_ i p=>BJ<|CT p (λok f l=>?_) λ_ _ h'=>h') λ_ _ h'=>h';cases ok with
  |false=>exact BL ⟨rfl,l⟩
  |true=>
   exact BJ<|BJ<|CT l (λx j q=>BJ<|CT q (λ_ k t=>BL<|BL ⟨rfl,t⟩) λ_ _ h'=>h') λ_ _ h'=>h'
def Qo(X:Cx)(ifs:Ô)(t:TT):Prop:=
 ∀O s σ H Q,be X O σ H s->t σ H Q ->
  ar X (forIn ifs true λc r=>if r=true then do let ok <-isTrue c X.env<|eval c X.env;pure (ForInStep.yield ok)else pure (ForInStep.yield r)) (TP X O σ Q) X.xe s
def FY:TT:=λ_ H Q=>Q true H
def i9:Qo X [] FY:=λ_ _ _ H _ I h=>wpAny_tests_nil ⟨H,I,h⟩
variable{c:Expr}
def qy{t:TT}(h:PT X c t):Qo X [c] t:=λO s σ H Q I a=>wpAny_tests_one<|h O s σ H Q I a
def fO(X:Cx)(N':Ñ)(scope:Scope)(a:List<|Str×Addr)(C:Addr)(æ:Shared)(ç:Hp)(ex:List Addr):Cx:=
 {U:=X.U,w:=X.w,K:=X.K,mg:=X.mg,Z:=X.Z,A:=X.A,N:=N',æ:=æ,ç:=ç,env:=compEnvC scope a C X.env,outer:=X.stack,stack:=X.stack,ex:=ex,fn:=λx=>match scope.names.lookup x with|some .cell=>true|_=>false,calm:=X.calm,pn:=[],xe:=λ_ _=>False}
variable{M:Model}
def jq{α:Type}{t:Sem α}{Q b:α->Shared->Prop}(h:wpAny M A t Q (λ_ _=>False) s)(c:∀a s,Q a s->b a s):wpAny M A t b E s:=CT h c λ_ _ z=>z.elim
def vf:fE X (.builtin "isinstance") (λxs H Q=>∃x t T b,xs=[x,.ty T]/\dA X.K H x t/\PySem.W.kitOne X.K t (.type T)=some b/\Q (.bl b) H):=by
 intro O s σ H xs i Q I r h;obtain⟨x,t,T,b,rfl,ty,e,q⟩:=h;obtain⟨u,a,rfl,c,d⟩:=re r;cases (show a=Value.type T from d);exact Ze I c ty e λf=>⟨.bl b,H,I.tok f,rfl,q⟩
theorem Qp:∀{bs:List Bool}{a:Ó},az (bs.map V.bl) a->a=bs.map Value.bool
 |[],_,r=>by cases r;rfl
 |b :: bs,_,r=>by
  cases r with
  |cons c d=>
   cases (show _=Value.bool b from c);rw[Qp d,Bn]
def wE(bs:List Bool):(range bs.length).any (λi=>bs.getD i true)=bs.any id:=by
 rw[Cr,Fc,Fc]
 constructor
 ·rintro ⟨i,a,h⟩;have b:=Bc.mp a;exact⟨bs[i],Bp b,by simpa[Fp,b]using h⟩
 ·rintro ⟨x,c,h⟩;obtain⟨i,a,rfl⟩:=Co.mp c;exact⟨i,Bc.mpr a,by simpa[Fp,a]using h⟩
def K5(k:X.calm=true):fE X (.builtin "any") (λxs H Q=>∃(p:Addr) (bs:List Bool),xs=[.ref p]/\aj X.K H p (bs.map V.bl)/\Q (.bl<|bs.any id) H):=by
 intro O s σ H xs G Q I r h;obtain⟨p,bs,rfl,l,q⟩:=h;obtain⟨u,rfl,m⟩:=kw r;cases (show u=Value.ref p from m);obtain⟨d,n,f,J⟩:=I.list l;have a:=Qp n;obtain⟨o,_,t,_⟩:=id f;have w:p<s.heap.objs.size:=Ap t;refine call_any_walk<|MK f.isList ⟨s.heap.objs.size,_,_,_,_,_,λi=>bs.getD i true,rfl,Walks.list (A:=X.A.in1) (show X.A.in1.handled=none from I.ok.hd k) s.heap.objs.size p (Bi w) d.toArray,
  ⟨⟨_,Ao _ rfl,rfl,rfl⟩,f.isList.push _⟩,?_,λh' x y=>?_⟩
 ·intro i v z B L C D;have c:d[i]?=some v:=by simpa using C
  rw[a,Ah]at c;cases e:bs[i]? with
  |none=>rw[e]at c;cases c
  |some b=>
   rw[e]at c;cases c;refine DY ?_;have:bs.getD i true=b:=by rw[Fp,e];rfl
   have j:B (bs.getD i true) z:=D;rw[this]at j;exact j
 ·have e:d.toArray.size=bs.length:=by rw[Aw,a,Aa]
  rw[e,wE];refine⟨.bl<|bs.any id,H,I.kept (t':=x) λb o e=>y b o ?_<|Ae _ e,rfl,q⟩;intro E;have:b=s.heap.objs.size:=by simpa using E
  exact absurd (Ap e)<|by rw[this];exact Cq _
theorem Js:cG X (binaryOp .Mult) (λx y H Q=>∃z i,x=.str z/\y=.int i/\0<=i/\i<=100000/\z.length*i.toNat<=100000/\Q (.str<|Txt.mul z i) H):=by
 intro O s σ H x y v u Q I b c h;obtain⟨z,i,rfl,rfl,l,d,m,q⟩:=h;obtain⟨t,rfl⟩:=b;obtain⟨t',rfl⟩:=c;have a:=FJ;refine SB.mul ⟨?_,λf j=>?_,λf j=>?_⟩ λt' k=>⟨.str _,H,I.tok k,⟨_,rfl⟩,q⟩
 ·rw[BR (by omega),BR<|(by omega)];rfl
 ·have n:(z.length:Int)<=100000:=by
   have o:z.length*1<=z.length*i.toNat:=Nat.mul_le_mul_left _ (by omega);omega
  have p:(100000:Int)<=(2 ^ 63-1)/i:=by
   rw[Int.le_ediv_iff_mul_le<|(by omega)];have:(100000:Int)*i<=100000*100000:=Int.mul_le_mul_of_nonneg_left d (by decide);have e:(2:Int) ^ 63-1=9223372036854775807:=(by decide)
   omega
  omega
 ·unfold Builtin.Str.tooLong;rw[a];exact BR<|(by omega)
def gf:Expr->Bool
 |.Starred _ _=>true
 |_=>false
def gr(a:Ô):Bool:=a.all λe=>!gf e
def qf(e:Expr)(a:Ô)(env:Env)(h:gf e=false):starEach (e :: a) env=(false,eval e env):: starEach a env:=by
 cases e<;>first|rfl|(exact absurd h<|by simp[gf])
theorem yY(pos:Pos)(env:Env):∀a:Ô,gr a=true->(backTo pos<|starEach a env).any (·.1)=false
 |[],_=>rfl
 |e :: a,h=>by
  have h':(!gf e)=true/\gr a=true:=by
   have:=h;unfold gr at this ⊢;rwa[Gy,Bq]at this
  have b:gf e=false:=by
   have:=h'.1;cases q:gf e with
   |true=>rw[q]at this;cases this
   |false=>rfl
  rw[qf e a env b];show(false || (backTo pos<|starEach a env).any (·.1))=false;rw[yY pos env a h'.2];rfl
variable{es:Ô}
theorem sU(h:gr (e :: es)=true):gf e=false/\gr es=true:=by
 unfold gr at h ⊢;rw[Gy,Bq]at h;refine⟨?_,h.2⟩;cases q:gf e with
 |true=>rw[q]at h;cases h.1
 |false=>rfl
variable{r:List V->Hp->VK->Prop}{ds:Ó}{mE:List V}
section
variable{k:Nat}{C:Addr}{E:XK}{m:Str}{p pos:Pos}{o:Expr}{ta te:TE}{t:TA}{id T:String}
def iW(a:PE X e te)(b:PA X es t)(c:gf e=false:=by rfl):PA X (e :: es) (PH te t):=Zg a b<|qf _ _ _ c
def L1(F:aD X.U X.w X.K X.mg X.Z CX k f fd ps sp)(b:bv k X.A)(c:X.mg x=some (.ref f))(d:PySem.W.keepIn X.K (.ref f)=true)(h:ma X.K fd ps [])(i:p9 CX X E)
  (j:PA X (e :: es) t) (l:Gl X x:=by rfl) (m:(x == ("__debug__" : Str))=false:=by decide) (a:gr (e :: es)=true:=by rfl):PE X (.Call (.Name x p) (e :: es) [] pos) (PR sp [] E t):=
 Zk F b l c d h .nil i j m (qf _ _ _ (sU a).1) (yY _ _ _ (sU a).2)
def F0(b:fE X (.builtin id) r)(c:X.mg x=none)(d:bootBuiltins x=some (.builtin id))(f:PA X (e :: es) t)(h:Gl X x:=by rfl)(i:x ≠ "__name__":=by decide)(j:(x == ("__debug__" : Str))=false:=by decide)
  (a:gr (e :: es)=true:=by rfl):PE X (.Call (.Name x p) (e :: es) [] pos) (yT r t):=
 Zn b h c d f i j (qf _ _ _ (sU a).1) (yY _ _ _ (sU a).2)
def F1(b:fE X (.type T) r)(c:X.mg x=none)(d:bootBuiltins x=some (.type T))(f:PA X (e :: es) t)(h:Gl X x:=by rfl)(i:x ≠ "__name__":=by decide)(j:(x == ("__debug__" : Str))=false:=by decide)
  (a:gr (e :: es)=true:=by rfl):PE X (.Call (.Name x p) (e :: es) [] pos) (yT r t):=
 Zo b h c d f i j (qf _ _ _ (sU a).1) (yY _ _ _ (sU a).2)
end
structure Ev(X:Cx)(e:Expr)(σ:St)(H:Hp)(Q:VK):Prop where
 run:∀O s,be X O σ H s->ar X (eval e X.env) (EP X O σ Q) X.xe s
structure Et(X:Cx)(e:Expr)(σ:St)(H:Hp)(Q:Bool->Hp->Prop):Prop where
 run:∀O s,be X O σ H s->ar X (isTrue e X.env<|eval e X.env) (TP X O σ Q) X.xe s
structure Ew(X:Cx)(e:Expr)(σ:St)(H:Hp)(Q:Bool->Hp->Prop):Prop where
 run:∀whole O s,be X O σ H s->ar X (isTrue e X.env whole) (TP X O σ Q) X.xe s
structure Ea(X:Cx)(es:Ô)(σ:St)(H:Hp)(Q:List V->Hp->Prop):Prop where
 run:∀pos O s,be X O σ H s->ar X (spliced<|backTo pos<|starEach es X.env) (AP X O σ Q) X.xe s
structure Eo(X:Cx)(e:Option Expr)(σ:St)(H:Hp)(Q:Option Int->Hp->Prop):Prop where
 run:∀O s,be X O σ H s->ar X (evalPart e X.env) (λu s'=>∃o H',be X O σ H' s'/\IsPart u o/\Q o H') X.xe s
structure Eg(X:Cx)(e:Expr)(v:V)(σ:St)(H:Hp)(Q:St->Hp->Prop):Prop where
 run:∀O s u,be X O σ H s->fg v u->ar X (assign e X.env u) (λ_ s'=>∃σ' H',be X O σ' H' s'/\Q σ' H') X.xe s
structure ge(X:Cx)(l:Õ)(D:mi)(σ:St)(H:Hp):Prop where
 run:∀O s,be X O σ H s->ar X (execs l X.env) (SP X O D) X.xe s
def gz(X:Cx)(e:Expr):TE:=λσ H Q=>Ev X e σ H Q
def RI(X:Cx)(e:Expr):TT:=λσ H Q=>Et X e σ H Q
def cw(X:Cx)(e:Expr):TT:=λσ H Q=>Ew X e σ H Q
def vh(X:Cx)(es:Ô):TA:=λσ H Q=>Ea X es σ H Q
def uD(X:Cx)(e:Option Expr):TO:=λσ H Q=>Eo X e σ H Q
def L0(X:Cx)(e:Expr):TG:=λv σ H Q=>Eg X e v σ H Q
def F3(X:Cx)(l:Õ):TS:=λD σ H=>ge X l D σ H
variable{D:mi}{L L':List V->Hp->Prop}{T T':Bool->Hp->Prop}{j:Nat}{op:CmpOp}{wi:TI}{at_:Addr}
section
variable{a b o:Expr}{rest body mM:Õ}{Q:VK}{pos p p2:Pos}
def bd:PE X e (gz X e):=λO s _ _ _ I h=>h.run O s I
def mO:PT X e (RI X e):=λO s _ _ _ I h=>h.run O s I
def Qr:PW X e (cw X e):=λa O s _ _ _ I h=>h.run a O s I
def gL:PA X es (vh X es):=λpos O s _ _ _ I h=>h.run pos O s I
def Qs{e:Option Expr}:PO X e (uD X e):=λO s _ _ _ I h=>h.run O s I
def qg:PG X e (L0 X e):=λO s _ _ _ u _ I r h=>h.run O s u I r
def oK{l:Õ}:ji X l (F3 X l):=λO s _ _ _ I h=>h.run O s I
def c8{t:TE}(a:PE X e t)(b:t σ H Q):Ev X e σ H Q:=⟨λO s I=>a O s σ H Q I b⟩
def sV{t:TT}(a:PT X e t)(b:t σ H T):Et X e σ H T:=⟨λO s I=>a O s σ H T I b⟩
def yZ{t:TT}(a:PW X e t)(b:t σ H T):Ew X e σ H T:=⟨λc O s I=>a c O s σ H T I b⟩
def Qt{t:TA}(a:PA X es t)(b:t σ H L):Ea X es σ H L:=⟨λpos O s I=>a pos O s σ H L I b⟩
def Qu{e:Option Expr}{t:TO}{R:Option Int->Hp->Prop}(a:PO X e t)(b:t σ H R):Eo X e σ H R:=⟨λO s I=>a O s σ H R I b⟩
def F4{t:TG}{R:St->Hp->Prop}(a:PG X e t)(b:t v σ H R):Eg X e v σ H R:=⟨λO s u I r=>a O s σ H v u R I r b⟩
def jL{t:TS}(b:PS X st t)(c:t {D with nx:=λa H'=>ge X rest D a H'} σ H):ge X (st :: rest) D σ H:=⟨λO s I=>Yu b oK O s σ H D I c⟩
def a7(h:D.nx σ H):ge X [] D σ H:=⟨λO s I=>Pa O s σ H D I h⟩
def Ev.mono{a:VK}(h:Ev X e σ H Q)(f:∀v H',Q v H'->a v H'):Ev X e σ H a:=⟨λO s I=>aN (h.run O s I) λ_ _⟨v,H',b,r,q⟩=>⟨v,H',b,r,f v H' q⟩⟩
def Et.mono(h:Et X e σ H T)(f:∀v H',T v H'->T' v H'):Et X e σ H T':=⟨λO s I=>aN (h.run O s I) λv _⟨H',a,q⟩=>⟨H',a,f v H' q⟩⟩
def Ea.mono(h:Ea X es σ H L)(f:∀v H',L v H'->L' v H'):Ea X es σ H L':=⟨λpos O s I=>aN (h.run pos O s I) λ_ _⟨v,H',a,r,q⟩=>⟨v,H',a,r,f v H' q⟩⟩
def ae(i:Nat)(h:Q v H)(a:σ[i]?=some (some v):=by rfl)(b:X.N[i]?=some x:=by rfl)(c:DS X.env.scope x:=by first | exact Or.inl rfl | exact Or.inr (Or.inl rfl) | exact Or.inr<|Or.inr rfl)(hd:(x == ("__debug__" : Str))=false:=by decide)
  (d:(x == ("__classdict__" : Str))=false:=by decide):Ev X (.Name x p) σ H Q:=c8 (X6 b c hd d) ⟨v,a,h⟩
def aE{i:Int}(h:Q (.int i) H):Ev X (.Constant (.int i) j p) σ H Q:=c8 (X7) h
def sX{i:Bool}(h:Q (.bl i) H):Ev X (.Constant (.bool i) j p) σ H Q:=c8 (X8) h
def vi(h:Q .non H):Ev X (.Constant .none j p) σ H Q:=c8 (X9) h
def vj{i:Str}(h:Q (.str i) H):Ev X (.Constant (.str i) j p) σ H Q:=c8 (Ya) h
def F5(a:X.mg x=some u)(r:fg v u)(h:Q v H)(b:Gl X x:=by rfl)(hd:(x == ("__debug__" : Str))=false:=by decide):Ev X (.Name x p) σ H Q:=c8 (Yb b a r hd) h
def sY(v:V)(a:X.mg x=none)(b:bootBuiltins x=some u)(r:fg v u)(h:Q v H)(c:Gl X x:=by rfl)(d:x ≠ "__name__":=by decide)(hd:(x == ("__debug__" : Str))=false:=by decide):Ev X (.Name x p) σ H Q:=c8 (Yc c a b r d hd) h
def aU{op:Operator}{r:R2}(c:cG X (binaryOp op) r)(h:Ev X a σ H λx d=>Ev X b σ d λy H2=>r x y H2 Q):Ev X (.BinOp a op b pos) σ H Q:=c8 (YW c bd bd) h
def y4{op:UnaryOp}{r:V->Hp->VK->Prop}(b:yO X (unaryOp op) r)(h:Ev X a σ H λx c=>r x c Q):Ev X (.UnaryOp op a pos) σ H Q:=c8 (YX b bd) h
def hG{r:R2}(c:cG X (compareOp op) r)(h:Ev X a σ H λx d=>Ev X b σ d λy H2=>r x y H2 Q)(e:behindInMarks op b=false:=by with_unfolding_all rfl):Ev X (.Compare a [op] [b] pos) σ H Q:=c8 (Y7 c bd bd e) h
def CO(h:Ev X a σ H λx b=>∃k,x=.bl k/\Q (.bl (!k)) b):Ev X (.UnaryOp .Not a pos) σ H Q:=c8 (Yp bd) h
def F6(h:Ev X a σ H λx c=>∃k,x=.bl k/\if k=true then Ev X (.BoolOp .And (b :: es) pos) σ c Q else Q (.bl false) c):Ev X (.BoolOp .And (a :: b :: es) pos) σ H Q:=c8 (Yn bd bd) h
def AE(h:Ev X a σ H λx c=>∃k,x=.bl k/\if k=true then Q (.bl true) c else Ev X (.BoolOp .Or (b :: es) pos) σ c Q):Ev X (.BoolOp .Or (a :: b :: es) pos) σ H Q:=c8 (Yo bd bd) h
def F7{op:BoolOp}(h:Ev X a σ H Q):Ev X (.BoolOp op [a] pos) σ H Q:=c8 (Ym bd) h
def q19(h:Et X c σ H λk d=>if k=true then Ev X a σ d Q else Ev X b σ d Q):Ev X (.IfExp c a b pos) σ H Q:=c8 (Yr mO bd bd) h
def bb{r:R2}(c:uU X r)(h:Ev X a σ H λx d=>Ev X b σ d λy H2=>r x y H2 Q)(e:P4 b:=by intro _ _;rfl):Ev X (.Subscript a b pos) σ H Q:=c8 (ZA c bd bd e) h
def y7{r:V->Option Int->Option Int->Hp->VK->Prop}{lo b:Option Expr}(c:EV X r)(h:Ev X a σ H λx d=>Eo X lo σ d λl H2=>Eo X b σ H2 λu e=>r x l u e Q):Ev X (.Subscript a (.Slice lo b none p2) pos) σ H Q:=c8 (Zw c bd Qs Qs) h
def y8{R:Option Int->Hp->Prop}(h:R none H):Eo X none σ H R:=Qu (Zt) h
def y9{R:Option Int->Hp->Prop}(h:Ev X a σ H λx b=>∃i,x=.int i/\R (some i) b):Eo X (some a) σ H R:=Qu (Zu bd) h
def ax(h:L [] H):Ea X [] σ H L:=Qt (Zf) h
def ai(h:Ev X e σ H λx a=>Ea X es σ a λxs H2=>L (x :: xs) H2)(b:gf e=false:=by rfl):Ea X (e :: es) σ H L:=Qt (iW bd gL b) h
def fv{k:Nat}(h:Ea X es σ H λxs a=>xs.length<=sizeLine/\∀p,a p=none->Q (.ref p) (upd a p<|.tup xs)):Ev X (.Tuple es k pos) σ H Q:=c8 (Zh gL) h
def dS(h:Ea X es σ H λxs a=>xs.length<=sizeLine/\∀p,a p=none->Q (.ref p) (upd a p<|.lst xs)):Ev X (.List es pos) σ H Q:=c8 (Zi gL) h
def Qv{k:Nat}{E:XK}(F:aD X.U X.w X.K X.mg X.Z CX k f fd ps sp)(b:bv k X.A)(c:X.mg x=some (.ref f))(d:PySem.W.keepIn X.K (.ref f)=true)(i:ma X.K fd ps [])(j:p9 CX X E)
  (h:Ea X (e :: es) σ H λvs a=>sp vs a Q E) (l:Gl X x:=by rfl) (m:(x == ("__debug__" : Str))=false:=by decide) (n:gr (e :: es)=true:=by rfl):Ev X (.Call (.Name x p) (e :: es) [] pos) σ H Q:=
 c8 (L1 F b c d i j gL l m n) (show Ea X (e :: es) σ H _ from h.mono λvs a q=>by rwa[Be])
def bP{id:String}(a:fE X (.builtin id) r)(b:X.mg x=none)(c:bootBuiltins x=some (.builtin id))(h:Ea X (e :: es) σ H λvs d=>r vs d Q)(f:Gl X x:=by rfl)(i:x ≠ "__name__":=by decide)(j:(x == ("__debug__" : Str))=false:=by decide)
  (k:gr (e :: es)=true:=by rfl):Ev X (.Call (.Name x p) (e :: es) [] pos) σ H Q:=c8 (F0 a b c gL f i j k) h
def mP{T:String}(a:fE X (.type T) r)(b:X.mg x=none)(c:bootBuiltins x=some (.type T))(h:Ea X (e :: es) σ H λvs d=>r vs d Q)(f:Gl X x:=by rfl)(i:x ≠ "__name__":=by decide)(j:(x == ("__debug__" : Str))=false:=by decide)
  (k:gr (e :: es)=true:=by rfl):Ev X (.Call (.Name x p) (e :: es) [] pos) σ H Q:=c8 (F1 a b c gL f i j k) h
def cH{r:R2}(c:cG X (compareOp op) r)(h:Ev X a σ H λx d=>Ev X b σ d λy H2=>r x y H2 λz e=>∃k,z=.bl k/\T k e)(f:behindInMarks op b=false:=by with_unfolding_all rfl):Et X (.Compare a [op] [b] pos) σ H T:=sV (Y9 c bd bd f) h
def lR(h:Et X a σ H λk b=>T (!k) b):Et X (.UnaryOp .Not a pos) σ H T:=sV (Yj mO) h
def iu(h:Ev X e σ H λx a=>∃k,x=.bl k/\T k a)(b:∀whole,isTrue e X.env whole=(do let v <-whole;standAt e.pos;holding [v] (truthy v)):=by intro _;rfl):Et X e σ H T:=sV (Yd bd b) h
def Qw(h:Ev X e σ H λx a=>∃k,mB X.K x a k/\T k a)(b:∀whole,isTrue e X.env whole=(do let v <-whole;standAt e.pos;holding [v] (truthy v)):=by intro _;rfl):Et X e σ H T:=sV (Za bd b) h
def mQ(h:Ew X e σ H T):Et X e σ H T:=⟨λO s I=>h.run _ O s I⟩
def zg(h:Et X a σ H λk c=>if k=true then Ew X (.BoolOp .And (b :: es) pos) σ c T else T false c):Ew X (.BoolOp .And (a :: b :: es) pos) σ H T:=yZ (Yh mO Qr) h
def vk(h:Et X a σ H λk c=>if k=true then T true c else Ew X (.BoolOp .Or (b :: es) pos) σ c T):Ew X (.BoolOp .Or (a :: b :: es) pos) σ H T:=yZ (Yi mO Qr) h
def zh(h:Et X a σ H T):Ew X (.BoolOp .And [a] pos) σ H T:=yZ (Yf mO) h
def vp(h:Et X a σ H T):Ew X (.BoolOp .Or [a] pos) σ H T:=yZ (Yg mO) h
def a8(i:Nat){R:St->Hp->Prop}(a:X.N.Nodup)(h:R (σ.set i<|some v) H)(b:X.N[i]?=some x:=by rfl)(c:xp X.env.scope x:=by first|exact Or.inl rfl|exact Or.inr rfl)(d:X.fn x=true\/X.env.scope.names.lookup x=some .local:=by first|exact .inl rfl|exact .inr rfl|assumption):Eg X (.Name x p) v σ H R:=F4 (Yz a b c d) h
def aT(i:Nat)(a:X.N.Nodup)(h:Ev X e σ H λv b=>ge X rest D (σ.set i<|some v) b)(c:X.N[i]?=some x:=by rfl)(d:xp X.env.scope x:=by first|exact Or.inl rfl|exact Or.inr rfl)(f:swapsWith e (some<|.Name x pos') pos.line X.env=pure false:=by rfl)
  (j:X.fn x=true\/X.env.scope.names.lookup x=some .local:=by first|exact .inl rfl|exact .inr rfl|assumption):ge X (.Assign [.Name x pos'] e pos :: rest) D σ H:=jL (YC a c d bd f j) h
def fP(h:Et X c σ H λk b=>if k=true then ge X body {D with nx:=λa H'=>ge X rest D a H'} σ b else ge X mM {D with nx:=λa H'=>ge X rest D a H'} σ b):ge X (.If c body mM pos :: rest) D σ H:=jL (Yy mO oK oK) h
def vq(b ψ:Prop)(d:∀T:Bool->Hp->Prop,(∀k:Bool,(k=true->b)->(k=false->ψ)->T k H)->Et X c σ H T)(e:b->ge X body {D with nx:=λa H'=>ge X rest D a H'} σ H)(f:ψ->ge X mM {D with nx:=λa H'=>ge X rest D a H'} σ H):ge X (.If c body mM pos :: rest) D σ H:=
 fP (d _ λk p q=>by
  cases k with
  |true=>rw[BP rfl];exact e<|p rfl
  |false=>rw[BK Ax];exact f<|q rfl)
def bQ(h:Ev X e σ H D.rt):ge X (.Return (some e) pos :: rest) D σ H:=jL (Yx bd) h
def gq(h:Ev X e σ H λ_ a=>ge X rest D σ a)(b:swapsWith e none pos.line X.env=pure false:=by rfl):ge X (.Expr e pos :: rest) D σ H:=jL (Yw bd b) h
def F8(h:Ev X e σ H λv b=>Eg X tg v σ b λa H'=>ge X rest D a H')(c:swapsWithSole [tg] e pos.line X.env=pure false:=by rfl)(d:swappedStores [tg] e X.env=pure none:=by rfl)
  (f:(assignEach [tg] X.env).map (·.2)=[assign tg X.env]:=by rfl):ge X (.Assign [tg] e pos :: rest) D σ H:=jL (YB bd qg c d f) h
def uu(X:Cx)(tg:Expr)(body:Õ)(J:It)(D:mi)(after:St->Hp->Prop)(σ:St)(H:Hp):Prop:=
 ∃ W:Nat->Nat->St->Hp->Prop,(∃ m,W 0 m σ H)/\∀ i m σ H,W i m σ H->(J.stop i H/\after σ H)\/(J.go i H/\∃ N:St->Hp->Prop,(∀ a H',N a H'->∃ c,c < m/\W (i+1) c a H') /\
  ∀x H',J.uK i H x H'->Eg X tg x σ H' λb H2=>ge X body {D with nx:=N,ct:=N,bk:=after} b H2)
def sZ(b:PI X tg iter wi)(h:wi σ H λJ c=>uu X tg body J D (λa H'=>ge X rest D a H') σ c)(d:PassesOwn (model X.U X.w) X.A X.env X.xe:=by exact KQ)(e:X.calm=true:=by rfl)
  (f:∀x,foldedSetIterable iter X.env x=pure x:=by intro _;rfl):ge X (.For tg iter body [] pos :: rest) D σ H:=jL (YR d e b qg oK f) h
def ke{q:Pos}(f:X.mg "range" = none)(h:Ev X a σ H λx c=>∃j:Int,x=.int j/\-(2 ^ 62)<=j/\j<2 ^ 62/\uu X tg body (sN 0 j.toNat) D (λb H'=>ge X rest D b H') σ c)(i:Gl X "range":=by rfl)(k:PassesOwn (model X.U X.w) X.A X.env X.xe:=by exact KQ)(l:X.calm=true:=by rfl)(d:gf a=false:=by rfl):
  ge X (.For tg (.Call (.Name "range" q) [a] [] p) body [] pos :: rest) D σ H:=
 sZ (yM i f gL<|qf a [] _ d) (show Ea X [a] σ H _ from ai (h.mono λx c⟨j,e,m,n,o⟩=>ax ⟨j,by rw[e],m,n,o⟩) d) k l (by intro _;rfl)
def Qx(h:Ev X iter σ H λx c=>∃a,x=.ref a/\(∃xs,aS X.K c a xs)/\uu X tg body (yL X.K a) D (λb H'=>ge X rest D b H') σ c)(d:PassesOwn (model X.U X.w) X.A X.env X.xe:=by exact KQ)(e:X.calm=true:=by rfl)
  (f:∀x,foldedSetIterable iter X.env x=pure x:=by intro _;rfl):ge X (.For tg iter body [] pos :: rest) D σ H:=sZ (YM bd) h d e f
def lS(h:Ev X iter σ H λx c=>∃a,x=.ref a/\(∃xs,aj X.K c a xs)/\uu X tg body (pV X.K a) D (λb H'=>ge X rest D b H') σ c)(d:PassesOwn (model X.U X.w) X.A X.env X.xe:=by exact KQ)(e:X.calm=true:=by rfl)
  (f:∀x,foldedSetIterable iter X.env x=pure x:=by intro _;rfl):ge X (.For tg iter body [] pos :: rest) D σ H:=sZ (eB bd) h d e f
theorem kg{lo:Int}{after:St->Hp->Prop}(Pv:Nat->St->Hp->Prop)(c:Pv 0 σ H)
  (d:∀i σ H,i<n->Pv i σ H->Eg X tg (.int<|lo+i) σ H λa H2=>ge X body {D with nx:=Pv<|i+1,ct:=Pv<|i+1,bk:=after} a H2) (hd:∀σ H,Pv n σ H->after σ H):uu X tg body (sN lo n) D after σ H:=by
 refine⟨λi m σ H=>m=n-i/\i<=n/\Pv i σ H,⟨n,by simp,Bu _,c⟩,?_⟩;rintro i m σ H ⟨rfl,j,p⟩
 by_cases b:i<n
 ·refine .inr ⟨b,Pv<|i+1,λf H' h=>⟨n-(i+1),(by omega),rfl,b,h⟩,λx H' y=>?_⟩;obtain⟨e,y⟩:=y;subst e y;exact d i σ _ b p
 ·have e:i=n:=(by omega)
  subst e;exact .inl ⟨Am _,hd σ H p⟩
theorem Qy{xs:List V}{after:St->Hp->Prop}(Pv:Nat->St->Hp->Prop)(c:Pv 0 σ H)(d:∀i σ H,i<=xs.length->Pv i σ H->aS X.K H at_ xs)
  (f:∀i x σ H,xs[i]?=some x->Pv i σ H->Eg X tg x σ H λa H2=>ge X body {D with nx:=Pv<|i+1,ct:=Pv<|i+1,bk:=after} a H2) (hd:∀σ H,Pv xs.length σ H->after σ H):uu X tg body (yL X.K at_) D after σ H:=by
 refine⟨λi m σ H=>m=xs.length-i/\i<=xs.length/\Pv i σ H,⟨xs.length,by simp,Bu _,c⟩,?_⟩;rintro i m σ H ⟨rfl,h,p⟩;have q:=d i σ H h p
 by_cases b:i<xs.length
 ·refine .inr ⟨⟨xs,xs[i],q,by simp[b]⟩,Pv<|i+1,λj H' k=>⟨xs.length-(i+1),(by omega),rfl,b,k⟩,λx H' y=>?_⟩;obtain⟨e,y⟩:=y;subst e;exact f i x σ _ (y xs q) p
 ·have e:i=xs.length:=(by omega)
  subst e;exact .inl ⟨⟨xs,q,Am _⟩,hd σ H p⟩
theorem lT{xs:List V}{after:St->Hp->Prop}(Pv:Nat->St->Hp->Prop)(c:Pv 0 σ H)(d:∀i σ H,i<=xs.length->Pv i σ H->aj X.K H at_ xs)
  (f:∀i x σ H,xs[i]?=some x->Pv i σ H->Eg X tg x σ H λa H2=>ge X body {D with nx:=Pv<|i+1,ct:=Pv<|i+1,bk:=after} a H2) (hd:∀σ H,Pv xs.length σ H->after σ H):uu X tg body (pV X.K at_) D after σ H:=by
 refine⟨λi m σ H=>m=xs.length-i/\i<=xs.length/\Pv i σ H,⟨xs.length,by simp,Bu _,c⟩,?_⟩;rintro i m σ H ⟨rfl,h,p⟩;have q:=d i σ H h p
 by_cases b:i<xs.length
 ·refine .inr ⟨⟨xs,xs[i],q,by simp[b]⟩,Pv<|i+1,λj H' k=>⟨xs.length-(i+1),(by omega),rfl,b,k⟩,λx H' y=>?_⟩;obtain⟨e,y⟩:=y;subst e;exact f i x σ _ (y xs q) p
 ·have e:i=xs.length:=(by omega)
  subst e;exact .inl ⟨⟨xs,q,Am _⟩,hd σ H p⟩
def bo.go{N:Ñ}{k:Nat}(F:bo K x qual st f fd)(S:ak N ps<|aP st)(len:∀vs H Q E,sp vs H Q E->vs.length=ps.length)
  (b : ∀a A outer s H vs Q E, bv k (A.deeper<|envOfC qual (aP st) s.heap.objs.size f a) → sp vs H Q E →
   ge (fq bz P w K mg Z N qual (aP st) f a A outer s H E).my (gn st) {nx:=λ_ H'=>Q .non H',rt:=Q} (jp N vs) H):aD P w K mg Z bz (k+1) f fd ps sp:=
 F.ok S len λa A outer s H vs Q E c d=>⟨_,oK,b a A outer s H vs Q E c d⟩
end
structure Ei(X:Cx)(ifs:Ô)(σ:St)(H:Hp)(Q:Bool->Hp->Prop):Prop where
 run:∀O s,be X O σ H s ->
  ar X (forIn ifs true λc r=>if r=true then do let ok <-isTrue c X.env<|eval c X.env;pure (ForInStep.yield ok)else pure (ForInStep.yield r)) (TP X O σ Q) X.xe s
def vt(X:Cx)(N':Ñ)(scope:Scope)(e:Expr)(σ:St)(H:Hp)(Q:VK):Prop:=∀a C b c d,Ev (fO X N' scope a C b c d) e σ H Q
def vw(X:Cx)(N':Ñ)(scope:Scope)(e:Expr)(v:V)(σ:St)(H:Hp)(Q:St->Hp->Prop):Prop:=∀a C b c d,Eg (fO X N' scope a C b c d) e v σ H Q
def vx(X:Cx)(N':Ñ)(scope:Scope)(ifs:Ô)(σ:St)(H:Hp)(Q:Bool->Hp->Prop):Prop:=∀a C b c d,Ei (fO X N' scope a C b c d) ifs σ H Q
def lU(X:Cx)(N':Ñ)(scope:Scope)(tg:Expr)(ifs:Ô)(elt:Expr)(J:It)(D:Addr)(after:Hp->Prop)(σ:St)(H:Hp):Prop:=
 ∃W:Nat->Nat->St->Hp->Prop,(∃m,W 0 m σ H)/\∀i m a H',W i m a H' ->
  (J.stop i H' ∧ after H') ∨ (J.go i H' ∧ ∃ N : St → Hp → Prop, (∀ a H', N a H' → ∃ e, e < m ∧ W (i + 1) e a H') ∧ ∀ x H2, J.uK i H' x H2 → vw X N' scope tg x a H2 λc j => vx X N' scope ifs c j λb f =>
   if b=true then vt X N' scope elt c f λv h=>∃d,h D=some (.lst d)/\d.length<sizeLine/\N c (upd h D<|.lst<|d++[v])else N c f)
theorem qh:∀names n acc,cellsFrom n names acc=cellsFrom n names []++acc
 |[],_,_=>rfl
 |(y,k):: r,n,acc=>by
  unfold cellsFrom
  split
  ·rw[qh r (n+1)<|(y,n):: acc,qh r (n+1) [(y,n)],Au];rfl
  ·exact qh r n acc
set_option tactic.hygienic true in
theorem vy:∀(names:List<|Str×NameKind)(n:Nat){x:Str}{c:Addr},(x,c)∈cellsFrom n names []->(x,NameKind.cell)∈names/\n<=c
 |[],_,_,_,h=>by cases h
 |(y,k):: r,n,x,c,h=>by
  unfold cellsFrom at h
  split at h
  ·rename_i d;rw[qh,An]at h
   obtain h|h:=h
   ·obtain⟨a,b⟩:=vy r (n+1) h;exact⟨Ak _ a,(by omega)⟩
   ·cases Af.mp h;have:k=.cell:=by cases k<;>first|rfl|exact absurd d<|(by decide)
    subst this;exact⟨Ag,Am _⟩
  ·obtain⟨a,b⟩:=vy r n h;exact⟨Ak _ a,b⟩
variable{cl:List (Str×Addr)}{names:List (Str×NameKind)}
theorem Qz{c:Addr}(h:(cellsFrom n names cl).lookup x=some c):((x,c)∈cellsFrom n names []/\n<=c)\/cl.lookup x=some c:=by
 rw[qh,QX]at h;cases e:(cellsFrom n names []).lookup x with
 |some d=>
  rw[e]at h;cases h;have a:=DG e;exact .inl ⟨a,(vy _ _ a).2⟩
 |none=>
  rw[e]at h;exact .inr h
theorem GG(h:(x,NameKind.cell)∉names):(cellsFrom n names cl).lookup x=cl.lookup x:=by
 rw[qh,QX];cases e:(cellsFrom n names []).lookup x with
 |some d=>exact absurd (vy _ _<|DG e).1 h
 |none=>rfl
variable{builtins globals:Addr}{outer:Env}{code:Value}{func:Option Addr}{closure:List (Str×Addr)}
def k0q{Q:Env->Shared->Prop}
  (d : ∀ h', h'.Ns s.heap.objs.size (λ_ => none) → (∀ b o, s.heap.get? b = some o → h'.get? b = some o) → CellsOk h' (s.heap.objs.size + 1) (cellsFrom (s.heap.objs.size + 1) scope.names []) →
   Q (newEnv scope s.heap.objs.size globals (cellsFrom (s.heap.objs.size+1) scope.names closure) qual func code (some outer) builtins) {s with heap:=h'}):
  wpAny M A (newFunctionEnv scope globals closure [] qual func code (some outer) builtins) Q E s:=by
 simp only[newFunctionEnv,Option.isSome_some,DP];refine BJ<|QT ?_;refine BJ (wpAny_layCells _ (λname kind a=>by cases c:kind == NameKind.cell <;> simp[c]) _ _ _ _ ?_);have ok:=cellsFrom_ok scope.names (s.heap.push {cls:= .type "dict",data:= .dict #[]}) (s.heap.objs.size+1) [] ⟨λ_ _ f=>(nomatch f),List.Pairwise.nil⟩ (by rw[Dh];exact Am _);rw[Dh]at ok;rw[show({s with heap:=s.heap.push {cls:= .type "dict",data:= .dict #[]}}:Shared).heap.objs.size=s.heap.objs.size+1 from Dh ..];rw[List.forIn_nil];exact BJ<|BL<|BL<|d _ ((Heap.Ns.new s.heap<|.type "dict").keeps<|pushCells_keeps _ _) (λb o e=>pushCells_keeps _ _ b o<|Ae _ e) ok
def mR(a scope:Scope)(N N':Ñ):Bool:=
 (match scope.kind with|.function=>true|_=>false) &&
 scope.names.all (λy=>match y.2 with
  |.cell=>(match scope.names.lookup y.1 with|some .cell=>true|_=>false)
  |.local=>(match scope.names.lookup y.1 with|some .local=>true|_=>false)
  |.free=>(match a.names.lookup y.1 with|some .cell=>true|some .free=>true|_=>false) && (match scope.names.lookup y.1 with|some .free=>true|_=>false)
  |_=>true) &&
 (range N'.length).all λi => match N'[i]? with
  |none=>true
  |some x=>match scope.names.lookup x with
   |some .local=>decide (N.length<=i)
   |some .cell=>decide (N.length<=i)
   |some .free=>decide (N[i]?=some x)
   |_=>true
structure cA(sc scope:Scope)(N N':Ñ):Prop where
 kind:scope.kind=.function
 cell:∀y∈scope.names,y.2=.cell->scope.names.lookup y.1=some .cell
 names:∀y∈scope.names,y.2=.local->scope.names.lookup y.1=some .local
 free:∀y∈scope.names,y.2=.free->sc.names.lookup y.1=some .cell\/sc.names.lookup y.1=some .free
 QA:∀y∈scope.names,y.2=.free->scope.names.lookup y.1=some .free
 own:∀(i:Nat)x,N'[i]?=some x->scope.names.lookup x=some .local->N.length<=i
 F9:∀(i:Nat)x,N'[i]?=some x->scope.names.lookup x=some .cell->N.length<=i
 out:∀(i:Nat)x,N'[i]?=some x->scope.names.lookup x=some .free->N[i]?=some x
variable{N':Ñ}{sc:Scope}
def cA.of{N:Ñ}(h:mR sc scope N N'=true):cA sc scope N N':=by
 unfold mR at h;rw[Bq,Bq]at h;obtain⟨⟨d,j⟩,k⟩:=h;have c:=De.mp j;have f:=De.mp k;refine⟨?_,λy b e=>?_,λy b e=>?_,λy b e=>?_,λy b e=>?_,λi x a e=>?_,λi x a e=>?_,λi x a e=>?_⟩
 ·revert d;cases scope.kind<;>intro d<;>first|rfl|cases d
 ·have q:=c y b;rw[e]at q;simp only at q
  split at q
  ·assumption
  ·cases q
 ·have q:=c y b;rw[e]at q;simp only at q
  split at q
  ·assumption
  ·cases q
 ·have q:=c y b;rw[e]at q;simp only at q;rw[Bq]at q;have q:=q.1
  split at q
  ·exact .inl<|by assumption
  ·exact .inr<|by assumption
  ·cases q
 ·have q:=c y b;rw[e]at q;simp only at q;rw[Bq]at q;have q:=q.2
  split at q
  ·assumption
  ·cases q
 ·have q:=f i<|Bc.mpr (Ac.mp a).1;rw[a]at q;simp only[e]at q;exact BX q
 ·have q:=f i<|Bc.mpr (Ac.mp a).1;rw[a]at q;simp only[e]at q;exact BX q
 ·have q:=f i<|Bc.mpr (Ac.mp a).1;rw[a]at q;simp only[e]at q;exact BX q
variable{m:Ò}{h₁:Heap}{fp:List Addr}
theorem Of(I:be X O σ H s)(l:cA X.env.scope scope X.N N')(hl:N'.length=X.N.length+n)
  (oI:h₁.Ns s.heap.objs.size m) (old:∀b o,s.heap.get? b=some o->h₁.get? b=some o) (dU:CellsOk h₁ (s.heap.objs.size+1)<|cellsFrom (s.heap.objs.size+1) scope.names [])
  (w:∀b∈fp,cr X O H b/\b<s.heap.objs.size):
  be (fO X N' scope (cellsFrom (s.heap.objs.size+1) scope.names<|cM scope.names X.env.cells []) s.heap.objs.size s H fp) [] (σ++replicate n none) H {s with heap:=h₁,toks:=t'}:=by
 have sub:∀x c,(cM scope.names X.env.cells []).lookup x=some c->X.env.cells.lookup x=some c:=λx c e=>FU _ _ _ (λ_ _ z=>by simp at z) x c<|DG e;have both:∀x c,(cellsFrom (s.heap.objs.size+1) scope.names<|cM scope.names X.env.cells []).lookup x=some c->((x,c)∈cellsFrom (s.heap.objs.size+1) scope.names []/\s.heap.objs.size+1<=c)\/X.env.cells.lookup x=some c:=λx c e=>by
  obtain z|z:=Qz e
  ·exact .inl z
  ·exact .inr<|sub x c z
 have oP:∀x c,X.env.cells.lookup x=some c->c<s.heap.objs.size:=λx c e=>by
  obtain⟨v,o,A,_⟩:=I.cell x c e;exact Ap A
 have G:H s.heap.objs.size=none:=I.aF.fresh<|Am _;have kindOf:∀{x:Str}{f:NameKind},(relabel scope X.env).names.lookup x=some f->∃k,scope.names.lookup x=some k/\(f=k\/(k=.free/\f=.cell)):=λz=>Qm z;have QE:∀x,scope.names.lookup x=some .free->(cellsFrom (s.heap.objs.size+1) scope.names<|cM scope.names X.env.cells []).lookup x=(cM scope.names X.env.cells []).lookup x:=λx e=>GG λq=>by
  have:=l.cell _ q rfl;rw[e]at this;cases this
 have GH:∀x,scope.names.lookup x=some .cell->∃c,(cellsFrom (s.heap.objs.size+1) scope.names<|cM scope.names X.env.cells []).lookup x=some c:=λx e=>Ez.mp<|JV _ _ _<|.inl e;have J:(fO X N' scope (cellsFrom (s.heap.objs.size+1) scope.names<|cM scope.names X.env.cells []) s.heap.objs.size s H fp).Ok:=by
  refine⟨I.ok.mod,l.kind,I.ok.glob,I.ok.blt,Am _,λx y c L a=>?_,λx M=>?_,λx c N e=>?_,I.ok.hd,I.ok.frames,.inl rfl,λb h=>⟨Bi (w b h).2,λx c e=>?_⟩,
   I.bs,By I.ok.jH I.sz,λb o e h=>?_,λb h N=>?_,I.stack,I.d8⟩
  ·obtain B|B:=both x c L
   ·obtain t|t:=both y c a
    ·exact name_of_addr dU.apart B.1 t.1
    ·exact absurd (oP y c t)<|Nat.not_lt.mpr<|Ey B.2
   ·obtain t|t:=both y c a
    ·exact absurd (oP x c B)<|Nat.not_lt.mpr<|Ey t.2
    ·exact I.ok.inj x y c B t
  ·have g8:(relabel scope X.env).names.lookup x=some .cell\/(relabel scope X.env).names.lookup x=some .free:=M;have:∃k,scope.names.lookup x=some k/\(k=.free\/k=.cell):=by
    obtain z|z:=g8
    ·obtain⟨k,e,r⟩:=kindOf z
     obtain r|⟨r,_⟩:=r
     ·exact⟨k,e,.inr r.symm⟩
     ·exact⟨k,e,.inl r⟩
    ·obtain⟨k,e,r⟩:=kindOf z
     obtain r|⟨r,_⟩:=r
     ·exact⟨k,e,.inl r.symm⟩
     ·exact⟨k,e,.inl r⟩
   obtain⟨k,e,rfl|rfl⟩:=this
   ·have q:=DG e;obtain⟨c,E⟩:=I.ok.has x<|l.free _ q rfl;obtain⟨d,hd⟩:=FX<|FV scope.names X.env.cells [] x c q E;exact⟨d,(QE x e).trans hd⟩
   ·exact GH x e
  ·have M:scope.names.lookup x=some .cell:=by
    have zi:(match scope.names.lookup x with|some .cell=>true|_=>false)=true:=N
    split at zi
    ·assumption
    ·cases zi
   have j:(cellsFrom (s.heap.objs.size+1) scope.names<|cM scope.names X.env.cells []).lookup x=some c:=e;have q1:=Ez.mp<|JV scope.names (s.heap.objs.size+1) []<|.inl M;obtain⟨d,hd⟩:=q1;rw[qh,QX,hd]at j;have a:d=c:=Option.some.inj j;have:=(vy _ _<|DG hd).2;rw[<-a];exact Ey this
  ·have j:(cellsFrom (s.heap.objs.size+1) scope.names<|cM scope.names X.env.cells []).lookup x=some c:=e
   obtain z|z:=both x c j
   ·have h1:=(w b h).2;have h2:=z.2;exact λk=>absurd h1<|Nat.not_lt.mpr<|by rw[<-k];exact Ey h2
   ·exact(w b h).1.2.2.2.2.1 x c z
  ·have:=(w b h).1.2.2.2.1
   obtain z|z:=this
   ·exact I.ok.fN b o e z
   ·exact absurd (Bf (Ap e)<|By I.ok.jH z)<|Cq _
  ·obtain z|z:=Al.mp (I.dw b N)
   ·exact(w b h).1.2.1 z
   ·exact(w b h).1.2.2.1 z
 refine⟨J,rfl,I.bare,Un.kept old,⟨m,oI,λi x v L a e3=>?_⟩,λx c e=>?_,G,λx c e=>?_,λp hp=>absurd hp (by simp[fO]),I.aF.kept old,?_⟩
 ·have C:i<σ.length:=by
   by_cases C:i<σ.length
   ·exact C
   ·rw[Ba (by omega),Fb]at a
    split at a<;>cases a
  rw[Aq C]at a;have Q:N'[i]?=some x:=L;have T:∃f,(relabel scope X.env).names.lookup x=some f/\(f=.local\/f=.cell\/f=.free):=by
   obtain z|z|z:=e3
   ·exact⟨_,z,.inl rfl⟩
   ·exact⟨_,z,.inr<|.inl rfl⟩
   ·exact⟨_,z,.inr<|.inr rfl⟩
  obtain⟨f,U,qj⟩:=T;obtain⟨k,D,r⟩:=kindOf U;have kf:k=.free:=by
   obtain r|⟨r,_⟩:=r
   ·subst r
    obtain z|z|z:=qj
    ·subst z;have:=l.own i x Q D;rw[I.len]at C;omega
    ·subst z;have:=l.F9 i x Q D;rw[I.len]at C;omega
    ·exact z
   ·exact r
  subst kf;have q:=DG D;have Y:=l.out i x Q D;obtain⟨m0,G0,iw⟩:=I.loc;have kx:=l.free _ q rfl;obtain⟨u,ru,lk⟩:=iw i x v Y a (by obtain z|z:=kx;exact .inr<|.inl z;exact .inr<|.inr z);refine⟨u,ru,.inr ⟨?_,?_⟩⟩
  ·obtain r|⟨_,r⟩:=r
   ·subst r;exact .inr U
   ·subst r;exact .inl U
  ·obtain⟨k1,_⟩|⟨_,c,E,iX⟩:=lk
   ·have G':X.env.scope.names.lookup x=some .local:=k1
    obtain z|z:=kx
    ·rw[G']at z;cases z
    ·rw[G']at z;cases z
   ·have QH:=FV scope.names X.env.cells [] x c q E;obtain⟨d,hd⟩:=FX QH;have:d=c:=Option.some.inj<|(sub x d hd).symm.trans E;subst this;obtain⟨o,A,jr⟩:=iX;exact⟨d,(QE x D).trans hd,o,old _ _ A,jr⟩
 ·have j:(cellsFrom (s.heap.objs.size+1) scope.names<|cM scope.names X.env.cells []).lookup x=some c:=e
  obtain z|z:=both x c j
  ·exact⟨none,(dU.empty x c z.1).1⟩
  ·obtain⟨v,o,A,jr⟩:=I.cell x c z;exact⟨v,o,old _ _ A,jr⟩
 ·have j:(cellsFrom (s.heap.objs.size+1) scope.names<|cM scope.names X.env.cells []).lookup x=some c:=e
  obtain z|z:=both x c j
  ·exact I.aF.fresh<|Ey z.2
  ·exact I.bC x c z
 ·rw[Ad,Fk,I.len];exact hl.symm
structure gt(e:Expr)(d:Nat)(tg iter:Expr)(ifs:Ô)(acc:Value)(env:Env)(inner:Sem Unit):Prop where
 at':(clausesOf e)[d]?=some ⟨tg,iter,ifs,0⟩
 quiet:∀it,(Code.compLoop e d it acc env).quiet=true
 den:∀(U:Program)(w:World)it,(model U w).den (.compLoop e d it acc env)=(compTurn e d it acc env).onRaise (λx=>do noteFrame x env;theTreesLotGoes x)
 und:∀(A:Around)it,A.under (.compLoop e d it acc env)=A
 Hf:∀(U:Program)(w:World)it,(model U w).den (.compStart e d it acc env)=(compStart e d it acc env).onRaise (λx=>do noteFrame x env;standAt theWindowsPlace)
 Hg:∀(A:Around)it,A.under (.compStart e d it acc env)=A
 turn:∀ it,compTurn e d it acc env=(do
   standAt iter.pos
   match <-pyNext it with
   |none=>pure<|.done .next
   |some v=>
    letOwnedTupleGo tg it v
    assign tg env v
    let mut ok:=true
    for c in ifs do
     if ok then ok <-isTrue c env<|eval c env
    if ok then
     inner
    again (.compLoop e d it acc env))
variable{inner:Sem Unit}{d:Nat}
theorem eh{it:Value}(C:gt e d tg iter ifs acc env inner)(I:Nat->Shared->Prop)
  (turn : ∀ n s, I n s → bc U w A (pyNext it) (λr À => match r with
   |none=>R (.ok .next) À
   | some v=>bc U w A (letOwnedTupleGo tg it v) (λ_ a=>bc U w A (assign tg env v) (λ_ i=>
     bc U w A (forIn ifs true λc r=>if r=true then do let ok <- isTrue c env<|eval c env;pure (ForInStep.yield ok)else pure (ForInStep.yield r)) (λok f=>
      if ok=true then bc U w A inner (λ_ j=>∃m,m<n/\I m j) (notedBy (model U w) A env λe s'=>R (.error e) s') f
      else ∃m,m<n/\I m f) (notedBy (model U w) A env λe s'=>R (.error e) s') i) (notedBy (model U w) A env λe s'=>R (.error e) s') a) (notedBy (model U w) A env λe s'=>R (.error e) s') À) (notedBy (model U w) A env λe s'=>R (.error e) s') s)
  (n:Nat) (h:I n s):
  codeAny (model U w) A (.compLoop e d it acc env) R s:=by
 refine codeAny_loop (C.quiet it) I (λn s l=>?_) n h;rw[C.und,C.den];refine wpAny_noted ?_;rw[C.turn];refine BJ<|FP<|BJ<|CT (turn n s l) (λr À h₁=>?_) λ_ _ h'=>h';cases r with
 |none=>exact BL h₁
 |some v=>
  refine BJ<|CT h₁ (λ_ a b=>?_) λ_ _ h'=>h';refine BJ<|CT b (λ_ i o=>BJ<|CT o (λok f k=>?_) λ_ _ h'=>h') λ_ _ h'=>h';cases ok with
  |false=>exact BL ⟨rfl,k⟩
  |true=>exact BJ<|CT k (λ_ j p=>BL ⟨rfl,p⟩) λ_ _ h'=>h'
def vu{it:Value}(C:gt e d tg iter ifs acc env inner)
  (b:codeAny (model U w) A (.compLoop e d it acc env) R s)
  (h:bc U w A (pyIter it) (λa s'=>codeAny (model U w) A (.compLoop e d a acc env) R s') (notedBy (model U w) A env λx s'=>R (.error x) s') s):
  codeAny (model U w) A (.compStart e d it acc env) R s:=by
 refine KR ?_;rw[C.Hg,C.Hf];refine wpAny_notedAt ?_;unfold compStart;rw[C.at'];show wpAny _ _ (ask >>= _) _ _ s;refine BJ<|KD<|wpAny_ite ?_
 split
 ·first
   |exact BJ<|BL<|BL<|And.intro (C.quiet _) b
   |exact BL<|And.intro (C.quiet _) b
 ·first
   |exact BJ<|GX<|BJ<|FP<|BJ<|CT h (λa s' h'=>BL<|And.intro (C.quiet _) h') λ_ _ x=>x
   |(refine BJ<|GX ?_;show wpAny _ _ (standAt iter.pos >>= _) _ _ s;exact BJ<|FP<|BJ<|CT h (λa s' h'=>BL<|And.intro (C.quiet _) h') λ_ _ x=>x)
structure lV(X:Cx)(m:Sem Unit)(σ:St)(H:Hp)(Q:St->Hp->Prop):Prop where
 run:∀O s,be X O σ H s->ar X m (λ_ s'=>∃σ' H',be X O σ' H' s'/\Q σ' H') X.xe s
def iy(X:Cx)(tg:Expr)(ifs:Ô)(inner:Sem Unit)(J:It)(after:St->Hp->Prop)(σ:St)(H:Hp):Prop:=
 ∃W:Nat->Nat->St->Hp->Prop,(∃m,W 0 m σ H)/\∀i m a H',W i m a H' ->
  (J.stop i H' ∧ after a H') ∨ (J.go i H' ∧ ∃ N : St → Hp → Prop, (∀ a H', N a H' → ∃ d, d < m ∧ W (i + 1) d a H') ∧ ∀ x H2, J.uK i H' x H2 → Eg X tg x a H2 λc f => Ei X ifs c f λb e =>
   if b=true then lV X inner c e N else N c e)
variable{J:It}{tn:Nat->Heap->Prop}
def zj(w:X.xe=λ_ _=>False)(G:X.calm=true)(C:gt e d tg iter ifs acc X.env inner)
  {it:Addr}    {after:St->Hp->Prop}  (I:be X O σ H s) (T:pi X.U X.w X.K tg J fp it tn) (st:tn 0 s.heap) (L:∀b∈fp,cr X O H b) (h:iy X tg ifs inner J after σ H)
  (hR:∀a H' s',be X O a H' s'->after a H'->R (.ok .next) s'):
  codeAny (model X.U X.w) X.A (.compStart e d (.ref it) acc X.env) R s:=by
 obtain⟨W,⟨m0,w0⟩,turn⟩:=h;have f:∀{H':Hp},(∀b∈fp,H' b=none)->∀b∈fp,cr X O H' b:=λhn b j=>⟨hn b j,(L b j).2⟩;have l:codeAny (model X.U X.w) X.A (.compLoop e d (.ref it) acc X.env) R s:=by
  refine eh C (λk s'=>∃i a H',be X O a H' s'/\tn i s'.heap/\(∀b∈fp,H' b=none)/\W i k a H') ?_ m0 ⟨0,σ,H,I,st,λb j=>(L b j).1,w0⟩;rintro k M ⟨i,n,y,Q,U,Y,w4⟩
  obtain⟨stop,qn⟩|⟨go,N,hN,step⟩:=turn i k n y w4
  ·have z:=T.done X rfl rfl rfl G i O M n y (λ_ _=>False) Q (f Y) U stop;refine jq z λr s5⟨A,I5⟩=>?_;subst A;exact hR _ _ _ I5 qn
  ·have z:=T.item X rfl rfl rfl G i O M n y (λ_ _=>False) Q (f Y) U go;refine jq z λr s5⟨u,A,h5⟩=>?_;subst A;refine jq h5 λ_ s6⟨x,H6,I6,r6,y6,B,D⟩=>?_;have E:=I6.pinned (f D)<|T.obj _ _ B;have again:∀{c:St}{p:Hp}{q:Shared},be X (O++uL fp s6.heap) c p q->N c p->∃m,m<k/\∃i a H',be X O a H' q/\tn i q.heap/\(∀b∈fp,H' b=none)/\W i m a H':=λ{c p q}t n7=>by
    obtain⟨m',hm,w7⟩:=hN c p n7;refine⟨m',hm,i+1,c,p,t.c6,T.keep _ _ _ B λb j o e=>(t.pin (b,o)<|Av _<|Av _<|yN j e).1,λb j=>?_,w7⟩;obtain⟨o,e,d⟩:=T.obj _ _ B b j;exact(t.pin (b,o)<|Av _<|Av _<|yN j e).2.1
   have a1:=(step x H6 y6).run _ s6 u E r6;rw[w]at a1;refine jq a1 λ_ q⟨c,p,t,q7⟩=>?_;have a2:=q7.run _ q t;rw[w]at a2;refine jq a2 λok s8⟨H8,I8,v⟩=>?_;cases ok with
   |false=>
    rw[BK Ax]at v ⊢;exact again I8 v
   |true=>
    rw[BP rfl]at v ⊢;have a3:=v.run _ s8 I8;rw[w]at a3;exact jq a3 λ_ s9⟨Ö,H9,I9,q9⟩=>again I9 q9
 exact vu C l<|T.self _ 0 _ _ _ st l
variable{RR:Value->Addr->Result->Shared->Prop}{s2:Shared}{u0:Addr->HO}{newAcc:Sem Value}
def QO{o0:Obj}{inner:Value->Env->Sem Unit}{it:Addr}{Q:VK}
  (iz:∀(Q:Î)(E:Î)(s:Shared),Q (.ref s.heap.objs.size) {s with heap:=s.heap.push o0}->ar X newAcc Q E s) (im:∀(H:Hp)(h:Heap),sysModules<h.objs.size->aB X.U X.w H (h.push o0) h.objs.size (u0 h.objs.size))
  (hc:X.calm=true) (ck:cA X.env.scope scope X.N N') (hl:N'.length=X.N.length+n) (hC:∀acc env,gt e 0 tg iter ifs acc env<|inner acc env)
  (y:be X O σ H2 s2) (T:pi X.U X.w X.K tg J fp it tn) (U:tn 0 s2.heap) (f2:∀b∈fp,cr X O H2 b)
  (q:∀D,H2 D=none->∀cl C æ ç ex,iy (fO X N' scope cl C æ ç ex) tg ifs (inner (.ref D)<|compEnvC scope cl C X.env) J (λ_ H'=>Q (.ref D) H') (σ++replicate n none)<|upd H2 D<|u0 D)
  (Hj:∀D C H' s' m,be X O σ H' s'->s'.heap.Ns C m->H' C=none->C≠X.env.locals->X.æ.heap.objs.size<=C->(∀x c,X.env.cells.lookup x=some c->c≠C)->(∀p∈X.pn++O,p.1≠C)->Q (.ref D) H'->RR (.ref D) C (.ok .next) s'):
  ar X newAcc (λacc Â=>ar X (newFunctionEnv scope X.env.globals (cM scope.names X.env.cells []) [] X.env.qual none .none<|some X.env) (λY Ã=>
   codeAny (model X.U X.w) X.A (.compStart e 0 (.ref it) acc {Y with scope:=relabel scope X.env}) (RR acc Y.locals) Ã) E Â) E s2:=by
 refine iz _ _ _<|k0q λh₁ È É Ê=>?_;have hD:H2 s2.heap.objs.size=none:=y.aF.fresh<|Am _;have q0:=q s2.heap.objs.size hD;have fl:∀b∈fp,b<s2.heap.objs.size:=λb a=>by
  obtain⟨o,e,_⟩:=T.obj 0 _ U b a;exact Ap e
 have l:be X O σ (upd H2 s2.heap.objs.size<|u0 s2.heap.objs.size) {s2 with heap:=s2.heap.push o0}:=
  y.laid (t':=s2.toks) (λb o e=>Ae _ e) (Am _) (im _ _ y.big)
 generalize zp:({s2 with heap:=s2.heap.push o0}:Shared)=d at l È É Ê ⊢;have A:d.heap.objs.size=s2.heap.objs.size+1:=by rw[<-zp];exact Dh ..
 have Hk:∀b o,s2.heap.get? b=some o->d.heap.get? b=some o:=λb o e=>by rw[<-zp];exact Ae _ e
 have old:∀b o,d.heap.get? b=some o->h₁.get? b=some o:=É;have j:∀b∈fp,cr X O (upd H2 s2.heap.objs.size<|u0 s2.heap.objs.size) b/\b<d.heap.objs.size:=λb a=>by
  refine⟨⟨?_,(f2 b a).2⟩,by rw[A];exact Bt<|fl b a⟩;rw[au<|Bi<|fl b a];exact(f2 b a).1
 have I4:=λ(t':Nat)=>Of (N':=N') (scope:=scope) (n:=n) (fp:=fp) (h₁:=h₁) (t':=t') l ck hl È old Ê j;generalize i:fO X N' scope (cellsFrom (d.heap.objs.size+1) scope.names<|cM scope.names X.env.cells []) d.heap.objs.size d (upd H2 s2.heap.objs.size<|u0 s2.heap.objs.size) fp=f at I4;have B:f.U=X.U:=by rw[<-i];rfl
 have G:f.w=X.w:=by rw[<-i];rfl
 have eK:f.K=X.K:=by rw[<-i];rfl
 have eA:f.A=X.A:=by rw[<-i];rfl
 have u:f.env=compEnvC scope (cellsFrom (d.heap.objs.size+1) scope.names<|cM scope.names X.env.cells []) d.heap.objs.size X.env:=by rw[<-i];rfl
 have ec:f.calm=true:=by rwa[<-i]
 have O6:f.xe=λ_ _=>False:=by rw[<-i];rfl
 have w:∀{H':Hp},(∀b∈fp,H' b=none)->∀b∈fp,cr f [] H' b:=λhn b a=>by
  refine⟨hn b a,?_,?_,?_,?_,?_⟩
  ·rw[u];exact Bi (j b a).2
  ·rw[<-i];intro hf
   obtain z|z:=Al.mp (l.dw b hf)
   ·exact(j b a).1.2.1 z
   ·exact(j b a).1.2.2.1 z
  ·rw[<-i];exact .inl a
  ·rw[u];intro x c e
   obtain z|z:=Qz e
   ·exact λk=>absurd (j b a).2<|Nat.not_lt.mpr<|by rw[<-k];exact Ey z.2
   ·exact(j b a).1.2.2.2.2.1 x c<|FU _ _ _ (λ_ _ z=>by simp at z) x c<|DG z
  ·rw[<-i];intro p I;exact absurd I<|by simp[fO]
 have fin:∀{t:St}{H':Hp}{s':Shared},be f [] t H' s'->Q (.ref s2.heap.objs.size) H'->RR (.ref s2.heap.objs.size) d.heap.objs.size (.ok .next) s':=λ{t H' s'}r q'=>by
  obtain⟨m',oB,_⟩:=id r.loc;rw[u]at oB;have L:s'.os=d.os:=by have:=r.os;rwa[<-i]at this
  have M:Un (dF X.stack) fp (upd H2 s2.heap.objs.size<|u0 s2.heap.objs.size) H' d.heap s'.heap:=by have:=r.Z;rwa[<-i]at this
  have aF:cg X.U X.w H' s'.heap:=by have:=r.aF;rwa[B,G]at this
  have IX:be X O σ H' s':=l.call' (ch:=fp) L M aF r.bare λb a=>⟨(j b a).1.2.2.2.1,(j b a).1.2.1,(j b a).1.2.2.2.2.1,(j b a).1.2.2.2.2.2⟩;have i0:=r.free;rw[u]at i0;refine Hj _ _ H' s' m' IX oB i0 (Cw l.lt) l.sz (λx c e z=>?_) (λp I z=>?_) q'
  ·obtain⟨v,o,ho,_⟩:=l.cell x c e;exact absurd (Ap ho)<|by rw[z];exact Cq _
  ·exact absurd (Ap (l.pin p I).1)<|by rw[z];exact Cq _
 have N:∀b∈fp,cr f [] (upd H2 s2.heap.objs.size<|u0 s2.heap.objs.size) b:=w λb a=>(j b a).1.1;have q1:iy f tg ifs (inner (.ref s2.heap.objs.size) f.env) J (λ_ H'=>Q (.ref s2.heap.objs.size) H') (σ++replicate n none) (upd H2 s2.heap.objs.size<|u0 s2.heap.objs.size):=by
  rw[u,<-i];exact q0 _ _ _ _ _
 have T':pi f.U f.w f.K tg J fp it tn:=by rwa[B,G,eK]
 have fin2:=zj (s:={d with heap:=h₁,toks:=d.toks}) O6 ec (hC (.ref s2.heap.objs.size) f.env) (I4 d.toks) T' (T.keep 0 _ _ U λb _ o e=>old b o<|Hk b o e) N q1 (R:=RR (.ref s2.heap.objs.size) d.heap.objs.size) λt H' s' r a'=>fin r a';rwa[B,G,eA,u]at fin2
def ww(elt:Expr)(acc:Value)(env:Env):Sem Unit:=do let _ <- call (.builtin "list.append") [acc,<-eval elt env]
section
variable{pos:Pos}
def ft:gt (.ListComp elt [⟨tg,iter,ifs,0⟩] scope pos) 0 tg iter ifs acc env (ww elt acc env):=⟨rfl,λ_=>rfl,λ_ _ _=>rfl,λ_ _=>rfl,λ_ _ _=>rfl,λ_ _=>rfl,λ_=>rfl⟩
def QP{D:Addr}{Q:St->Hp->Prop}(h:Ev X elt σ H λv a=>∃ys,a D=some (.lst ys)/\ys.length<sizeLine/\Q σ (upd a D<|.lst<|ys++[v])):lV X (ww elt (.ref D) X.env) σ H Q:=by
 refine⟨λO s I=>?_⟩;unfold ww;refine BJ<|aN (h.run O s I) λv b⟨x,a,c,d,ys,e,f,q⟩=>?_;refine BJ<|aN (Qa _ b σ a (.ref D) [x] (.ref D) [v] (λ_ H'=>Q σ H') c rfl (.cons d .nil) ⟨_,ys,x,rfl,rfl,e,f,q⟩) λ_ s2⟨_,H2,i,_,j⟩=>BL ⟨σ,H2,i,j⟩
def Eg.mono{R b:St->Hp->Prop}(h:Eg X elt v σ H R)(f:∀a H',R a H'->b a H'):Eg X elt v σ H b:=⟨λO s u I r=>aN (h.run O s u I r) λ_ _⟨a,H',c,q⟩=>⟨a,H',c,f _ _ q⟩⟩
def Ei.mono(h:Ei X ifs σ H T)(f:∀b H',T b H'->T' b H'):Ei X ifs σ H T':=⟨λO s I=>aN (h.run O s I) λ_ _⟨H',a,q⟩=>⟨H',a,f _ _ q⟩⟩
theorem zI{D:Addr}{after:Hp->Prop}(h:lU X N' scope tg ifs elt J D after σ H)(cl:List<|Str×Addr)(C:Addr)(æ:Shared)(ç:Hp)(ex:List Addr):iy (fO X N' scope cl C æ ç ex) tg ifs (ww elt (.ref D)<|compEnvC scope cl C X.env) J (λ_ H'=>after H') σ H:=by
 obtain⟨W,d,t⟩:=h;refine⟨W,d,λi m c H' w=>(t i m c H' w).imp id λ⟨g,N,e,st⟩=>⟨g,N,e,λx H2 y=>(st x H2 y cl C æ ç ex).mono λf k j=>(j cl C æ ç ex).mono λb l a=>?_⟩⟩;cases b with
 |true=>
  rw[BP rfl]at a ⊢;exact QP<|a cl C æ ç ex
 |false=>
  rw[BK Ax]at a ⊢;exact a
def QQ{it:Addr}{Q:VK}
  (d:X.calm=true) (e:cA X.env.scope scope X.N N') (f:N'.length=X.N.length+n) (i:be X O σ H2 s2) (T:pi X.U X.w X.K tg J fp it tn) (j:tn 0 s2.heap) (f2:∀b∈fp,cr X O H2 b)
  (q:∀D,H2 D=none->lU X N' scope tg ifs elt J D (λH'=>Q (.ref D) H') (σ++replicate n none) (upd H2 D<|.lst []))
  (k:∀D C H' s' m,be X O σ H' s'->s'.heap.Ns C m->H' C=none->C≠X.env.locals->X.æ.heap.objs.size<=C->(∀x c,X.env.cells.lookup x=some c->c≠C)->(∀p∈X.pn++O,p.1≠C)->Q (.ref D) H'->RR (.ref D) C (.ok .next) s'):
  ar X (newList []) (λacc l=>ar X (newFunctionEnv scope X.env.globals (cM scope.names X.env.cells []) [] X.env.qual none .none<|some X.env) (λa o=>
   codeAny (model X.U X.w) X.A (.compStart (.ListComp elt [⟨tg,iter,ifs,0⟩] scope pos) 0 (.ref it) acc {a with scope:=relabel scope X.env}) (RR acc a.locals) o) E l) E s2:=
 QO (newAcc:=newList []) (o0:={cls:= .type "list",dict:=none,data:= .seq ([]:Ó).toArray}) (u0:=λ_=> .lst []) (λ_ _ _ h=>CZ h<|by show(0:Nat)<=sizeLine;exact Bu _) (λ_ _ _=>⟨Bu _,[],0,.nil,Ao _ rfl⟩) d e f (λ_ _=>ft) i T j f2 (λD r=>zI<|q D r) k
end
section
variable{pos p:Pos}{Q:VK}{rest:Õ}
def iA(h:T true H):Ei X [] σ H T:=⟨λO s I=>i9 O s σ H T I h⟩
def hU(h:Et X c σ H T):Ei X [c] σ H T:=⟨λO s I=>qy mO O s σ H T I h⟩
def gu(sc:Scope)(N N':Ñ)(n:Nat)(d:PI X tg iter wi)
  (h:wi σ H λJ c=>∀D,c D=none->lU X N' scope tg ifs elt J D (λH'=>Q (.ref D) H') (σ++replicate n none) (upd c D<|.lst []))
  (f:X.calm=true:=by rfl) (i:X.env.scope=sc:=by rfl) (j:X.N=N:=by rfl) (k:mR sc scope N N'=true:=by decide +kernel) (l:N'.length=N.length+n:=by rfl)
  (p:∀x,foldedSetIterable iter X.env x=pure x:=by intro _;rfl):Ev X (.ListComp elt [⟨tg,iter,ifs,0⟩] scope pos) σ H Q:=by
 refine⟨λO s I=>?_⟩;subst i j;have a:=cA.of k;rw[eval_ListComp];refine LC rfl p (FR λx r t=>I.ok.has x.1<|a.free x r t) a.kind a.names (aN (d O s σ H _ I h) λv s1 u=>aN u λoE s2 w=>?_);obtain⟨it,fp,tn,J,H2,e,y,T,z,f2,q⟩:=w;subst e;refine QQ f a l y T z f2 q ?_;intro D C H' s' m A B E G L M U Y;exact⟨m,B,λh' gy=>⟨.ref D,H',A.turned (λb o hb e=>gy.extBut b o hb e) E (CG<|CG G) (.inr L) M U,rfl,Y⟩⟩
def tj(i:Nat){y:Str}{py B:Pos}(sc:Scope)(N N':Ñ)(n:Nat)(G:X.N.Nodup)(L:PI X tg iter wi)
  (h:wi σ H λJ c=>∀A,c A=none->lU X N' scope tg ifs elt J A (λH'=>ge X rest D (σ.set i<|some<|.ref A) H') (σ++replicate n none) (upd c A<|.lst []))
  (l:X.N[i]?=some y:=by rfl) (M:xp X.env.scope y:=by first|exact Or.inl rfl|exact Or.inr rfl)
  (p:swapsWith (.ListComp elt [⟨tg,iter,ifs,0⟩] scope pos) (some<|.Name y py) B.line X.env=pure true:=by rfl)
  (U:X.calm=true:=by rfl) (Y:X.env.scope=sc:=by rfl) (hN:X.N=N:=by rfl) (hk:mR sc scope N N'=true:=by decide +kernel) (hl:N'.length=N.length+n:=by rfl)
  (hs:∀x,foldedSetIterable iter X.env x=pure x:=by intro _;rfl) (r:X.fn y=true\/X.env.scope.names.lookup y=some .local:=by first|exact .inl rfl|exact .inr rfl|assumption):
  ge X (.Assign [.Name y py] (.ListComp elt [⟨tg,iter,ifs,0⟩] scope pos) B :: rest) D σ H:=by
 refine jL (t:=λj σ H=>wi σ H λJ c=>∀ A,c A=none->lU X N' scope tg ifs elt J A (λH'=>j.nx (σ.set i<|some<|.ref A) H') (σ++replicate n none) (upd c A<|.lst [])) ?_ h;intro O s σ H D I h;subst Y hN;have k:=cA.of hk;rw[exec_Assign_Name_used _ _ _ _ p];refine BJ<|FP<|BJ ?_;show wpAny _ X.A (do let _ <- comprehension (.ListComp elt [⟨tg,iter,ifs,0⟩] scope pos) scope X.env _ (newList []) false (eval iter X.env)<|some<|assign (.Name y py) X.env) _ _ s;refine BJ<|CT (LC (use:=some<|assign (.Name y py) X.env) (Q:=λ_ d=>SP X O D .next d) rfl hs (FR λx hx r=>I.ok.has x.1<|k.free x hx r) k.kind k.names
  (aN (L O s σ H _ I h) λv s1 h1=>aN h1 λoE s2 h2=>?_)) (λ_ d hq=>BL<|BL hq) λ_ _ e=>e
 obtain⟨it,fp,tn,J,H2,e,I2,T,gm,f2,q⟩:=h2;subst e;refine QQ (Q:=λx c=>D.nx (σ.set i<|some x) c) (RR:=λacc C=>compPost (model X.U X.w) X.A X.xe (some<|assign (.Name y py) X.env) (λ_ d=>SP X O D .next d) acc C) U k hl I2 T gm f2 q ?_;intro j C H' d m IX hn hC c1 c2 E c4 qq;show wpAny _ X.A (assign (.Name y py) X.env<|.ref j) _ _ _;refine wpAny_assign_Name<|O8 IX G l M (v:= .ref j) rfl (λqb u w=>?_) r;obtain⟨a,w,f⟩:=w;have z:C≠a:=by
  obtain f|f:=f
  ·rwa[f]
  ·exact CG<|E _ _ f
 refine⟨m,hn.sameBut w z,λh' gy=>⟨_,H',u.turned (t':=qb.toks) (λb o hb e=>gy.extBut b o hb e) hC c1 (.inr c2) E c4,qq⟩⟩
end
structure aQ(P:Program)(w:World)(K:aa)(mg:Ò)(Z:Heap)(k:Nat)(x:Str)(ps:Ñ)(sp:Sp):Prop where
 ex:∃f fd,aD P w K mg Z bz k f fd ps sp/\ma K fd ps []/\PySem.W.keepIn K (.ref f)=true/\mg x=some (.ref f)
def aQ.mono{P:Program}{w:World}{K:aa}{mg:Ò}{Z:Heap}{j k:Nat}{x:Str}{ps:Ñ}{sp:Sp}(h:aQ P w K mg Z j x ps sp)(le:j<=k):aQ P w K mg Z k x ps sp:=
 let ⟨f,fd,F,r⟩:=h.ex;⟨f,fd,F.mono le,r⟩
def bG{k:Nat}{Q:VK}{p pos:Pos}(G:aQ X.U X.w X.K X.mg X.Z k x ps sp)(a:bv k X.A)
  (h:Ea X (e :: es) σ H λvs c=>sp vs c Q E0) (d:Gl X x:=by rfl) (f:(x == ("__debug__" : Str))=false:=by decide) (i:gr (e :: es)=true:=by rfl):Ev X (.Call (.Name x p) (e :: es) [] pos) σ H Q:=
 let ⟨_,_,F,b,j,m⟩:=G.ex;Qv F a m j b ka h d f i
theorem _root_.L2.bv.fQ{k:Nat}(a:bv k A):A.units+100<cLine:=by have:=a.un;omega
theorem _root_.L2.bv.u1{k:Nat}(a:bv k A):A.units+1<cLine:=by have:=a.un;omega
def Df(K:aa)(x:Str)(st:Stmt):Prop:=∃f fd,PySem.W.nsIn K mainGlobals x=some ((some (.ref f)))/\bo K x x st f fd
variable{sl:Array (Option Value)}
def vA{kV b pm d ct:Value}{e h:Option Addr}(a:PySem.W.nsIn K mainGlobals x=some ((some (.ref f))))
  (l:K.lookup f=some ⟨oc,e,.func<|PySem.W.fnOf x x (lP st) (gn st) (aP st) .none kV b pm h d ct,sl⟩) (c:PySem.W.codeIn K d x=true) (k:PySem.W.keepIn K (.ref f)=true):Df K x st:=⟨f,_,a,ZV l c k⟩
structure tq where
 f:Addr
 bF:Value
 A:Around
 outer:List Env
 s:Shared
 H:Hp
 E:XK
def Hm(N:Ñ)(qual:Str)(scope:Scope)(P:Program)(w:World)(K:aa)(mg:Ò)(Z:Heap)(b:tq):Cx:=(fq bz P w K mg Z N qual scope b.f b.bF b.A b.outer b.s b.H b.E).my
def En(Q:VK):mi:={nx:=λ_ H'=>Q .non H',rt:=Q}
def bo.gb{N:Ñ}{k:Nat}(F:bo K x qual st f fd)(S:ak N ps<|aP st)(len:∀vs H Q E,sp vs H Q E->vs.length=ps.length)
  (a:∀b H vs Q E,bv k (b.A.deeper<|envOfC qual (aP st) b.s.heap.objs.size b.f b.bF)->sp vs H Q E->ge (Hm N qual (aP st) P w K mg Z b) (gn st) (En Q) (jp N vs) H):aD P w K mg Z bz (k+1) f fd ps sp:=
 F.go S len λc A outer s H vs Q E d e=>a ⟨f,c,A,outer,s,H,E⟩ H vs Q E d e
def Df.has{k:Nat}(d:Df K x st)(X:K.In h)(G:h.Ns mainGlobals mg)
  (e:∀kV b pm i j ct c,c.length=ps.length->bindArgs (PySem.W.fnOf x x (lP st) (gn st) (aP st) .none kV b pm i j ct) ⟨c,[]⟩=pure (ps.zip c))
  (ok:∀{f}{fd},bo K x x st f fd->aD P w K mg Z bz k f fd ps sp):aQ P w K mg Z k x ps sp:=
 let ⟨f,fd,a,F⟩:=d;⟨f,fd,ok F,F.binds e,F.kp,NZ X G a⟩
def Df.law{k:Nat}{y:Str}(d:Df K x st)(X:K.In h)(G:h.Ns mainGlobals mg)(j:mg x=some (.ref fa))
  (l:∀kV b pm c i ct s v,BindsTo s (PySem.W.fnOf x x (lP st) (gn st) (aP st) .none kV b pm c i ct) ⟨[v],[]⟩ [(y,v)])
  (ok:∀Z{f}{fd},bo K x x st f fd->aD P w K mg Z bz k f fd [y] sp):
  ∃fd:FuncData,(∀s v,BindsTo s fd ⟨[v],[]⟩ [(y,v)])/\∀Z:Heap,K.In Z->Z.Ns mainGlobals mg->aD P w K mg Z bz k fa fd [y] sp:=by
 obtain⟨f,fd,a,F⟩:=d;have e:=j.symm.trans<|NZ X G a;cases e;obtain⟨oc,m,kV,b,pm,c,i,ct,j5,rfl,lk,n⟩:=id F.ex;exact⟨_,l kV b pm c i ct,λZ _ _=>ok Z F⟩
variable{p:Ó->Prop}
theorem vC{k:Nat}(f:∀a r,r.length=k->p (a :: r)):∀b:Ó,b.length=k+1->p b
 |a :: r,h=>f a r<|Nat.succ.inj h
theorem vD(f:p []):∀a:Ó,a.length=0->p a
 |[],_=>f
def bZ{N P:Ñ}(nd:N.Nodup:=by decide +kernel)(par:∀x∈P,sc.names.lookup x=some .local\/sc.names.lookup x=some .cell:=by decide +kernel)(ii:∀y∈sc.names,y.2 ≠ .free:=by decide +kernel)
  (kind:sc.kind=.function:=by rfl) (co:sc.isCoroutine=false:=by rfl) (gen:sc.isGenerator=false:=by rfl) (pre:N.take P.length=P:=by rfl):ak N P sc:=⟨kind,co,gen,nd,pre,par,ii⟩
def bo.gc{N:Ñ}{k:Nat}(F:bo K x qual st f fd)(S:ak N ps<|aP st)
  (a:∀b H vs Q E,bv k (b.A.deeper<|envOfC qual (aP st) b.s.heap.objs.size b.f b.bF)->sp vs H Q E->ge (Hm N qual (aP st) P w K mg Z b) (gn st) (En Q) (jp N vs) H)
  (len:∀vs H Q E,sp vs H Q E->vs.length=ps.length:=by intro vs H Q E h;repeat (first|(obtain⟨rfl,_⟩:=h;rfl)|obtain⟨_,h⟩:=h)):aD P w K mg Z bz (k+1) f fd ps sp:=F.gb S len a
def Df.hs{k:Nat}(d:Df K x st)(X:K.In h)(G:h.Ns mainGlobals mg)
  (ok:∀{f}{fd},bo K x x st f fd->aD P w K mg Z bz k f fd ps sp)
  (c:∀kV a pm e i ct b,b.length=ps.length->bindArgs (PySem.W.fnOf x x (lP st) (gn st) (aP st) .none kV a pm e i ct) ⟨b,[]⟩=pure (ps.zip b):=by intro _ _ _ _ _ _;(repeat (refine L2.vC λ_=>?_));exact L2.vD rfl):aQ P w K mg Z k x ps sp:=d.has X G c ok
end L2
namespace bK
open PySem
def tu(m i:Nat):Nat:=(i*5+1)%m
def gM(m:Nat):Nat->Nat->List Nat
 |0,_=>[]
 |n+1,i=>i :: gM m n (tu m i)
def mS(m:Nat):Nat->Nat->Nat
 |0,i=>i
 |n+1,i=>mS m n<|tu m i
theorem zq(m:Nat):∀a b i,mS m (a+b) i=mS m b (mS m a i)
 |0,b,i=>by rw[Fe];rfl
 |a+1,b,i=>by
  rw[show a+1+b=(a+b)+1 by omega];exact zq m a b<|tu m i
theorem Ho(m:Nat):∀n t i,t<n->mS m t i∈gM m n i
 |0,_,_,h=>(by omega)
 |n+1,0,i,_=>Ag
 |n+1,t+1,i,h=>Ak _<|Ho m n t (tu m i)<|(by omega)
theorem Hq(m:Nat):∀n i j,j∈gM m n i->∃t,t<n/\mS m t i=j
 |0,_,_,h=>by cases h
 |n+1,i,j,h=>by
  obtain rfl|h:=Al.mp h
  ·exact⟨0,Gd _,rfl⟩
  ·obtain⟨t,a,e⟩:=Hq m n (tu m i) j h;exact⟨t+1,Nat.succ_lt_succ a,e⟩
def nt(m:Nat):Bool:=mS m m 0 == 0 && (range m).all λj=>(gM m m 0).contains j
def pQ:nt 8=true:=by decide +kernel
def nS:nt 16=true:=by decide +kernel
def qa:nt 32=true:=by decide +kernel
def dc:nt 64=true:=by decide +kernel
def EH:nt 128=true:=by decide +kernel
def LG:nt 512=true:=by decide +kernel
def wb(m:Nat):Prop:=m=8\/m=16\/m=32\/m=64\/m=128\/m=512
def wb.covers{m:Nat}(h:wb m):bK.nt m=true:=by
 obtain rfl|rfl|rfl|rfl|rfl|rfl:=h
 ·exact pQ
 ·exact nS
 ·exact qa
 ·exact dc
 ·exact EH
 ·exact LG
variable{m:Nat}
def wb.pos(h:wb m):8<=m/\m<=512:=by obtain rfl|rfl|rfl|rfl|rfl|rfl:=h<;>decide
variable{i j:Nat}
theorem wb.mem(h:wb m)(k:i<m)(l:j<m):j∈gM m m i:=by
 have q:=h.covers;unfold bK.nt at q;rw[Bq,De,JD]at q;obtain⟨z,q⟩:=q;obtain⟨a,n,d⟩:=Hq m m 0 i<|Cu.mp<|q i<|Bc.mpr k;obtain⟨b,o,f⟩:=Hq m m 0 j<|Cu.mp<|q j<|Bc.mpr l
 obtain c|c:=Dr b a
 ·have e:mS m (b+m-a) i=j:=by
   rw[<-d,<-zq,show a+(b+m-a)=m+b by omega,zq,z,f]
  rw[<-e];exact Ho m m _ i<|(by omega)
 ·have e:mS m (b-a) i=j:=by
   rw[<-d,<-zq,show a+(b-a)=b by omega,f]
  rw[<-e];exact Ho m m _ i<|(by omega)
def tD(mask:Nat):Nat->Nat->Nat->List Nat
 |0,_,_=>[]
 |n+1,i,p=>i :: tD mask n (SetTable.leap mask i p).1 (SetTable.leap mask i p).2
theorem QR(mask:Nat):∀n i,tD mask n i 0=gM (mask+1) n i
 |0,_=>rfl
 |n+1,i=>by
  show i :: tD mask n ((i*5+1+0/32)%(mask+1)) (0/32)=i :: gM (mask+1) n (tu (mask+1) i);rw[show(0/32:Nat)=0 by decide,WK,QR mask n];rfl
variable{mask:Nat}
def wz{p:Nat}:(SetTable.leap mask i p).1<mask+1:=Gw _<|Gd _
theorem QU{mask:Nat}:∀t n i p,i<mask+1->p<32 ^ t->∃a,a<mask+1/\∀j∈gM (mask+1) n a,j∈tD mask (t+n) i p
 |0,n,i,p,c,b=>by
  have e:p=0:=by simpa using b
  subst e;refine⟨i,c,λj d=>?_⟩;rwa[Fe,QR]
 |t+1,n,i,p,c,b=>by
  have f:p/32<32 ^ t:=by
   rw[Nat.div_lt_iff_lt_mul<|(by decide)];rwa[Nat.pow_succ]at b
  obtain⟨a,h,q⟩:=QU t n (SetTable.leap mask i p).1 (p/32) wz f;refine⟨a,h,λj d=>?_⟩;rw[show t+1+n=(t+n)+1 by omega];exact Ak _<|q j d
theorem q0s{p:Nat}(a:wb<|mask+1)(b:i<mask+1)(c:p<2 ^ 64)(d:j<mask+1):j∈tD mask (mask+15) i p:=by
 obtain⟨f,e,q⟩:=QU 14 (mask+1) i p b (Bf c<|(by decide));have:=q j<|a.mem e d;rwa[show 14+(mask+1)=mask+15 by omega]at this
abbrev kj:=Array<|Option Nat
def wS(owner:kj)(j:Nat):Bool:=(owner.getD j<|some 0).isNone
theorem zL(mask i:Nat):i<=SetTable.runEnd mask i:=by unfold SetTable.runEnd;split<;>omega
set_option tactic.hygienic true in
theorem QY{mask:Nat}{owner:kj}:∀{a i p},SetTable.layClean.free mask owner a i p=none->∀j∈tD mask a i p,wS owner j=false
 |0,_,_,_,j,b=>by cases b
 |a+1,i,p,h,j,b=>by
  unfold SetTable.layClean.free at h
  split at h
  ·cases h
  ·rename_i c
   obtain rfl|b:=Al.mp b
   ·have:=Fy.mp c 0 (Bc.mpr<|by have:=zL mask j;omega);rw[WK]at this;exact Dk.mpr this
   ·exact QY h j b
set_option tactic.hygienic true in
theorem Q0{mask:Nat}{owner:kj}:∀{a i p j},SetTable.layClean.free mask owner a i p=some j->wS owner j=true
 |0,_,_,_,h=>by cases h
 |a+1,i,p,j,h=>by
  unfold SetTable.layClean.free at h
  split at h
  ·rename_i k b;cases h;have:=Gu b;exact this
  ·exact Q0 h
variable{owner:kj}
theorem vc:wS owner j=true↔owner[j]?=some none:=by
 unfold wS;rw[Dz];cases h:owner[j]? with
 |none=>simp
 |some v=>cases v<;>simp
structure ir(m:Nat)(owner:kj)(k:Nat):Prop where
 size:owner.size=m
 lt:∀(j v:Nat),owner[j]?=some (some v)->v<k
 has:∀v:Nat,v<k->∃j:Nat,owner[j]?=some (some v)
 inj:∀(i j v:Nat),owner[i]?=some (some v)->owner[j]?=some (some v)->i=j
theorem ir.start(m:Nat):ir m (Array.replicate m none) 0 where
 size:=by simp
 lt:=λj v h=>by
  rw[RX]at h
  split at h<;>cases h
 has:=λv h=>(by omega)
 inj:=λi j v h=>by
  rw[RX]at h
  split at h<;>cases h
set_option tactic.hygienic true in
theorem ir.put{k:Nat}(L:ir m owner k)(l:owner[j]?=some none):ir m (owner.setIfInBounds j<|some k) (k+1):=by
 have o:j<owner.size:=by
  obtain h|h:=Dr j owner.size
  ·exact h
  ·rw[El h]at l;cases l
 have c:∀i:Nat,(owner.setIfInBounds j<|some k)[i]?=if j=i then some (some k)else owner[i]?:=by
  intro i;rw[Array.getElem?_setIfInBounds]
  split
  ·rename_i e;subst e;first|rfl|rw[BP o]
  ·rfl
 refine⟨by rw[Array.size_setIfInBounds];exact L.size,λi v h=>?_,λv h=>?_,λa b v f d=>?_⟩
 ·rw[c]at h
  split at h
  ·cases h;exact Fd _
  ·exact Bt<|L.lt i v h
 ·obtain h|rfl:=Nat.lt_succ_iff_lt_or_eq.mp h
  ·obtain⟨i,n⟩:=L.has v h;refine⟨i,?_⟩;rwa[c,BK λe=>by subst e;rw[l]at n;cases n]
  ·exact⟨j,by rw[c,BP rfl]⟩
 ·rw[c]at f d
  split at f
  ·rename_i e;cases f
   split at d
   ·rename_i p;exact e.symm.trans p
   ·have:=L.lt b k d;omega
  ·split at d
   ·cases d;have:=L.lt a k f;omega
   ·exact L.inj a b v f d
def rf(m:Nat)(owner:kj):List (Nat×Nat):=(range m).filterMap λj=>(owner.getD j none).map (j,·)
theorem getD_some{v:Nat}:owner.getD j none=some v↔owner[j]?=some (some v):=by
 rw[Dz];cases h:owner[j]? with
 |none=>simp
 |some x=>simp
def gN{p:Nat×Nat}:p∈rf m owner↔p.1<m/\owner[p.1]?=some (some p.2):=by
 unfold rf;rw[Fx]
 constructor
 ·rintro ⟨j,b,e⟩;cases a:owner.getD j none with
  |none=>rw[a]at e;cases e
  |some v=>
   rw[a]at e;cases e;exact⟨Bc.mp b,getD_some.mp a⟩
 ·rintro ⟨c,d⟩;exact⟨p.1,Bc.mpr c,by rw[getD_some.mpr d];rfl⟩
def ir.nodup{k:Nat}(L:ir m owner k):((rf m owner).map (·.2)).Nodup:=by
 have q:∀l:List Nat,l.Nodup->((l.filterMap λj=>(owner.getD j none).map (j,·)).map (·.2)).Nodup:=by
  intro l
  induction l with
  |nil=>intro _;exact Cn
  |cons a r f=>
   intro b;rw[Bk]at b;rw[Ej];cases i:owner.getD a none with
   |none=>exact f b.2
   |some v=>
    show(v :: (r.filterMap λj=>(owner.getD j none).map (j,·)).map (·.2)).Nodup;rw[Bk];refine⟨λh=>?_,f b.2⟩;obtain⟨p,n,e⟩:=Ai.mp h;obtain⟨j,o,c⟩:=Fx.mp n;cases d:owner.getD j none with
    |none=>rw[d]at c;cases c
    |some u=>
     rw[d]at c;cases c;have s:u=v:=e;subst s;have:=L.inj a j u (getD_some.mp i)<|getD_some.mp d;subst this;exact b.1 o
 exact q _ RZ
def ir.perm{k:Nat}(L:ir m owner k):((rf m owner).map (·.2)).Perm (range k):=by
 rw[Dm L.nodup RZ];intro v;rw[Bc,Ai]
 constructor
 ·rintro ⟨p,b,rfl⟩;exact L.lt _ _ (gN.mp b).2
 ·intro h;obtain⟨j,a⟩:=L.has v h;have c:j<m:=by
   rw[<-L.size]
   obtain h|h:=Dr j owner.size
   ·exact h
   ·rw[El h]at a;cases a
  exact⟨(j,v),gN.mpr ⟨c,a⟩,rfl⟩
def ir.length{m k:Nat}{owner:kj}(L:ir m owner k):(rf m owner).length=k:=by
 have:=L.perm.length_eq;rwa[Aa,Cy]at this
theorem ir.room{k:Nat}(L:ir m owner k)(h:k<m):∃j,j<m/\wS owner j=true:=by
 refine GK λn=>?_;have all:∀j,j<m->∃v,owner.getD j none=some v:=by
  intro j b;have d:j<owner.size:=by rwa[L.size]
  cases c:owner[j] with
  |none=>exact absurd ⟨j,b,vc.mpr<|by rw[Ds d,c]⟩ n
  |some v=>exact⟨v,getD_some.mpr<|by rw[Ds d,c]⟩
 have len:∀l:List Nat,(∀j∈l,j<m)->(l.filterMap λj=>(owner.getD j none).map (j,·)).length=l.length:=by
  intro l
  induction l with
  |nil=>intro _;rfl
  |cons a r o=>
   intro f;obtain⟨v,c⟩:=all a<|f a Ag;rw[Ej,c];show(_ :: _).length=_;rw[As,As,o λj b=>f j<|Ak _ b]
 have e:=len (range m) λj b=>Bc.mp b;have i:=L.length;unfold rf at i;rw[e,Cy]at i;omega
theorem mz(h:Int):SetTable.bits h<2 ^ 64:=by
 unfold SetTable.bits;omega
theorem ir.free{mask k:Nat}{owner:kj}(L:ir (mask+1) owner k)(a:wb<|mask+1)(h:k<mask+1)(x:Int):
  ∃j,SetTable.layClean.free mask owner (SetTable.turns mask) (SetTable.bits x%(mask+1)) (SetTable.bits x)=some j/\owner[j]?=some none:=by
 cases e:SetTable.layClean.free mask owner (SetTable.turns mask) (SetTable.bits x%(mask+1)) (SetTable.bits x) with
 |some j=>exact⟨j,rfl,vc.mp<|Q0 e⟩
 |none=>
  obtain⟨j,b,q⟩:=L.room h;have:=QY e j<|q0s a (Gw _<|Gd _) (mz x) b;rw[q]at this;cases this
def zu(mask:Nat)(acc:Option<|kj×Nat)(h:Int):Option (kj×Nat):=do
 let (owner,k) <-acc
 let j <-SetTable.layClean.free mask owner (SetTable.turns mask) (SetTable.bits h%(mask+1))<|SetTable.bits h
 pure (owner.setIfInBounds j<|some k,k+1)
theorem Q2{mask:Nat}(b:wb<|mask+1):∀(a:List Int)(owner:kj)(k:Nat),ir (mask+1) owner k->k+a.length<mask+1+1 ->
  ∃c,a.foldl (zu mask) (some (owner,k))=some (c,k+a.length)/\ir (mask+1) c (k+a.length)
 |[],owner,k,L,_=>⟨owner,rfl,L⟩
 |h :: r,owner,k,L,d=>by
  rw[As]at d ⊢;obtain⟨j,e,f⟩:=L.free b (by omega) h;obtain⟨i,l,m⟩:=Q2 b r _ (k+1) (L.put f) (by omega);refine⟨i,?_,?_⟩
  ·rw[Dp,show zu mask (some (owner,k)) h=some (owner.setIfInBounds j<|some k,k+1) by unfold zu;simp[e],l]
   congr 2
   omega
  ·rw[show k+(r.length+1)=k+1+r.length by omega];exact m
def Zp(b:wb<|mask+1)(a:Array Int)(c:a.size<mask+1+1):∃owner,SetTable.layClean mask a=some owner/\ir (mask+1) owner a.size:=by
 obtain⟨d,e,L⟩:=Q2 b a.toList _ 0 (ir.start<|mask+1) (by simpa using c);refine⟨d,?_,by simpa using L⟩;have f:SetTable.layClean mask a=(a.foldl (zu mask)<|some (Array.replicate (mask+1) none,0)).map (·.1):=rfl;rw[f,<-Array.foldl_toList,e];rfl
theorem Q3{finger moves:Nat}{led plain:Bool}(c:wb<|mask+1)(a:Array Int)(d:a.size<=mask):
  ∃t order,SetTable.laid mask finger moves led plain a=some (t,order)/\order.toList.Perm (range a.size)/\t.fits a.size=true/\t.led=led/\t.plain=plain/\t.mask=mask/\t.dummies=#[]/\t.place.size=a.size:=by
 obtain⟨o,e,L⟩:=Zp c a (by omega);have b:((rf (mask+1) o).map (·.1)).toArray.size=a.size:=by
  rw[Aw,Aa,L.length]
 refine⟨_,_,by unfold SetTable.laid;rw[e];rfl,?_,?_,rfl,rfl,rfl,rfl,b⟩
 ·show((rf (mask+1) o).map (·.2)).Perm _;exact L.perm
 ·unfold SetTable.fits SetTable.fill;show(((rf (mask+1) o).map (·.1)).toArray.size == a.size && decide (((rf (mask+1) o).map (·.1)).toArray.size+0<=mask))=true;rw[b];simp only[OJ,Gz,WK,DN];exact d
def cR(w:World):Bool:=w.params.followText "set-order"
def gh(e:Int×Value):Str:=match e.2 with
 |.str x _=>x
 |_=>⟨#[]⟩
section
variable(U:Program)(w:World)
def oQ(e:Int×Value):Prop:=∃z t,e=((strKind U w).hash z,Value.str z t)
structure ln(es:Array<|Int×Value)(t:SetTable)(zs:Ñ):Prop where
 elts:∀e∈es.toList,oQ U w e
 keys:(es.toList.map gh).Perm zs
 nodup:zs.Nodup
 few:zs.length<1000
 fits:t.fits es.size=true
 led:t.led = !cR w
 plain:es=#[]\/t.plain=false
def aA(h:Heap)(a:Addr)(zs:Ñ):Prop:=∃o b c t,h.get? a=some o/\o.ExactSet/\o.data=.set b c t/\ln U w b t zs
end
variable{a:Addr}{h:Heap}{zs i4:Ñ}{es gk:Array (Int×Value)}{w:World}{U:Program}{t':SetTable}{s:Shared}{ep:Nat}{o:Obj}{e:Int×Value}{z:Str}
section
variable{t:SetTable}{h':Heap}
def ln.elems(T:ln U w es t zs):ElemsOf (strKind U w) es.toList:=λe a=>by
 obtain⟨z,u,rfl⟩:=T.elts e a;exact⟨⟨z,QC _ _ _ _,rfl⟩,rfl⟩
def ln.size(T:ln U w es t zs):es.size=zs.length:=by
 have:=T.keys.length_eq;rwa[Aa,Bv]at this
def ln.fS(T:ln U w es t zs):es.size<1000:=by rw[T.size];exact T.few
theorem ln.scan(T:ln U w es t zs):es.size<scanBound:=by have:=T.fS;unfold scanBound;omega
def ln.perm(T:ln U w es t zs)(p:gk.toList.Perm es.toList)(a:t'.fits gk.size=true)(b:t'.led=t.led)(c:gk=#[]\/t'.plain=false):ln U w gk t' zs:=
 ⟨λe d=>T.elts e<|p.mem_iff.mp d,(p.map gh).trans T.keys,T.nodup,T.few,a,b.trans T.led,c⟩
def aA.keep(S:aA U w h a zs)(k:∀o,h.get? a=some o->h'.get? a=some o):aA U w h' a zs:=let ⟨o,es,ep,t,b,c⟩:=S;⟨o,es,ep,t,k o b,c⟩
def aA.typeIs(S:aA U w s.heap a zs):s.TypeIs (.ref a) "set":=let ⟨o,_,_,_,b,c,_⟩:=S;⟨o,b,c.1⟩
def aA.lt(S:aA U w h a zs):a<h.objs.size:=let ⟨_,_,_,_,b,_⟩:=S;Ap b
def aA.few(S:aA U w h a zs):zs.length<1000:=let ⟨_,_,_,_,_,_,_,T⟩:=S;T.few
def aA.nodup(S:aA U w h a zs):zs.Nodup:=let ⟨_,_,_,_,_,_,_,T⟩:=S;T.nodup
def qk(b:h.get? a=some o)(c:o.ExactSet)(hd:o.data=.set es ep t)(d:ln U w gk t' i4):
  (h.update a<|Obj.putSet gk t').get? a=some {o with data:= .set gk (ep+1) t'}/\aA U w (h.update a<|Obj.putSet gk t') a i4:=by
 have q:=Da (Obj.putSet gk t') b (by rw[putSet_of gk t' hd];rfl);rw[putSet_of gk t' hd]at q;exact⟨q,_,gk,ep+1,t',q,c,rfl,d⟩
def Hr(a:oQ U w e)(z:Str):(strKind U w).is z e.2=decide (z=gh e):=by
 obtain⟨y,u,rfl⟩:=a;exact KeyKind.is_eq_decide (QC U w y u) z
def r8(T:ln U w es t zs)(b:z∉zs):es.toList.findIdx? (λe=>(strKind U w).is z e.2)=none:=by
 rw[List.findIdx?_eq_none_iff];intro e a;rw[Hr<|T.elts e a,JL];rintro rfl;exact b<|T.keys.mem_iff.mp<|List.mem_map_of_mem a
theorem up(T:ln U w es t zs)(c:z∈zs):∃j,∃a:j<es.toList.length,es.toList.findIdx? (λe=>(strKind U w).is z e.2)=some j/\gh es.toList[j]=z:=by
 obtain⟨e,b,d⟩:=Ai.mp<|T.keys.mem_iff.mpr c;cases q:es.toList.findIdx? (λe=>(strKind U w).is z e.2) with
 |none=>
  have:=List.findIdx?_eq_none_iff.mp q e b;rw[Hr<|T.elts e b,JL]at this;exact absurd d.symm this
 |some j=>
  obtain⟨a,p,_⟩:=List.findIdx?_eq_some_iff_getElem.mp q;rw[Hr<|T.elts _<|Bp a,DN]at p;exact⟨j,a,rfl,p.symm⟩
def kc(t:SetTable)(n:Nat):(t.orStandIn n).led=t.led/\((t.orStandIn n).plain=true->t.plain=true):=by
 unfold SetTable.orStandIn
 split
 ·exact⟨rfl,id⟩
 ·exact⟨rfl,λh=>by cases h⟩
def cO(t:SetTable)(es:Array<|Int×Value)(x:Int)(v:Value):(layNew t es x v).2.1.led=t.led:=by
 unfold layNew
 split
 ·exact(kc _ _).1
 ·rfl
theorem mG{f:Nat}{l p:Bool}{a:Array Int}{o:Array Nat}(e:SetTable.laid mask f m l p a=some (t',o)):t'.led=l/\t'.plain=p:=by
 unfold SetTable.laid at e;cases c:SetTable.layClean mask a with
 |none=>rw[c]at e;cases e
 |some b=>rw[c]at e;cases e;exact⟨rfl,rfl⟩
set_option tactic.hygienic true in
def Q4(t:SetTable)(es:Array<|Int×Value)(n:Nat)(a:t.plain=false):(relayAll t es n).2.1.led=t.led/\(relayAll t es n).2.1.plain=false:=by
 unfold relayAll
 split
 ·rename_i t' o e;have q:=mG e
  dsimp only
  split
  ·exact⟨q.1,q.2.trans a⟩
  ·exact⟨rfl,rfl⟩
 ·exact⟨rfl,rfl⟩
end
variable{E:Î}{A:Around}{n:Nat}{R:Option Bool->Shared->Prop}{t2:SetTable}{gA:Array (Int×Value)}{tk:Tok}{src:Source}{zf:Ñ}
section
theorem ko(h:n<1001):n<=sizeLine:=by rw[FJ];omega
theorem Q5{g:Bool->Sem Unit}(m:∀(b:Bool)(d:Shared)(e:Unit->Shared->Prop),e () d->bc U w A (g b) e E d)
     {t:SetTable} (f:s.heap.get? a=some o) (h:o.ExactSet) (hd:o.data=.set es ep t)
    (T:ln U w gA t2 zs) (i:t2.plain=false) {c:Bool} 
  (k:∀h',Heap.SameBut a s.heap h'->aA U w h' a zs->R (some true) {s with heap:=h'}):
  bc U w A (do
   storeSet a gA t2
   if c=true then do
     g (relayAll t2 gA<|SetTable.grown gA.size).2.2
     storeSet a (relayAll t2 gA<|SetTable.grown gA.size).1 (relayAll t2 gA<|SetTable.grown gA.size).2.1
     pure (some true)
    else pure (some true)) R E s:=by
 refine BJ<|HX f hd ?_<|ko<|Bt T.fS;obtain⟨j,n⟩:=qk f h hd T;have l:=CQ s.heap a<|Obj.putSet gA t2;cases c with
 |false=>exact BL<|k _ l n
 |true=>
  have p:=relayAll_perm t2 gA<|SetTable.grown gA.size;have T3:=T.perm p (relayAll_fits t2 gA<|SetTable.grown gA.size) (Q4 t2 gA _ i).1<|.inr (Q4 t2 gA _ i).2;refine BJ<|m _ _ _<|BJ<|HX j rfl ?_ (ko<|Bt T3.fS);exact BL<|k _ (l.trans<|CQ _ a _) (qk j h rfl T3).2
def added(zs:Ñ)(z:Str):Ñ:=if z∈zs then zs else zs++[z]
set_option tactic.hygienic true in
def Hs{Q:Bool->Shared->Prop}(S:aA U w s.heap a zs)(J:zs.length+1<1000)
  (k:∀b h',Heap.SameBut a s.heap h'->aA U w h' a (added zs z)->Q b {s with heap:=h'}):
  bc U w A (setAddHashed a (.str z tk)<|(strKind U w).hash z) Q E s:=by
 obtain⟨o,es,ep,t,c,d,hd,T⟩:=S;unfold setAddHashed setAddHashedIn;refine CJ<|BJ<|CN c hd T.fits ?_
 dsimp only
 rw[byScan_of rfl T.scan T.elems];simp only[↓reduceIte];unfold setAddByScan;refine BJ<|BJ<|GX<|BJ<|wpAny_setScan_of (QC _ _ _ _) c hd T.fits T.elems ?_
 by_cases h:z∈zs
 ·obtain⟨j,M,e,_⟩:=up T h;rw[e]
  dsimp only
  refine BL<|BL<|k false s.heap (Heap.SameBut.refl a s.heap) ?_;unfold added;rw[BP h];exact⟨o,es,ep,t,c,d,hd,T⟩
 ·rw[r8 T h]
  dsimp only
  have r:∀(b:Bool) (u:Shared) (v:Unit->Shared->Prop),v () u->bc U w A (match b with | true=>rule "set.scan.the-table-gave-way" |false=>pure ()) v E u:=
   λb u v q=>by cases b<;>first|exact BL q|exact GX q
  have p:=layNew_perm t es ((strKind U w).hash z)<|.str z tk;have f:=layNew_fits t es ((strKind U w).hash z)<|.str z tk;have l:=cO t es ((strKind U w).hash z)<|.str z tk;generalize layNew t es ((strKind U w).hash z) (.str z tk)=L at p f l ⊢;obtain⟨gA,B,N,O⟩:=L
  dsimp only at p f l ⊢
  rw[Array.toList_push]at p;have tab:∀t2:SetTable,t2.fits gA.size=true->t2.led=B.led->t2.plain=false->ln U w gA t2 (zs++[z]):=λt2 G H I=>{
   elts:=λe i=>by
    obtain i|i:=An.mp (p.mem_iff.mp i)
    ·exact T.elts e i
    ·exact⟨z,tk,Af.mp i⟩
   keys:=by
    refine(p.map gh).trans ?_;rw[Aj];exact T.keys.append<|List.Perm.refl _
   nodup:=by
    rw[Cj];refine⟨T.nodup,by simp,λx d y D e=>?_⟩;rw[Af]at D;subst D e;exact h d
   few:=by rwa[Ad]
   fits:=G
   led:=H.trans<|l.trans T.led
   plain:= .inr I}
  have fin:=λh' m n=>k true h' m (by unfold added;rwa[BK h]);refine BJ<|r _ _ _ ?_
  split
  ·rename_i C;refine BJ ?_;rw[hashByValue_scannable 8 rfl];refine BL<|Q5 r c d hd (tab {B with plain:=false} (SetTable.fits_plain_off f) rfl rfl) rfl λh' m n=>?_
   dsimp only
   exact BL<|fin h' m n
  ·rename_i C;refine BJ<|BL ?_;simp only[↓reduceIte];refine Q5 r c d hd (tab B f rfl (Dk.mpr C)) (Dk.mpr C) λh' m n=>?_
   dsimp only
   exact BL<|fin h' m n
def Q6{Q:Option Nat->Shared->Prop}{t:SetTable}(c:s.heap.get? a=some o)(hd:o.data=.set es ep t)(T:ln U w es t zs)
  (k0:z∉zs->Q none s) (k1:∀j,(d:j<es.toList.length)->gh es.toList[j]=z->Q (some j) s):bc U w A (setFind a (.str z tk)<|(strKind U w).hash z) Q E s:=by
 unfold setFind setFindIn;refine BJ<|CN c hd T.fits ?_
 dsimp only
 rw[byScan_of rfl T.scan T.elems];simp only[↓reduceIte];refine BJ<|GX<|BJ<|wpAny_setScan_of (QC _ _ _ _) c hd T.fits T.elems ?_
 by_cases b:z∈zs
 ·obtain⟨j,d,e,q⟩:=up T b;rw[e]
  dsimp only
  rw[Fe];exact BL<|k1 j d q
 ·rw[r8 T b];exact BL<|k0 b
def zv{α:Type}(xs:Array α)(i:Nat):(SetTable.eraseAt xs i).toList=xs.toList.eraseIdx i:=by
 unfold SetTable.eraseAt;rw[Array.toList_append,Array.toList_extract,Array.toList_extract,List.eraseIdx_eq_take_drop_succ];simp[List.extract_eq_drop_take];exact Ck<|by simp
theorem bM{α:Type}:∀(l:List α)(j:Nat)(a:j<l.length),(l[j]:: l.eraseIdx j).Perm l
 |[],_,h=>by simp at h
 |x :: r,0,_=>List.Perm.refl _
 |x :: r,j+1,h=>(List.Perm.swap x _ _).trans<|(bM r j<|Nat.lt_of_succ_lt_succ h).cons x
theorem PQ{t:SetTable}(h:t.fits n=true)(e:i<n):(t.drop i).fits (n-1)=true/\(t.drop i).led=t.led/\(t.drop i).plain=t.plain:=by
 unfold SetTable.fits at h;rw[Bq,JD,DN]at h;have a:i<t.place.size:=by rwa[h.1]
 unfold SetTable.drop;rw[Ds a]
 dsimp only
 refine⟨?_,rfl,rfl⟩;have b:(SetTable.eraseAt t.place i).size=n-1:=by
  rw[<-Bv,zv,Dg,Bv,BP a,h.1]
 have c:=λj=>by
  have:=(SetTable.insertAt_perm t.dummies (SetTable.below t.dummies j) j).length_eq
  simpa using this
 have d:=h.2;unfold SetTable.fill at d;unfold SetTable.fits SetTable.fill
 dsimp only
 rw[b,c];simp only[OJ,Gz,DN];omega
def k5l{Q:Bool->Shared->Prop}(S:aA U w s.heap a zs)
  (k0:z∉zs->Q false s) (k1:∀h',z∈zs->Heap.SameBut a s.heap h'->aA U w h' a (zs.erase z)->Q true {s with heap:=h'}):
  bc U w A (setDiscardHashed a (.str z tk)<|(strKind U w).hash z) Q E s:=by
 obtain⟨o,es,ep,t,b,c,hd,T⟩:=S;unfold setDiscardHashed;refine BJ<|Q6 b hd T (λd=>?_) λj f e=>?_
 ·exact BL<|k0 d
 ·dsimp only
  have h:j<es.size:=by simpa using f
  have d:=T.keys.mem_iff.mp<|Ai.mpr ⟨_,Bp f,e⟩;obtain⟨f1,f2,l⟩:=PQ T.fits h;have i:(gh es.toList[j]:: (es.toList.eraseIdx j).map gh).Perm zs:=by
   refine List.Perm.trans ?_ T.keys;rw[<-Bn];exact(bM _ j f).map gh
  rw[e]at i;have k:ln U w (SetTable.eraseAt es j) (t.drop j) (zs.erase z):={
   elts:=λx c=>by
    rw[zv]at c;exact T.elts x<|Fa c
   keys:=by
    rw[zv];refine List.Perm.cons_inv<|i.trans ?_;exact List.perm_cons_erase d
   nodup:=T.nodup.erase z
   few:=QZ (List.length_erase_le) T.few
   fits:=by
    have:(SetTable.eraseAt es j).size=es.size-1:=by
     rw[<-Bv,zv,Dg,Bv,BP h]
    rwa[this]
   led:=f2.trans T.led
   plain:=by
    obtain q|q:=T.plain
    ·subst q;simp at h
    ·exact .inr (l.trans q)}
  refine BJ<|CN b hd T.fits ?_
  dsimp only
  refine BJ<|HX b hd ?_<|ko<|Bt k.fS;refine BJ<|wpAny_point<|BL<|k1 _ d (CQ _ a _) (qk b c hd k).2
theorem Q7{α:Type}(next:Nat->Nat):∀(a k:Nat)(left:List α)(b:Array α),left.length<=a->(pickOrder.go next a k left b).toList.Perm (b.toList++left)
 |0,k,left,b,h=>by
  have:left=[]:=Cd.mp (by omega);subst this;unfold pickOrder.go;simp
 |a+1,k,left,b,h=>by
  unfold pickOrder.go;cases e:left[next k%left.length]? with
  |none=>
   have:left=[]:=by
    cases left with
    |nil=>rfl
    |cons x r=>
     have c:next k%(x :: r).length<(x :: r).length:=Gw _ (by simp);rw[Ab c]at e;cases e
   subst this;simp
  |some x=>
   dsimp only
   obtain⟨c,d⟩:=Ac.mp e;refine(Q7 next a (k+1) _ _ (by rw[Dg,BP c];omega)).trans ?_;rw[Array.toList_push,Au];refine PB _ ?_;have:=bM left _ c;rwa[d]at this
def Q8{α:Type}(next:Nat->Nat)(xs:Array α):(pickOrder next xs).toList.Perm xs.toList:=by
 have:=Q7 next xs.size 0 xs.toList #[] (by simp)
 simpa[pickOrder]using this
def wp{Q:Nat->Shared->Prop}(a:n≠0)(h:∀i d,i<n->Q i {s with drawn:=d}):bc U w A (choose src n) Q E s:=
 λb p _=>⟨a,h _ _<|Gw _<|RB a⟩
theorem Ht{α:Type}:∀(n:Nat)(xs:List α)(s:Shared)(Q:List α->Shared->Prop),xs.length<=n->(∀ys d,ys.Perm xs->Q ys {s with drawn:=d})->bc U w A (drawOrder n xs) Q E s
 |0,xs,s,Q,h,k=>by
  have:xs=[]:=Cd.mp (by omega);subst this;unfold drawOrder;exact BL<|k [] s.drawn<|List.Perm.refl _
 |n+1,[],s,Q,h,k=>by
  unfold drawOrder;exact BL<|k [] s.drawn<|List.Perm.refl _
 |n+1,x :: r,s,Q,h,k=>by
  unfold drawOrder;refine BJ (wp (by simp) λi d a=>?_);rw[Ab a]
  dsimp only
  refine BJ (Ht n _ _ _ (by rw[Dg,BP a];omega) λys b p=>?_);exact BL<|k _ b<|(p.cons _).trans<|bM _ i a
def wp_text{Q:Bool->Shared->Prop}(k:Q (cR w) s):bc U w A setsByText Q E s:=by
 unfold setsByText;exact BJ<|KD<|BL k
variable{t:SetTable}
theorem bp{Q:Array (Int×Value)->Shared->Prop}(c:s.heap.get? a=some o)(hd:o.data=.set es ep t)(T:ln U w es t zs)
  (k:∀b d,b.toList.Perm es.toList->Q b {s with drawn:=d}):bc U w A (setWalk a) Q E s:=by
 unfold setWalk;refine BJ<|CN c hd T.fits ?_
 dsimp only
 refine BJ<|wp_text ?_;cases e:cR w with
 |true=>
  simp only[DP];exact BJ<|KD<|BL<|k _ s.drawn<|Q8 _ _
 |false=>
  simp only[Bb,CV];show wpAny _ _ (if(!t.plain && decide (es.size>1))=true then _ else _) _ _ _
  split
  ·refine BJ (Ht _ _ _ _ (by simp) λf d p=>?_);exact BL<|k _ d<|by simpa using p
  ·refine BJ ?_;show wpAny _ _ (if(!t.led && decide (es.size>1))=true then _ else _) _ _ _;rw[BK<|by rw[T.led,e];simp];exact BL<|BL<|k _ s.drawn<|List.Perm.refl _
def q1e{Q:Bool->Shared->Prop}(l:List Addr)(j:∀b∈l,∃ys,aA U w s.heap b ys)(k:Q true s):bc U w A (setsQuiet l) Q E s:=by
 unfold setsQuiet;refine BJ<|wpAny_forIn_list _ (λa b d=>b.1=none/\d=s/\∀c∈a,∃ys,aA U w s.heap c ys) _ ?_ ?_ l _ ⟨rfl,rfl,j⟩
 ·rintro x a b d ⟨q,rfl,f⟩;obtain⟨ys,o,es,ep,t,m,r,hd,T⟩:=f x Ag;refine BJ<|KN m hd T.fits<|BJ<|RD _ (λa b n=>b.1=none/\n=d/\∀e∈a,oQ U w e) _ ?_ ?_ es _ ⟨rfl,rfl,T.elts⟩
  ·rintro e v y p ⟨B,rfl,i⟩;obtain⟨z,u,rfl⟩:=i _ Ag;exact BL ⟨rfl,rfl,λe h=>i e<|Ak _ h⟩
  ·rintro ⟨_,_⟩ p ⟨rfl,rfl,_⟩;exact BL ⟨rfl,rfl,λc h=>f c<|Ak _ h⟩
 ·rintro ⟨_,_⟩ d ⟨rfl,rfl,_⟩;exact BL k
set_option tactic.hygienic true in
def k72{f:Addr}{Q:Array (Int×Value)->Shared->Prop}(m:s.heap.get? a=some o)(x:o.ExactSet)(hd:o.data=.set es ep t)(T:ln U w es t zs)(j:aA U w s.heap f zf)
  (k:∀l h' d,l.toList.Perm es.toList->Heap.SameBut f s.heap h'->aA U w h' f zf->Q l {s with heap:=h',drawn:=d}):bc U w A (setWalkUnseen a [f]<|some f) Q E s:=by
 unfold setWalkUnseen;refine BJ<|CN m hd T.fits ?_
 dsimp only
 refine BJ<|wp_text ?_
 split
 ·exact bp m hd T λl d p=>k l s.heap d p (Heap.SameBut.refl _ _) j
 ·rename_i v;have h:cR w=false:=by
   cases e:cR w with
   |false=>rfl
   |true=>rw[e]at v;simp at v
  refine BJ<|q1e [a,f] (λb h=>?_) ?_
  ·obtain rfl|h:=Al.mp h
   ·exact⟨zs,o,es,ep,t,m,x,hd,T⟩
   ·rw[Af]at h;subst h;exact⟨zf,j⟩
  ·simp only[Eb,Bb,CV];refine BJ<|GX ?_;obtain⟨of,y,B,i,n,r,u,c⟩:=id j;refine BJ<|CN n u c.fits ?_
   dsimp only
   have z:ln U w y {i with led:=i.led && t.led,plain:=i.plain && t.plain} zf:=
    ⟨c.elts, c.keys, c.nodup, c.few, c.fits, by show (i.led && t.led)=_; rw[c.led, T.led]; simp, by
     obtain q|q:=c.plain
     ·exact .inl q
     ·exact .inr<|by show(i.plain && t.plain)=false;rw[q];rfl⟩
   split
   ·refine BJ<|HX n u ?_<|ko<|Bt c.fS;exact BL<|k es _ s.drawn (List.Perm.refl _) (CQ _ f _) (qk n r u z).2
   ·exact BL<|k es s.heap s.drawn (List.Perm.refl _) (Heap.SameBut.refl _ _) j
end
open Builtin.Frozenset
def ql(m:Nat):Bool:=m == 8 || m == 16 || m == 32 || m == 64 || m == 128
theorem rc(h:ql m=true):wb m:=by
 unfold ql at h;simp only[Bool.or_eq_true,JD]at h;unfold wb;omega
def dB:((range 64).all λn=>ql (SetTable.sizeAbove<|n*2) && decide (n<SetTable.sizeAbove (n*2)))=true:=by decide +kernel
def tz(h:n<64):wb (SetTable.sizeAbove<|n*2)/\n<SetTable.sizeAbove (n*2):=by
 have q:=dB;rw[De]at q;have:=q n<|Bc.mpr h;rw[Bq,DN]at this;exact⟨rc this.1,this.2⟩
variable{order:Array Nat}
def CS(p:order.toList.Perm<|range es.size):(order.filterMap (es[·]?)).toList.Perm es.toList:=by
 rw[Array.toList_filterMap];have:=p.filterMap λi=>es[i]?;rwa[filterMap_getElem?_range]at this
variable{Q:Î}{each:Sem Unit}{b:Addr}
section
structure fw(w:World)(t:SetTable):Prop where
 place:t.place=#[]
 dummies:t.dummies=#[]
 led:t.led = !cR w
 plain:t.plain=true
def fw.tab{t:SetTable}(B:fw w t):ln U w #[] t []:=
 ⟨λe a=>by simp at a,by simp,Cn,(by decide),by unfold SetTable.fits SetTable.fill;rw[B.place,B.dummies];simp,B.led,.inl rfl⟩
def fw.fill{t:SetTable}(B:fw w t):t.fill=0:=by unfold SetTable.fill;rw[B.place,B.dummies];rfl
def k8b
  (k:∀ o,o.ExactSet->(∃ t,o.data = .set #[] 0 t/\fw w t/\t.mask=7)->o.isFreed=false->Q (.ref s.heap.objs.size) {s with heap:=s.heap.push o}):bc U w A (newSet<|.type "set") Q E s:=by
 unfold newSet;refine BJ<|wp_text ?_
 dsimp only
 simp only[newObj];exact BJ<|QT<|BL<|k _ ⟨rfl,rfl,rfl⟩ ⟨_,rfl,⟨rfl,rfl,rfl,rfl⟩,rfl⟩ rfl
variable{t:SetTable}
theorem q7j{Q:Unit->Shared->Prop}(b:s.heap.get? a=some o)(d:o.ExactSet)(hd:o.data=.set #[] ep t)(B:fw w t)(h:t.mask=7)(m:n<64)
  (k:∀h' i r t',Heap.SameBut a s.heap h'->h'.get? a=some i->i.ExactSet->i.data=.set #[] r t'->fw w t'->wb (t'.mask+1)->n<=t'.mask->Q () {s with heap:=h'}):
  bc U w A (setRoomFor a n) Q E s:=by
 have T:ln U w #[] t []:=B.tab;unfold setRoomFor;refine BJ<|CN b hd T.fits ?_
 dsimp only
 unfold SetTable.roomFor;rw[B.fill,h]
 by_cases c:(0+n)*5>=7*3
 ·rw[BP c]
  dsimp only
  have u:(t.place.size+n)*2=n*2:=by rw[B.place];simp
  rw[u];obtain⟨v,J⟩:=tz m;unfold setRelay;refine BJ<|CN b hd T.fits ?_
  dsimp only
  have x:SetTable.sizeAbove (n*2)<=512:=v.pos.2;rw[BK<|by rw[FJ];omega];have em:SetTable.sizeAbove (n*2)-1+1=SetTable.sizeAbove (n*2):=(by omega)
  obtain⟨t',order,e,p,f,y,z,j,C,D⟩:=Q3 (led:=t.led) (plain:=t.plain) (by rwa[em]) (#[]:Array Int) (by simp);have G:t.relaid ((#[]:Array<|Int×Value).map (·.1)) (n*2)=some (t',order):=by
   unfold SetTable.relaid;rwa[show((#[]:Array<|Int×Value).map (·.1))=#[] by simp]
  rw[G];have H:order=#[]:=by
   have:=p.length_eq;simp at this;exact this
  subst H;refine BJ ?_;show wpAny _ _ (if(((#[]:Array Nat).filterMap ((#[]:Array<|Int×Value)[·]?)).size != (#[]:Array<|Int×Value).size)=true then(unsupported "internal:set-table-lost-an-element" : Sem<|Array (Int×Value)×SetTable)else pure ((#[]:Array Nat).filterMap ((#[]:Array<|Int×Value)[·]?),t')) _ _ _;rw[BK<|by simp];refine BL ?_
  dsimp only
  have I:((#[]:Array Nat).filterMap ((#[]:Array<|Int×Value)[·]?))=#[]:=by simp
  rw[I];have l:fw w t':=⟨by
   have:=D
   simpa using this,C,y.trans B.led,z.trans B.plain⟩
  refine HX b hd ?_ (by simp);have q:=(qk b d hd<|l.tab (U:=U)).1;exact k _ _ _ _ (CQ _ a _) q d rfl l (by rwa[j,em]) (by rw[j];omega)
 ·rw[BK c];exact BL<|k s.heap o ep t (Heap.SameBut.refl _ _) b d hd B (by rw[h];exact .inl rfl)<|by rw[h];omega
def WJ{Q:Unit->Shared->Prop}(y:s.heap.get? a=some o)(m:o.ExactSet)(hd:o.data=.set #[] ep t)(B:fw w t)(I:t.mask=7)(J:a≠b)(S:aA U w s.heap b zs)(hz:zs.length<64)
  (k:∀h',Heap.SameBut a s.heap h'->aA U w h' a zs->Q () {s with heap:=h'}):bc U w A (setMerge a b each) Q E s:=by
 obtain⟨ob,h,L,i,M,N,O,d⟩:=S;unfold setMerge;have T:(a == b)=false:=by simpa using J
 rw[T];simp only[Bb,CV];refine BJ<|CN M O d.fits ?_
 dsimp only
 by_cases c:h.isEmpty=true
 ·rw[BP c];have:h=#[]:=by simpa using c
  subst this;have Y:zs=[]:=by
   have:=d.size;exact Cd.mp<|by simpa using this.symm
  subst Y;exact BL<|k s.heap (Heap.SameBut.refl _ _) ⟨o,#[],ep,t,y,m,hd,B.tab⟩
 ·rw[BK c];have r:h.size<64:=by rwa[d.size]
  refine BJ<|q7j y m hd B I r λh' o' oz t' z j C l u hp hl=>?_;refine BJ<|CN j l (u.tab (U:=U)).fits ?_
  dsimp only
  have ld:(t'.led && i.led) = !cR w:=by rw[u.led,d.led];simp
  have D:i.plain=false:=by
   obtain q|q:=d.plain
   ·rw[q]at c;simp at c
   ·exact q
  unfold SetTable.road;rw[u.fill];simp only[FZ,Bb,CV]
  by_cases G:(t'.mask == i.mask && i.dummies.isEmpty)=true
  ·rw[BP G]
   dsimp only
   have n:ln U w h {i with finger:=t'.finger,led:=t'.led && i.led,moves:=t'.moves,plain:=t'.plain && i.plain} zs:=
    ⟨d.elts,d.keys,d.nodup,d.few,d.fits,ld,.inr<|by show(t'.plain && i.plain)=false;rw[D];simp⟩
   refine HX j l ?_<|ko<|Bt d.fS;exact k _ (z.trans<|CQ _ a _) (qk j C l n).2
  ·rw[BK G]
   dsimp only
   obtain⟨t2,order,e,p,f,l1,l2,l3,l4,l5⟩:=Q3 (plain:=t'.plain && i.plain) hp (h.map (·.1)) (by simpa using hl);rw[e];have p2:order.toList.Perm (range h.size):=by simpa using p
   have v:=CS p2;have H:(order.filterMap (h[·]?)).size=h.size:=by
    have:=v.length_eq;rwa[Bv,Bv]at this
   refine BJ ?_;show wpAny _ _ (if((order.filterMap (h[·]?)).size != h.size)=true then _ else pure (order.filterMap (h[·]?),t2)) _ _ _;rw[BK<|by rw[H];simp];refine BL ?_
   dsimp only
   have n:ln U w (order.filterMap (h[·]?)) t2 zs:=⟨λx m=>d.elts x<|v.mem_iff.mp m,(v.map gh).trans d.keys,d.nodup,d.few,by rw[H];simpa using f,l1.trans ld,.inr<|l2.trans<|by rw[D];simp⟩;refine HX j l ?_<|ko<|Bt n.fS;exact k _ (z.trans<|CQ _ a _) (qk j C l n).2
def zy{Q:Bool->Shared->Prop}(S:aA U w s.heap a zs)(k:Q true s):bc U w A (isAnySet<|.ref a) Q E s:=by
 unfold isAnySet;exact BJ<|KH S.typeIs sub_set_self<|BL k
def q71(S:aA U w s.heap a zs)(k:Q (.type "set") s):bc U w A (baseOf a) Q E s:=by
 unfold baseOf;exact BJ<|KH S.typeIs sub_set_self<|BL k
def Q9{Q:Nat->Shared->Prop}(S:aA U w s.heap a zs)(k:∀n,(∀s':Shared,s'.heap.get? a=s.heap.get? a->∀b:Nat->Shared->Prop,b n s'->bc U w A (setEpoch a) b E s')->Q n s):bc U w A (setEpoch a) Q E s:=by
 obtain⟨o,es,ep,t,c,d,hd,T⟩:=S;exact MN c hd T.fits<|k ep λs' e b q=>MN (e.trans c) hd T.fits q
def q6d{id:String}(S:aA U w s.heap b zs)(d:zs.length<64)
  (k:∀ h',(∀ c o,s.heap.get? c=some o->h'.get? c=some o)->aA U w h' s.heap.objs.size zs->Q (.ref s.heap.objs.size) {s with heap:=h'}):bc U w A (newFrom id (.type "set")<|.ref b) Q E s:=by
 unfold newFrom;refine BJ<|k8b λo f⟨t,hd,B,h⟩i=>?_;have j:(s.heap.push o).get? s.heap.objs.size=some o:=Ao _ i;have l:=S.lt;have a:aA U w (s.heap.push o) b zs:=S.keep λr e=>Ae _ e;unfold addrOf;refine BJ<|BL<|BJ<|CJ ?_;unfold updateFrom;refine BJ<|zy a ?_;simp only[DP];refine BJ<|BL ?_;unfold merge;refine BJ<|Q9 a λn _=>?_;refine WJ j f hd B h (Cw l) a d λh' m p=>?_;refine BL<|k h' (λc u e=>?_) p;have q:=Bi<|Ap e;rw[m.2 c q];exact Ae _ e
def f8(zs:Ñ)(z:Str):Ñ:=if z∈zs then zs.erase z else zs++[z]
def Hw(a:zs.Nodup)(z y:Str):y∈f8 zs z↔(if y=z then y∉zs else y∈zs):=by
 unfold f8
 by_cases c:z∈zs
 ·rw[BP c,a.mem_erase_iff]
  by_cases e:y=z
  ·subst e;simp[c]
  ·simp[e]
 ·rw[BK c,An,Af]
  by_cases e:y=z
  ·subst e;simp[c]
  ·simp[e]
def AL(zs:Ñ)(z:Str):(f8 zs z).length<=zs.length+1:=by
 unfold f8
 split
 ·exact Nat.le_succ_of_le<|List.length_erase_le
 ·simp
set_option tactic.hygienic true in
theorem Ra:∀(ps zs:Ñ),zs.Nodup->ps.Nodup->∀y,y∈ps.foldl f8 zs↔(if y∈ps then y∉zs else y∈zs)
 |[],zs,_,_,y=>by simp
 |p :: r,zs,a,b,y=>by
  rw[Bk]at b;have f:(f8 zs p).Nodup:=by
   unfold f8
   split
   ·exact a.erase p
   ·rename_i c;rw[Cj];exact⟨a,by simp,λx i y d e=>by rw[Af]at d;subst d e;exact c i⟩
  rw[Dp,Ra r _ f b.2 y]
  by_cases e:y=p
  ·subst e;rw[BK b.1,Hw a,BP rfl,BP Ag]
  ·by_cases c:y∈r
   ·rw[BP c,BP<|Ak _ c,Hw a,BK e]
   ·rw[BK c,BK (λh=>by obtain h|h:=Al.mp h;exact e h;exact c h),Hw a,BK e]
end
def vn:entryFor table "set.__xor__" = some Builtin.«frozenset.__xor__»:=
 QL (id':= "frozenset.__xor__") (by kernel_rfl) rfl (by decide +kernel) (by kernel_rfl)
variable{zb:Ñ}
section
variable{r:Addr}{za zr:Ñ}
theorem G1{nm:String}{Q:Unit->Shared->Prop}(v:aA U w s.heap a za)(N:aA U w s.heap r zr)(J:a≠r)(hl:za.length+zr.length<900)
  (k:∀h' d(i:Ñ),i.Perm za->Heap.SameBut r s.heap h'->aA U w h' r (i.foldl f8 zr)->Q () {s with heap:=h',drawn:=d}):bc U w A (symmetricDifferenceUpdate nm r<|.ref a) Q E s:=by
 unfold symmetricDifferenceUpdate;have O:(Value.ref a == Value.ref r)=false:=by
  refine Dk.mpr λh=>J ?_;have:=eq_of_beq h;exact Value.ref.inj this
 rw[O];simp only[Bb,CV];refine BJ<|LK v.typeIs ?_;rw[show(Value.type "set" == Value.type "dict")=false by decide];simp only[Bb,CV];refine BJ<|zy v ?_;simp only[DP];refine BJ<|BL ?_;unfold addrOf;refine BJ<|BL ?_;refine BJ<|Q9 v λn Y=>?_;refine CJ ?_;obtain⟨o,es,ep,t,ho,hx,hd,T⟩:=id v;refine BJ<|k72 ho hx hd T N λi h1 l p sb S1=>?_;have L:(i.toList.map gh).Perm za:=(p.map gh).trans T.keys;have el:∀e∈i.toList,oQ U w e:=λe x=>T.elts e<|p.mem_iff.mp x;refine BJ<|RD _ (λc _ D=>∃h' m,D={s with heap:=h',drawn:=l}/\Heap.SameBut r s.heap h'/\aA U w h' r m/\m.length+c.length<900/\(∀e∈c,oQ U w e) /\
   (c.map gh).foldl f8 m=(i.toList.map gh).foldl f8 zr) _ ?_ ?_ i _ ⟨h1,zr,rfl,sb,S1,?_,el,rfl⟩
 ·rintro e c b D ⟨h',m,rfl,u,y,oR,x,G⟩;obtain⟨z,tk,rfl⟩:=x _ Ag;have zB:∀e∈c,oQ U w e:=λe h=>x e<|Ak _ h;rw[As]at oR;have M:∀(f:Heap)(B:Nat->Shared->Prop),Heap.SameBut r s.heap f->B n {s with heap:=f,drawn:=l}->bc U w A (setEpoch a) B E {s with heap:=f,drawn:=l}:=
   λf B j q=>Y _ (j.2 a J) B q
  have fin:∀f H,Heap.SameBut r s.heap f->aA U w f r H->H=f8 m z->∃h' I,({s with heap:=f,drawn:=l}:Shared)={s with heap:=h',drawn:=l}/\Heap.SameBut r s.heap h'/\aA U w h' r I/\I.length+c.length<900/\(∀e∈c,oQ U w e) /\
    (c.map gh).foldl f8 I=(i.toList.map gh).foldl f8 zr:=by
   rintro f H j q rfl;refine⟨f,_,rfl,j,q,?_,zB,G⟩;have:=AL m z;omega
  dsimp only
  refine BJ<|CJ<|BJ<|k5l (s:={s with heap:=h',drawn:=l}) y (λC=>?_) λf C j q=>?_
  ·simp only[Gx,DP];refine BJ (Hs (s:={s with heap:=h',drawn:=l}) y (by omega) λb f j q=>BL ?_);unfold unchanged;refine BJ<|BJ<|M f _ (u.trans j) ?_;simp only[FZ,Bb,CV];refine BL<|BL<|fin f _ (u.trans j) q ?_;unfold added f8;rw[BK C,BK C]
  ·simp only[Eb,Bb,CV];refine BL ?_;unfold unchanged;refine BJ<|BJ<|M f _ (u.trans j) ?_;simp only[FZ,Bb,CV];refine BL<|BL<|fin f _ (u.trans j) q ?_;unfold f8;rw[BP C]
 ·rintro b D ⟨h',m,rfl,u,y,_,_,G⟩;have zi:m=(i.toList.map gh).foldl f8 zr:=G;subst zi;exact BL<|k h' l _ L u y
 ·have:=L.length_eq;rw[Aa]at this;omega
theorem Rl(f:aA U w s.heap a za)(h:aA U w s.heap b zb)(x:za.length<64)(m:zb.length<64)
  (k:∀h' d j,(∀c o,s.heap.get? c=some o->h'.get? c=some o)->aA U w h' s.heap.objs.size j->(∀y,y∈j↔(if y∈za then y∉zb else y∈zb))->Q (.ref s.heap.objs.size) {s with heap:=h',drawn:=d}):
  bc U w A (binaryOp .BitXor (.ref a)<|.ref b) Q E s:=by
 refine wpAny_binaryOp_same f.typeIs h.typeIs F.fills_set_xor F.slot_set_xor<|DQ F.slot_set_xor f.typeIs vn ?_<|F.args_set_xor_2 _ _;show wpAny _ _ (slot1 "__xor__" ⟨[.ref a,.ref b],[]⟩ >>= _) _ _ _;unfold slot1 slotArgs;simp only[Gk,Eb,Bb,↓reduceIte,bind_assoc,As,Eu,FZ];refine BJ<|BL ?_
 dsimp only
 refine BJ<|BL ?_
 dsimp only
 refine BJ<|BJ<|zy f<|zy h ?_;simp only[Eb,Bb,CV];unfold addrOf;refine BJ<|BL<|BJ ?_;show wpAny _ _ (baseOf a >>= λc=>newFrom (toString "frozenset."++toString "__xor__") c (.ref b) >>= λres=>addrOf res >>= λq=>holding [res] (symmetricDifferenceUpdate (toString "frozenset."++toString "__xor__") q<|.ref a) >>= λ_=>pure res) _ _ _;refine BJ<|q71 f<|BJ<|q6d h m λz l n=>?_;unfold addrOf;refine BJ<|BL<|BJ<|CJ ?_;have i:=f.keep<|l a;refine G1 i n (Bi f.lt) (by omega) λr d t p u v=>?_;refine BL<|BL ⟨_,rfl,by simp,k r d _ (λc o e=>?_) v λy=>?_⟩
 ·rw[u.2 c<|Bi<|Ap e];exact l c o e
 ·rw[Ra t zb h.nodup (p.nodup_iff.mpr f.nodup) y];simp only[p.mem_iff]
end
def made(zs:Ñ):Ñ:=zs.foldl added []
set_option tactic.hygienic true in
def Hz(zs:Ñ)(z y:Str):y∈added zs z↔y∈zs\/y=z:=by
 unfold added
 split
 ·rename_i h;exact⟨.inl,λq=>q.elim id λe=>e ▸ h⟩
 ·rw[An,Af]
def E2(zs:Ñ)(z:Str):(added zs z).length<=zs.length+1:=by
 unfold added
 split<;>simp
theorem Rc:∀(ps zs:Ñ)(y:Str),y∈ps.foldl added zs↔y∈zs\/y∈ps
 |[],zs,y=>by simp
 |p :: r,zs,y=>by
  rw[Dp,Rc r,Hz,Al]
  constructor
  ·rintro ((h|h)|h)
   ·exact .inl h
   ·exact .inr<|.inl h
   ·exact .inr<|.inr h
  ·rintro (h|h|h)
   ·exact .inl<|.inl h
   ·exact .inl<|.inr h
   ·exact .inr h
theorem Rf:∀(ps zs:Ñ),(ps.foldl added zs).length<=zs.length+ps.length
 |[],zs=>by simp
 |p :: r,zs=>by
  rw[Dp,As];have a:=Rf r<|added zs p;have b:=E2 zs p;omega
def FM(zs:Ñ)(y:Str):y∈made zs↔y∈zs:=by
 unfold made;rw[Rc];simp
def HM(zs:Ñ):(made zs).length<=zs.length:=by
 have:=Rf zs []
 simpa[made]using this
variable{P:Nat->Value->Prop}{G:Array GenState->Array GenState->Prop}{items:Array Value}
section
def gO(w:World):Obj:={cls:= .type "set",dict:=none,data:= .set #[] 0 (.fresh 0 0 (!cR w))}
def HZ(e:h.get? a=some (gO w)):aA U w h a []:=⟨_,_,_,_,e,⟨rfl,rfl,rfl⟩,rfl,fw.tab ⟨rfl,rfl,rfl,rfl⟩⟩
def px(v:Value)(k:Q (.ref s.heap.objs.size) {s with heap:=s.heap.push (gO w)}):
  codeAny (model U w) A (.call (.builtin "set.__new__") ⟨[.type "set",v],[]⟩) (wants Q E) s:=by
 refine KR ?_;show wpAny _ A.in1 (checkBuiltinCall "set.__new__" ⟨[.type "set",v],[]⟩ >>= λ_=>again<|.builtin "set.__new__" ⟨[.type "set",v],[]⟩) _ _ s;refine BJ<|JG (F.newCall_set_1 v)<|BL ⟨JN F.plain_set_new _,FQ F.entry_set_new ?_⟩;rw[FN F.plain_set_new _];unfold Builtin.«set.__new__» newClass
 dsimp only
 refine BJ<|BJ<|JG (show isType (.type "set")=pure true from rfl)<|BL ?_;simp only[Eb,Bb,CV];unfold newSet;refine BJ<|BJ<|wp_text ?_
 dsimp only
 simp only[newObj];exact BJ<|QT<|BL<|BL k
variable{R:Result->Shared->Prop}{I:Addr}{fp wr:List Addr}{St:Nat->Shared->Prop}
theorem WA(W:WalksS U w A.in1 I fp wr G n P St)(a:Addr)(j:a∉fp)(zs:Ñ)(T:zs.length=n)(x:∀i v,P i v->∃z t,zs[i]?=some z/\v=Value.str z t)(l:n<900):
  ∀k i s,n-i=k->i<=n->St i s->aA U w s.heap a (made<|zs.take i)->(∀s',Moved (a :: wr) G s s'->aA U w s'.heap a (made zs)->R (.ok<|.ret .none) s') ->
   codeAny (model U w) A (.builtin "set.update.loop" ⟨[.ref a,.ref I],[]⟩) R s:=by
 have p:=λh=>j<|W.sub _ h;have q:∀b∈wr,b∈a :: wr:=λb l=>Ak _ l;intro k
 induction k with
 |zero=>
  intro i s y B st S d;have e:i=n:=(by omega)
  subst e;refine FQ LQ ?_;rw[FN IW _];show wpAny _ A.in1 (pyNext (.ref I) >>= _) _ _ s;refine BJ<|W.done s _ _ st λs' m=>?_;show wpAny _ A.in1 (ret Value.none) _ _ s';rw[Ck<|(by omega)]at S;exact BL<|d s' (m.mono q)<|S.keep λo e=>m.heap a o p e
 |succ k C=>
  intro i s y B st S d;have r:i<n:=(by omega)
  refine FQ LQ ?_;rw[FN IW _];show wpAny _ A.in1 (pyNext (.ref I) >>= _) _ _ s;refine BJ<|W.item i s _ _ r st λv s' D E m=>?_;obtain⟨z,t,H,rfl⟩:=x i v D;have J:=S.keep λo e=>m.heap a o p e;show wpAny _ A.in1 (holding [Value.str z t] (setAdd a<|.str z t) >>= _) _ _ s';refine BJ<|CJ ?_;unfold setAdd;refine CJ<|BJ<|(strKind U w).pyHash (QC _ _ _ _) ?_;have Y:(made<|zs.take i).length<=i:=By (HM _) (by rw[Bh];omega);refine Hs J (by omega) λb L u S2=>?_;have M:aA U w L a (made<|zs.take<|i+1):=by
   rw[Bx,H];unfold made;rwa[List.foldl_append]
  refine BL ⟨JN IW _,C (i+1) _ (by omega) r (W.frame _ s' _ _ E (Ef _) λc f o e=>?_) M λN O Q=>?_⟩
  ·rwa[u.2 c λh=>j<|h ▸ f]
  ·refine d N (Moved.trans W.gtrans ((m.mono q).then_heap (Ef _) λc o f e=>?_) O) Q;rwa[u.2 c λh=>f<|h ▸ Ag]
theorem v8{l:Addr}(G:A.handled=none)(H:s.heap.IsList l items)(I:∀(i:Nat)v,items[i]?=some v->∃z t,zs[i]?=some z/\v=Value.str z t)(J:zs.length=items.size)(a:items.size<900)
  (k:∀ h' tk,(∀ b o,s.heap.get? b=some o->h'.get? b=some o)->aA U w h' s.heap.objs.size (made zs)->Q (.ref s.heap.objs.size) {s with heap:=h',toks:=tk}):bc U w A (call (.type "set") [.ref l]) Q E s:=by
 obtain⟨c,tl,qo⟩:=F.called_set.mro;have vE:=F.called_set.made;have mU:=F.called_set.sub;refine RT<|KR ?_;show wpAny _ _ (callAny (.type "set") _) _ _ _;refine BL ⟨Code.quiet_builtin _ (by decide +kernel),FQ F.entry_type_call ?_⟩;rw[Around.under_plain (weight_type_call_type "set" [.ref l] []) rfl];have h3:=F.typeCall_set_1<|.ref l
 repeat (any_goals (first|assumption|wp_step))
 refine JK (px (.ref l) (E:=E) (Q:=λv u=>v=.ref s.heap.objs.size/\u={s with heap:=s.heap.push (gO w)}) ⟨rfl,rfl⟩) λr u d=>?_;cases r with
 |error e=>exact d
 |ok L=>
  cases L with
  |ret v=>
   obtain⟨rfl,rfl⟩:=d;have f:(s.heap.push<|gO w).get? s.heap.objs.size=some (gO w):=Ao _ rfl;have M:Shared.TypeIs {s with heap:=s.heap.push (gO w)} (.ref s.heap.objs.size) "set":=⟨_,f,rfl⟩;have mV:=F.called_set.init.lookup;have Ia:=F.called_set.init.bind<|.ref s.heap.objs.size
   repeat (any_goals (first|assumption|wp_step))
   refine JK (QD (R:=wants (λr N=>r=.none/\∃h' tk,N={s with heap:=h',toks:=tk}/\(∀b o,s.heap.get? b=some o->h'.get? b=some o)/\aA U w h' s.heap.objs.size (made zs)) E) F.called_set.init.plain F.entry_set_init<|check_set_init_1 M ?_) λO s2 j=>?_
   ·obtain⟨ol,x,y,nl,B⟩:=H;obtain⟨T,Y,Rh,qt⟩:=ol;simp only at y B;subst y B;have Ib:(s.heap.push<|gO w).get? l=some {cls:= .type "list",dict:=Y,data:= .seq items nl,slots:=qt}:=Ae _ x;have n1:=F.sub_list_set;have n2:=F.sub_list_frozenset;have n3:(Value.type "list" == Value.type "dict")=false:=(by decide)
    have C:(s.heap.push<|gO w).IsList l items:=⟨_,Ib,rfl,nl,rfl⟩;have Ic:(s.heap.push<|gO w).get? s.heap.objs.size=some {cls:= .type "set",dict:=none,data:= .set #[] 0 (.fresh 0 0 (!cR w))}:=f;unfold Builtin.«set.__init__» noKeywords updateFrom;generalize n:pyIter=PI
    wp_walk
    subst n;refine MK C ?_;refine BJ<|wpAny_runValue ?_;have D:l<s.heap.objs.size:=Ap x;have bA:l≠(s.heap.push<|gO w).objs.size:=by
     rw[Dh];exact Bi<|Bt D
    have p:s.heap.objs.size∉[(s.heap.push<|gO w).objs.size,l]:=by
     rw[Dh];intro h
     obtain h|h:=Al.mp h
     ·exact absurd h<|Bi<|Fd _
     ·rw[Af]at h;exact absurd h<|Cw D
    refine WA ((Walks.list (by simp[G]) _ l bA items).toS) s.heap.objs.size p zs J (λi v hv=>I i v hv) a (items.size-0) 0 _ (by omega) (Bu _)
     ⟨⟨_,Ao _ rfl,rfl,rfl⟩,(C.push _)⟩ ?_ λs' m S'=>?_
    ·exact HZ<|Ae _ f
    ·obtain⟨h',g',d',zC,ER⟩:=s';have eg:g'=s.gens:=m.gens;have ed:d'=s.drawn:=m.drawn;have eo:ER=s.os:=m.os;subst eg ed eo;refine BL ?_;refine BL ⟨rfl,h',zC,rfl,λb o e=>?_,S'⟩;have a:=Ap e;refine m.heap b o (λh=>?_)<|Ae _<|Ae _ e;rw[Dh]at h
     obtain h|h:=Al.mp h
     ·exact absurd h<|Bi a
     ·rw[Af]at h;exact absurd h<|Bi<|Bt a
   ·cases O with
    |error e=>exact j
    |ok q=>
     cases q with
     |ret r=>
      obtain⟨rfl,h',tk,rfl,q1,q2⟩:=j
      repeat (any_goals (first|assumption|wp_step))
      exact k _ _ q1 q2
     |_=>exact j.elim
  |_=>exact d.elim
end
def ij:Slot "set_iterator" "__next__" "set_iterator.__next__":=
 .of (owner:= "set_iterator") (n:= "__next__") (by rw[UL,PJ];kernel_rfl) (by decide +kernel) (by decide +kernel) (by decide +kernel)
  (by first|exact .inl (by decide +kernel)|exact .inr<|by decide +kernel) (by rw[isSubtype_type];kernel_rfl)
def qr:entryFor table "set_iterator.__next__" = some Builtin.«set_iterator.__next__»:=entryFor_of_fast<|by kernel_rfl
def args_next(a:Value):argsOk "set_iterator.__next__" ⟨[a],[]⟩:=by unfold argsOk;kernel_rfl
def IN:entryFor table "set.__iter__" = some Builtin.«frozenset.__iter__»:=
 QL (id':= "frozenset.__iter__") (by kernel_rfl) rfl (by decide +kernel) (by kernel_rfl)
def lW(first:Value)(i:Nat)(a:Addr)(n ep:Nat):Obj:={cls:= .type "set_iterator",data:= .fields #[first,.int i 0,.ref a,.int n 0,.int ep 0]}
def fV(ys:List Nat):Obj:={cls:= .type "tuple",data:= .seq (ys.map λ(i:Nat)=>rawInt i).toArray}
inductive Way(w:World)(h:Heap)(a tp:Addr)(es:Array<|Int×Value)(ep:Nat)(t:SetTable)(ws:List<|Int×Value)(i:Nat):Value->Prop where
 |drawn (ys:List Nat) (ht:h.get? tp=some (fV ys)) (hl:ys.length=es.size) (hw:∀j:Nat,∀y,ys[j]?=some y->es[y]?=ws[j]?):Way w h a tp es ep t ws i<|.ref tp
 |text (c:Int) (hb:cR w=true) (hw:ws=(pickOrder (w.params.setOrder a ep) es).toList):Way w h a tp es ep t ws i<|.int c 0
 |one (c:Nat) (hb:cR w=false) (hs:es.size<=1) (hw:ws=es.toList) (hc:SetTable.below t.place c=i):Way w h a tp es ep t ws i<|.int c 0
variable{first:Value}{ws:List (Int×Value)}{p:Array Nat}
section
variable{tp it:Addr}{t:SetTable}
def Ri(j c:Nat):SetTable.below #[j] c=if j<c then 1 else 0:=by
 unfold SetTable.below;show SetTable.below.go #[j] c 1 0 1=_;unfold SetTable.below.go;simp only[Nat.zero_lt_one,DP];show(if(#[j]:Array Nat).getD 0 c<c then SetTable.below.go #[j] c 0 1 1 else SetTable.below.go #[j] c 0 0 0)=_;rw[show(#[j]:Array Nat).getD 0 c=j by rfl]
 split<;>rfl
theorem Way.keep{h':Heap}(W:Way w h a tp es ep t ws i first)(k:∀o,h.get? tp=some o->h'.get? tp=some o):Way w h' a tp es ep t ws i first:=by
 cases W with
 |drawn e f j b=>exact .drawn e (k _ f) j b
 |text c d b=>exact .text c d b
 |one c d l b m=>exact .one c d l b m
def vH(x:Value)(e:h.get? it=some (lW first i a n ep)):(h.update it (Obj.mapFields (·.setIfInBounds 0 x))).get? it=some (lW x i a n ep):=Da _ e rfl
def ze(e:h.get? it=some (lW first i a n ep)):(h.update it (Obj.mapFields (·.setIfInBounds 1 (rawInt<|(i:Int)+1)))).get? it=some (lW first (i+1) a n ep):=Da _ e rfl
theorem Rj(h:p.size=1):∃j,p=#[j]:=by
 obtain⟨l⟩:=p
 match l,h with
 |[j],_=>exact⟨j,rfl⟩
def Rk(T:ln U w es t zs):t.place.size=es.size:=by
 have:=T.fits;unfold SetTable.fits at this;rw[Bq,JD]at this;exact this.1
theorem xq{Q:Option Value->Shared->Prop}(b:s.heap.get? it=some (lW first i a es.size ep))(l:s.heap.get? a=some o)(hd:o.data=.set es ep t)(T:ln U w es t zs)(H:Way w s.heap a tp es ep t ws i first)
  (I:tp≠it) (J:ws.Perm es.toList)  (u:ws[i]?=some e) (k:∀h' v,Heap.SameBut it s.heap h'->h'.get? it=some (lW v (i+1) a es.size ep)->Way w h' a tp es ep t ws (i+1) v->Q (some e.2) {s with heap:=h'}):
  bc U w A (pyNext<|.ref it) Q E s:=by
 have z:s.TypeIs (.ref it) "set_iterator":=⟨_,b,rfl⟩;unfold pyNext;refine BJ<|JQ<|JM z ij<|DQ ij z qr ?_<|args_next _;unfold Builtin.«set_iterator.__next__»;refine BJ<|BL<|BJ<|QM b rfl ?_
 dsimp only
 refine BJ<|KN l hd T.fits ?_;rw[BK<|by simp];have B:∀x,Heap.SameBut it s.heap ((s.heap.update it (Obj.mapFields (·.setIfInBounds 0 x))).update it (Obj.mapFields (·.setIfInBounds 1 (rawInt<|(i:Int)+1)))):=λx=>(CQ ..).trans<|CQ ..;have mW:i<es.size:=by
  have h1:ws.length=es.size:=by simpa using J.length_eq
  obtain h|h:=Dr i ws.length
  ·omega
  ·rw[Bd h]at u;cases u
 have C:Heap.SameBut it s.heap (s.heap.update it (Obj.mapFields (·.setIfInBounds 1 (rawInt<|(i:Int)+1)))):=CQ ..;cases H with
 |drawn m L M d=>
  dsimp only
  have p:m[i]?=some (m[i]'(by omega)):=Ab _;generalize m[i]'(by omega)=y at p;refine BJ<|wpAny_seqItems L rfl ?_
  dsimp only
  have n:(m.map λ(i:Nat)=>rawInt i).toArray[(i:Int).toNat]?=some (.int y 0):=by
   rw[Bm,VH,Ah,p];rfl
  rw[n]
  dsimp only
  unfold setNextDrawn;refine BJ<|BJ<|CN l hd T.fits ?_
  dsimp only
  rw[BK<|by simp];have q:es[(y:Int).toNat]?=some e:=by
   rwa[Bm,d i y p]
  rw[q]
  dsimp only
  refine BL (BJ<|DX b rfl (by simp) ?_);refine BL ⟨_,rfl,BL<|k _ _ C (ze b)<|.drawn m ?_ M d⟩;rwa[C.2 tp I]
 |text c f d=>
  dsimp only
  unfold setNext;refine BJ<|BJ<|CN l hd T.fits ?_
  dsimp only
  refine BJ<|wp_text ?_;rw[f];simp only[DP];rw[BK<|by simp];unfold setWalk;refine BJ<|BJ<|CN l hd T.fits ?_
  dsimp only
  refine BJ<|wp_text ?_;rw[f];simp only[DP];refine BJ<|KD ?_;refine BL ?_;have n:(pickOrder ((model U w).w.params.setOrder a ep) es)[(i:Int).toNat]?=some e:=by
   rw[Bm,<-Bw];show(pickOrder (w.params.setOrder a ep) es).toList[i]?=_;rwa[<-d]
  rw[n];refine BL ?_
  dsimp only[Option.map]
  refine BJ (DX b rfl (by simp) ?_);refine BJ (DX (vH _ b) rfl (by simp) ?_);exact BL ⟨_,rfl,BL<|k _ _ (B _) (ze<|vH _ b)<|.text _ f d⟩
 |one c f N d O=>
  have r:i=0:=(by omega)
  have D:es.size=1:=(by omega)
  subst r;have Y:t.place.size=1:=(Rk T).trans D;obtain⟨j,G⟩:=Rj Y
  dsimp only
  unfold setNext;refine BJ<|BJ<|CN l hd T.fits ?_
  dsimp only
  refine BJ<|wp_text ?_;rw[f];simp only[Bb,CV];show wpAny _ _ (if(!t.plain && decide (es.size>1))=true then _ else _) _ _ _;rw[BK<|by rw[D];simp];refine BJ ?_;show wpAny _ _ (if(!t.led && !es.isEmpty)=true then _ else _) _ _ _;rw[BK<|by rw[T.led,f];simp];refine BL ?_;rw[Bm,O];have n:es[0]?=some e:=by
   rwa[<-Bw,<-d]
  have q:t.place[0]?=some j:=by rw[G];rfl
  rw[n,q];refine BL ?_
  dsimp only
  refine BJ (DX b rfl (by simp) ?_);refine BJ (DX (vH _ b) rfl (by simp) ?_);refine BL ⟨_,rfl,BL<|k _ _ (B _) (ze<|vH _ b)<|.one (j+1) f N d ?_⟩;rw[G,Ri,BP<|Fd _]
theorem EO{Q:Option Value->Shared->Prop}(q:A.handled=none)(d:s.heap.get? it=some (lW first i a es.size ep))(j:s.heap.get? a=some o)(hd:o.data=.set es ep t)(T:ln U w es t zs)(r:Way w s.heap a tp es ep t ws i first)
  (u:ws.Perm es.toList) (D:i=es.size) (k:∀h',Heap.ExtBut it s.heap h'->Q none {s with heap:=h'}):
  bc U w A (pyNext<|.ref it) Q E s:=by
 have p:s.TypeIs (.ref it) "set_iterator":=⟨_,d,rfl⟩;have G:ws.length=es.size:=by simpa using u.length_eq
 unfold pyNext;refine BJ<|JQ<|JM (name:=Str.ofString "__next__") p ij<|DQ ij p qr ?_<|args_next _;unfold Builtin.«set_iterator.__next__»;refine BJ<|BL<|BJ<|QM d rfl ?_
 dsimp only
 refine BJ<|KN j hd T.fits ?_;rw[BK<|by simp];have fin:∀ l:Heap,Heap.SameBut it s.heap l->wpAny (model U w) A.in1 (newExc (Value.type "StopIteration") [] >>= λx=>(raiseNew x:Sem Fin)) (λfin m=>∃v,fin=Fin.done (Flow.ret v)/\bc U w A (pure<|some v) Q E m)
   (λe m=>bc U w A (isInstance e (Value.type "StopIteration") >>= λb=>if b=true then pure none else throw e) Q E m) {s with heap:=l}:=by
  intro l y;refine BJ ?_;simp only[newExc,newTuple];refine BJ (CZ ?_<|by size_fits);refine BJ (JG (by first|rfl|(simp only[firstArgMember];rfl)) ?_);refine CZ ?_ (by size_fits);simp only[raiseNew];refine BJ<|wpAny_handled ?_;rw[show A.in1.handled=none from q];refine BJ<|BL<|wpAny_throw ?_;refine BJ<|KH ⟨_,Ao _ rfl,rfl⟩ isSubtype_stop ?_;exact BL<|k _<|(y.extBut.push _).push _
 cases r with
 |drawn z B H n=>
  dsimp only
  refine BJ<|wpAny_seqItems B rfl ?_
  dsimp only
  have f:(z.map λ(i:Nat)=>rawInt i).toArray[(i:Int).toNat]?=none:=by
   rw[Bm,VH,Bd];rw[Aa];omega
  rw[f]
  dsimp only
  refine BJ (DX d rfl (by simp) ?_);refine BJ (DX (vH _ d) rfl (by simp) ?_);exact fin _<|(CQ ..).trans<|CQ ..
 |text c h n=>
  dsimp only
  unfold setNext;refine BJ<|BJ<|CN j hd T.fits ?_
  dsimp only
  refine BJ<|wp_text ?_;rw[h];simp only[DP];rw[BK<|by simp];unfold setWalk;refine BJ<|BJ<|CN j hd T.fits ?_
  dsimp only
  refine BJ<|wp_text ?_;rw[h];simp only[DP];refine BJ<|KD ?_;refine BL ?_;have f:(pickOrder ((model U w).w.params.setOrder a ep) es)[(i:Int).toNat]?=none:=by
   rw[Bm,<-Bw];show(pickOrder (w.params.setOrder a ep) es).toList[i]?=_;rw[<-n,Bd];omega
  rw[f];refine BL ?_
  dsimp only[Option.map]
  refine BJ (DX d rfl (by simp) ?_);exact fin _<|CQ ..
 |one c h I n C=>
  dsimp only
  unfold setNext;refine BJ<|BJ<|CN j hd T.fits ?_
  dsimp only
  refine BJ<|wp_text ?_;rw[h];simp only[Bb,CV];show wpAny _ _ (if(!t.plain && decide (es.size>1))=true then _ else _) _ _ _;rw[BK<|by rw[BR<|(by omega)];simp];refine BJ ?_;show wpAny _ _ (if(!t.led && !es.isEmpty)=true then _ else _) _ _ _;rw[BK<|by rw[T.led,h];simp];refine BL ?_;rw[Bm,C];have f:es[i]?=none:=El (by omega);rw[f];refine BL ?_
  dsimp only
  refine BJ (DX d rfl (by simp) ?_);exact fin _<|CQ ..
open PySem.Spec
def Ro:Slot "set_iterator" "__iter__" "set_iterator.__iter__":=
 .of (owner:= "set_iterator") (n:= "__iter__") (by rw[UL,PJ];kernel_rfl) (by decide +kernel) (by decide +kernel) (by decide +kernel)
  (by first|exact .inl (by decide +kernel)|exact .inr<|by decide +kernel) (by rw[isSubtype_type];kernel_rfl)
def Po:entryFor table "set_iterator.__iter__" = some Builtin.«dict_keyiterator.__iter__»:=
 QL (id':= "dict_keyiterator.__iter__") (by kernel_rfl) rfl (by decide +kernel) (by kernel_rfl)
def k6j(a:Value):argsOk "set_iterator.__iter__" ⟨[a],[]⟩:=by unfold argsOk;kernel_rfl
theorem TM(hh:A.handled=none)(h1:a≠it)(h2:tp≠it)(hd:o.data=.set es ep t)(T:ln U w es t zs)(hp:ws.Perm es.toList):
  Walks U w A it [it,a,tp] [it] es.size (λi v=>∃e,ws[i]?=some e/\v=e.2) (λi h=>∃first,h.get? it=some (lW first i a es.size ep)/\h.get? a=some o/\Way w h a tp es ep t ws i first) where
 sub:=λb hb=>by simp at hb;simp[hb]
 frame:=λi h h'⟨first,q1,q2,q3⟩k=>⟨first,k it (by simp) _ q1,k a (by simp) _ q2,q3.keep<|k tp<|by simp⟩
 item:=λi s Q E hi⟨first,q1,q2,q3⟩k=>by
  have wl:ws.length=es.size:=by simpa using hp.length_eq
  obtain⟨e,he⟩:∃e,ws[i]?=some e:=⟨ws[i]'(by omega),Ab _⟩;refine xq q1 q2 hd T q3 h2 hp he λh' f' sb g1 g2=>?_;exact k _ h' s.toks ⟨e,he,rfl⟩ ⟨f',g1,by rwa[sb.2 a h1],g2⟩ λb o hb e=>by rwa[sb.2 b λh=>hb<|by simp[h]]
 done:=λs Q E⟨first,q1,q2,q3⟩k=>EO hh q1 q2 hd T q3 hp rfl λh' e=>k h' s.toks λb o hb e2=>e b o (λh=>hb<|by simp[h]) e2
 self:=λi s Q E⟨first,q1,q2,q3⟩k=>by
  have hT:s.TypeIs (.ref it) "set_iterator":=⟨_,q1,rfl⟩;refine MP hT Ro<|DQ Ro hT Po ?_<|k6j _;show wpAny _ _ (ret<|.ref it) _ _ s;exact BL ⟨_,rfl,"set_iterator",_,hT,ij.lookup,k⟩
def GV(es:Array<|Int×Value):(range es.size).map (λy=>(es[y]?).getD (0,Value.none))=es.toList:=by
 refine SJ (by simp) λj b a=>?_;rw[Dy,Ff];have:j<es.size:=by simpa using a
 rw[Ds this];simp
theorem q62(i:s.heap.get? a=some o)(z:o.ExactSet)(hd:o.data=.set es ep t)(T:ln U w es t zs)
  (k:∀h' d it tp ws first,(∀b u,s.heap.get? b=some u->h'.get? b=some u)->s.heap.objs.size<=it->it<h'.objs.size->tp<h'.objs.size->(tp=a\/s.heap.objs.size<=tp)->tp≠it->h'.get? it=some (lW first 0 a es.size ep)->Way w h' a tp es ep t ws 0 first->ws.Perm es.toList->Q (.ref it) {s with heap:=h',drawn:=d}):
  bc U w A (pyIter<|.ref a) Q E s:=by
 have m:s.TypeIs (.ref a) "set":=⟨o,i,z.1⟩;have n:a<s.heap.objs.size:=Ap i;refine MP m F.slot_set_iter<|DQ F.slot_set_iter m IN ?_<|F.args_set_iter_1 _;unfold Builtin.«frozenset.__iter__» slot0 slotArgs;simp only[Gk,Eb,Bb,↓reduceIte,bind_assoc,Eu,FZ];unfold addrOf Builtin.Frozenset.sizeOf;refine BJ<|BL<|BJ<|BL ?_;refine BJ<|BJ<|KN i hd T.fits<|BL ?_;unfold setDrawn;refine BJ<|BJ<|CN i hd T.fits ?_
 dsimp only
 refine BJ<|wp_text<|BL ?_
 by_cases c:(!cR w && (!t.plain && decide (es.size>1)))=true
 ·show wpAny _ _ (if(!cR w && (!t.plain && decide (es.size>1)))=true then _ else _) _ _ _;rw[BP c];refine BJ (Ht _ _ _ _ (by simp) λf d p=>?_);have r:f.length=es.size:=by simpa using p.length_eq
  refine BJ (QS ?_<|by rw[Aa,r];exact ko<|Bt T.fS);have B:(s.heap.push<|fV f).get? a=some o:=Ae _ i;refine BJ<|MN B hd T.fits ?_;refine BJ<|CZ<|BL ⟨_,rfl,"set_iterator",_,⟨_,Ao _ rfl,rfl⟩,ij.lookup,?_⟩;have C:(s.heap.push<|fV f).objs.size=s.heap.objs.size+1:=Dh ..;refine k _ d _ s.heap.objs.size (f.map λy=>(es[y]?).getD (0,Value.none)) (.ref s.heap.objs.size) (λb u e=>Ae _<|Ae _ e) (by show s.heap.objs.size<=(s.heap.push<|fV f).objs.size;omega) ?_ ?_ (.inr<|Am _) ?_ (Ao _ rfl) ?_ ?_
  ·show(s.heap.push<|fV f).objs.size<((s.heap.push<|fV f).push _).objs.size;simp only[Dh];omega
  ·show s.heap.objs.size<((s.heap.push<|fV f).push _).objs.size;rw[Dh,C];omega
  ·show s.heap.objs.size≠(s.heap.push<|fV f).objs.size;omega
  ·refine .drawn f (Ae _<|Ao _ rfl) r λj y v=>?_;have D:y<es.size:=by
    have:=p.mem_iff.mp<|At v
    simpa using this
   rw[Ah,v];show _=some ((es[y]?).getD (0,Value.none));rw[Ds D];rfl
  ·have:=p.map λy=>(es[y]?).getD (0,Value.none);rwa[GV]at this
 ·show wpAny _ _ (if(!cR w && (!t.plain && decide (es.size>1)))=true then _ else _) _ _ _;rw[BK c];refine BJ<|BL ?_;refine BJ<|MN i hd T.fits ?_;refine BJ<|CZ<|BL ⟨_,rfl,"set_iterator",_,⟨_,Ao _ rfl,rfl⟩,ij.lookup,?_⟩;have x:=λws G H=>k (s.heap.push<|lW (.int 0 0) 0 a es.size ep) s.drawn s.heap.objs.size a ws (.int 0 0) (λb u e=>Ae _ e) (Am _) (by rw[Dh];exact Fd _) (by rw[Dh];exact Bt n) (.inl rfl) (Bi n) (Ao _ rfl) G H;cases l:cR w with
  |true=>exact x _ (.text 0 l rfl)<|Q8 _ _
  |false=>
   have I:es.size<=1:=by
    obtain q|q:=T.plain
    ·rw[q];simp
    ·rw[l,q]at c;simp at c;exact c
   refine x es.toList (.one 0 l I rfl ?_)<|List.Perm.refl _;have L:=Rk T
   obtain h|h:=Dr es.size 1
   ·have:t.place=#[]:=Array.eq_empty_of_size_eq_zero (by omega);rw[this];rfl
   ·obtain⟨j,J⟩:=Rj (p:=t.place) (by omega);rw[J,Ri,BK<|Eh _]
def CU:typeLookup (.type "set") "__len__" = pure (some<|.builtin "set.__len__"):=F.slot_set_len.lookup
def q7s{Q:Bool->Shared->Prop}(b:s.TypeIs (.ref a) "set")(k:Q false s):bc U w A (Builtin.List.listLengthHint<|.ref a) Q E s:=by
 unfold Builtin.List.listLengthHint;refine BJ<|UJ b CU ?_
 dsimp only
 have c:splitId "set.__len__" = some ("set","__len__"):=by kernel_rfl
 rw[c]
 dsimp only
 refine BJ<|KH b sub_set_self ?_;simp only[Eb,Bb,CV];rw[BP]
 ·exact BJ<|LK b<|BL k
 ·decide +kernel
def vo{Q:Ó->Shared->Prop}(hh:A.handled=none)(J:s.heap.get? a=some o)(z:o.ExactSet)(hd:o.data=.set es ep t)(T:ln U w es t zs)
  (k:∀s'(acc:List<|Int×Value),(∀b u,s.heap.get? b=some u->s'.heap.get? b=some u)->s'.gens=s.gens->s'.os=s.os->s.heap.objs.size<s'.heap.objs.size->acc.Perm es.toList->Q (acc.map (·.2)) s'):bc U w A (collect<|.ref a) Q E s:=by
 have B:a < s.heap.objs.size:=Ap J;unfold collect;refine BJ<|wpAny_runValue<|FQ F.entry_proto_collect ?_;rw[FN F.plain_proto_collect _];show wpAny _ A.in1 (newList [] >>= λl=>again<|.builtin "list.__iadd__" ⟨[l,.ref a],[]⟩) _ _ s;refine BJ<|KJ ?_;refine BL ⟨JN F.plain_list_iadd _,FQ F.entry_list_iadd ?_⟩;rw[FN F.plain_list_iadd _];generalize f:s.heap.objs.size=L;have C:(s.heap.push {cls:= .type "list",data:= .seq ([]:Ó).toArray}).get? a=some o:=Ae _ J;have D:(s.heap.push {cls:= .type "list",data:= .seq ([]:Ó).toArray}).get? L=some {cls:= .type "list",data:= .seq ([]:Ó).toArray}:=by rw[<-f];exact Ao _ rfl
 have hT:Shared.TypeIs {s with heap:=s.heap.push {cls:= .type "list",data:= .seq ([]:Ó).toArray}} (.ref a) "set":=⟨o,C,z.1⟩;show wpAny _ A.in1 (Builtin.List.listExtendWith (.ref L) (.ref a)<|.ref L) _ _ _;unfold Builtin.List.listExtendWith;refine BJ<|LK hT ?_;have n1:Builtin.List.listSameRef (.ref L) (.ref a)=false:=by
  have:L≠a:=by rw[<-f];exact Cw B
  simp[Builtin.List.listSameRef,this]
 have n2:(Value.type "set" == Value.type "list")=false:=(by decide)
 have n3:(Value.type "set" == Value.type "tuple")=false:=(by decide)
 simp only[n1,n2,n3,Bool.or_false,Bb,CV];refine BJ<|q62 C z hd T λn d it tp ws first G Ie Ö jP zD bA gi W p=>?_;have M:=G a o C;have N:=G L _ D;have x:(s.heap.push {cls:= .type "list",data:= .seq ([]:Ó).toArray}).objs.size=L+1:=by rw[Dh,f]
 refine BJ<|CJ<|q7s (a:=a) (s:={s with heap:=n,drawn:=d}) ⟨o,M,z.1⟩ ?_;show wpAny _ A.in1 (rule "list.extend.makes-room" >>= λ_=>Builtin.List.listTouch (.ref L) >>= λ_=>again<|.builtin "list.extend.loop" ⟨[.ref L,.ref it,.ref L],[]⟩) _ _ _;refine BJ<|GX ?_;refine BJ ?_;show wpAny _ A.in1 (updateSeq L (·.push .none) >>= λ_=>updateSeq L (·.pop)) _ _ _;refine BJ<|wpAny_updateSeq N rfl ?_;have O:=Da (Obj.mapSeq (·.push Value.none)) N rfl;refine wpAny_updateSeq O rfl ?_;have H:=Da (Obj.mapSeq (·.pop)) O rfl;have y:∀b u,b≠L->n.get? b=some u->((n.update L (Obj.mapSeq (·.push Value.none))).update L (Obj.mapSeq (·.pop))).get? b=some u:=
  λb u r e=>(Cb _ _<|CG r).trans<|(Cb _ _<|CG r).trans e
 have Y:it≠L:=by
  have i:L+1<=it:=by rwa[<-x]
  exact Cw i
 have Rq:a≠L:=by rw[<-f];exact Bi B
 have I:a≠it:=by
  have i:L+1<=it:=by rwa[<-x]
  intro e;rw[<-f,<-e]at i;exact absurd i<|Nat.not_le.mpr<|Bt B
 have Rr:tp≠L:=by
  obtain h|h:=zD
  ·rwa[h]
  ·have h':L+1<=tp:=by rwa[<-x]
   exact Cw h'
 have oO:L∉[it,a,tp]:=by
  intro h
  obtain h|h:=Al.mp h
  ·exact Y h.symm
  ·obtain h|h:=Al.mp h
   ·exact Rq h.symm
   ·exact Rr (Af.mp h).symm
 refine BL ⟨JN F.plain_extend_loop _,codeAny_extend_loopS ((TM (by simp[hh]) I bA hd T p).toS) (ko<|Bt T.fS) L oO (.ref L) es.size 0 _ _ _ rfl (Bu _) ⟨first,y it _ Y gi,y a _ Rq M,W.keep λu e=>y tp u Rr e⟩ H (ItemsOf.nil _) λs' acc c m Rt hI=>?_⟩;show wpAny _ A (load L >>= _) _ _ s';refine BJ<|wpAny_load Rt ?_;have wl:ws.length=es.size:=by simpa using p.length_eq
 have el:acc.toList=ws.map (·.2):=by
  refine Dv λj=>?_;rw[Bw,Ah];cases hj:acc[j]? with
  |none=>
   have:ws[j]?=none:=by
    rw[Bd];rw[wl,<-hI.1];exact Array.getElem?_eq_none_iff.mp hj
   rw[this];rfl
  |some v=>
   obtain⟨e,h1,n⟩:=hI.2 j v hj;rw[h1,n];rfl
 refine BL ?_;rw[el];refine k s' ws (λb u e=>?_) m.gens m.os (by rw[f];exact Ap Rt) p;have r:b<s.heap.objs.size:=Ap e;have Ru:b≠L:=by rw[<-f];exact Bi r
 have Ia:b≠it:=by
  intro q;have i:L+1<=it:=by rwa[<-x]
  rw[<-f,<-q]at i;exact absurd i<|Nat.not_le.mpr<|Bt r
 refine m.heap b u (λh=>?_)<|y b u Ru<|G b u<|Ae _ e
 obtain h|h:=Al.mp h
 ·exact Ru h
 ·exact Ia<|Af.mp h
end
end bK
namespace bK
open PySem PySem.Spec PyProof.Rows
def WE(a b:List Nat):ltCps a b=decide (a<b):=ltCps_eq a b
theorem eQ:∀l p,risingS p l=true->∀x∈l,p.cps.toList<=x.cps.toList
 |[],_,_,x,a=>by cases a
 |y :: r,p,h,x,a=>by
  unfold risingS at h;rw[Bq,RM,WE,JL]at h;have b:=h.1
  obtain rfl|a:=Al.mp a
  ·exact b
  ·exact List.le_trans b<|eQ r y h.2 x a
theorem fz{p:Str}:∀{l},risingS p l=true->sortedS l=true
 |[],_=>rfl
 |y :: r,h=>by
  unfold risingS at h;rw[Bq]at h;exact h.2
def fX{a b:Str}(h:a.cps.toList=b.cps.toList):a=b:=by
 cases a;cases b;simp only at h;have:=Array.toList_inj.mp h;rw[this]
theorem Rv{U:Program}{w:World}:∀(l:List<|Int×Value),(∀e∈l,oQ U w e)->StrsAre (l.map (·.2)) (l.map gh)
 |[],_=> .nil
 |e :: r,h=>by
  obtain⟨z,t,rfl⟩:=h e Ag;exact .cons z t<|Rv r λx a=>h x<|Ak _ a
variable{zs:Ñ}{E Q:Î}{U:Program}
section
variable{w:World}{A:Around}{s:Shared}{a:Addr}
theorem LP(z:A.handled=none)(S:aA U w s.heap a zs)(Y:zs.length<64)
  (k:∀s' l f e ss,(∀ b u,s.heap.get? b=some u->s'.heap.get? b=some u)->s'.gens=s.gens->s'.os=s.os->s.heap.objs.size<=l->s'.heap.get? l=some (seqObj "list" f e)->StrsAre f.toList ss->ss.Perm zs->sortedS ss=true->Q (.ref l) s'):
  bc U w A (call (.builtin "sorted") [.ref a]) Q E s:=by
 obtain⟨o,es,ep,t,B,C,hd,T⟩:=S;refine Calls.call_function_entry kind_sorted plain_sorted entry_sorted (args_sorted1 _) ?_;unfold Builtin.«sorted»;refine BJ (m:=checkCount "sorted" 1 1 _)<|BL ?_;refine BJ (vo (by simp[z]) B C hd T λh c D g1 G H p=>?_);have q:=Rv (U:=U) (w:=w) c λe i=>T.elts e<|p.mem_iff.mp i;have d:(c.map (·.2)).length=zs.length:=by
  rw[Aa,p.length_eq,Bv,T.size]
 refine BJ (KJ ?_<|by rw[d];exact ko<|(by omega));have j:(h.heap.push (seqObj "list" (c.map (·.2)).toArray 0)).get? h.heap.objs.size=some (seqObj "list" (c.map (·.2)).toArray 0):=Ao _ rfl;have n:=Bz H;refine BJ (CJ<|DQ slot_list_sort ⟨_,j,rfl⟩ entry_list_sort (list_sort_treeK strKind_oneLt j q.keysOf (λr Í v e=>keyKind_strs<|by rwa[<-e]) (by rwa[d]) λdz I J=>⟨_,rfl,?_⟩)<|args_list_sort _);obtain⟨ss,L,M,N⟩:=sorted_out_str q I J;obtain⟨e,i⟩:=sortedHeap_at j;refine BL ⟨_,rfl,k _ _ _ e ss (λb u O=>?_) g1 G n i L (M.trans<|(p.map gh).trans T.keys) N⟩;have x:=D b u O;have y:=Ap x;show(sortedHeap (h.heap.push _) h.heap.objs.size _ _).get? b=some u;rw[sortedHeap_old (Bi y)<|by rw[size_push'];exact Bt y];exact Ae _ x
end
end bK
namespace L2
open PySem PySem.Spec PyProof.Rows bK
def bj(U:Program)(w:World)(a:Addr)(zs:Ñ):HO:= .ext λh=>aA U w h a zs
variable{zs:Ñ}{O:Ð}
section
variable{X:Cx}{σ:St}{H:Hp}{s s':Shared}{a:Addr}
def be.like(I:be X O σ H s)(e1:s'.heap=s.heap)(e2:s'.gens=s.gens)(a:s'.os=s.os):be X O σ H s':=by
 obtain⟨h,g,d,t,o⟩:=s;obtain⟨b,c,e,f,i⟩:=s';simp only at e1 e2 a;subst e1 e2 a;exact⟨I.ok,I.os,I.bare,I.Z,I.loc,I.cell,I.free,I.bC,I.pin,I.aF,I.len⟩
def be.eR{o:HO}(I:be X O σ H s)(k:∀b u,s.heap.get? b=some u->s'.heap.get? b=some u)(e2:s'.gens=s.gens)(c:s'.os=s.os)(d:s.heap.objs.size<=a)(new:aB X.U X.w (upd H a o) s'.heap a o):be X O σ (upd H a o) s':=
 (I.laid (t':=s.toks) k d new).like rfl e2 c
def tF{h:Heap}(S:aA X.U X.w h a zs):aB X.U X.w H h a (bj X.U X.w a zs):=by
 refine⟨S,?_,λc d q k=>q.keep k⟩;obtain⟨o,_,_,_,b,_⟩:=S;exact⟨o,b⟩
def be.set(I:be X O σ H s)(h:H a=some (bj X.U X.w a zs)):aA X.U X.w s.heap a zs:=(I.aF a _ h).1
theorem Rw:∀{zs:Ñ}{a:Ó},az (zs.map V.str) a->∀(i:Nat)v,a[i]?=some v->∃z t,zs[i]?=some z/\v=Value.str z t
 |[],_,.nil,i,v,h=>by simp at h
 |z :: r,_,.cons q b,0,v,h=>by
  obtain⟨t,e⟩:=q;simp at h;exact⟨z,t,rfl,h ▸ e⟩
 |z :: r,_,.cons q b,i+1,v,h=>by
  simp only[Gb]at h ⊢;exact Rw b i v h
theorem Ig:∀{zs}{a},az (zs.map V.str) a->StrsAre a zs
 |[],_,.nil=> .nil
 |z :: r,_,.cons q b=>by
  obtain⟨t,rfl⟩:=q;exact .cons z t<|Ig b
theorem Ih:∀{a}{zs},StrsAre a zs->az (zs.map V.str) a
 |_,_,.nil=> .nil
 |_,_,.cons z t q=> .cons ⟨t,rfl⟩<|Ih q
theorem Rx(d:X.calm=true):fE X (.type "set") (λxs H Q=>∃p zs,xs=[.ref p]/\aj X.K H p (zs.map V.str)/\zs.length<900/\∀a,H a=none->Q (.ref a) (upd H a<|bj X.U X.w a<|made zs)):=by
 intro O s σ H xs o Q I r h;obtain⟨p,zs,rfl,e,t,q⟩:=h;obtain⟨u,rfl,f⟩:=kw r;cases (show u=Value.ref p from f);obtain⟨w,b,j,x⟩:=I.list e;have c:=b.length;rw[Aa]at c;refine v8 (I.ok.hd d) j.isList (λi v k=>Rw b i v<|by simpa using k) (by simpa using c) (by simp;omega) λl m n S=>?_;exact⟨.ref _,_,I.eR (s':={s with heap:=l,toks:=m}) n rfl rfl (Am _) (tF S),rfl,q _<|I.aF.fresh<|Am _⟩
def pB:cG X (binaryOp .BitXor) (λx y H Q=>∃ a b i e,x = .ref a/\y = .ref b/\H a=some (bj X.U X.w a i)/\H b=some (bj X.U X.w b e)/\i.length < 64/\e.length < 64 /\
  ∀c f,H c=none->f.Nodup->(∀y,y∈f↔(if y∈i then y∉e else y∈e))->Q (.ref c) (upd H c<|bj X.U X.w c f)):=by
 intro O s σ H x y v u Q I j k h;obtain⟨a,b,i,e,rfl,rfl,l,n,o,p,q⟩:=h;cases j;cases k;refine Rl (I.set l) (I.set n) o p λt d f r S m=>?_;exact⟨.ref _,_,I.eR r rfl rfl (Am _) (tF S),rfl,q _ f (I.aF.fresh<|Am _) S.nodup m⟩
theorem Ry(f:X.calm=true):fE X (.builtin "sorted") (λxs H Q=>∃p zs,xs=[.ref p]/\H p=some (bj X.U X.w p zs)/\zs.length<64/\∀l ss,H l=none->ss.Perm zs->sortedS ss=true->Q (.ref l) (upd H l<|.lst<|ss.map V.str)):=by
 intro O s σ H xs x Q I r h;obtain⟨p,zs,rfl,i,j,q⟩:=h;obtain⟨u,rfl,k⟩:=kw r;cases (show u=Value.ref p from k);refine LP (I.ok.hd f) (I.set i) j λs' l a e ss m n o b t v c w=>?_;have d:ss.length<=sizeLine:=by rw[c.length_eq];exact ko<|(by omega)
 refine⟨.ref _,_,I.eR m n o b (show aB X.U X.w _ s'.heap l (.lst<|ss.map V.str) from⟨by rwa[Aa],a.toList,e,Ih v,t⟩),rfl,q _ ss (I.aF.fresh b) c w⟩
theorem vM:fE X (.builtin "sorted") (λxs H Q=>∃p zs,xs=[.ref p]/\aj X.K H p (zs.map V.str)/\zs.length<64/\∀l ss,H l=none->ss.Perm zs->sortedS ss=true->Q (.ref l) (upd H l<|.lst<|ss.map V.str)):=by
 intro O s σ H xs x Q I r h;obtain⟨p,zs,rfl,i,y,q⟩:=h;obtain⟨u,rfl,j⟩:=kw r;cases (show u=Value.ref p from j);obtain⟨k,c,m,z⟩:=I.list i;have n:=c.length;rw[Aa]at n;refine PyProof.Rows.sorted_strs m.isList (Ig c) (by omega) λa ss o d t=>?_;obtain⟨e,v⟩:=sortedAll_at s.heap k a;have f:ss.length<=sizeLine:=by rw[d.length_eq];exact ko<|(by omega)
 refine⟨.ref _,_,I.eR (λb u w=>RK w) rfl rfl (Ef _) (show aB X.U X.w _ _ _ (.lst<|ss.map V.str) from⟨by rwa[Aa],a.toList,e,Ih o,v⟩),rfl,q _ ss (I.aF.fresh<|Ef _) d t⟩
end
end L2
namespace L2
open PySem PySem.Spec PyProof.Rows
variable{Q:VK}{H:Hp}{σ:St}{X:Cx}
section
variable{o e:Expr}{ap cp:Pos}
def jQ(h:Ev X o σ H λx b=>∃l,x=.ref l/\(∃xs,b l=some (.lst xs))/\Ev X e σ b λy c=>∃xs,c l=some (.lst xs)/\xs.length<sizeLine/\Q .non (upd c l<|.lst<|xs++[y]))
  (d:attributeBase o "append" X.env (eval o X.env)=eval o X.env:=by rfl)
  (f:((backTo cp<|starEach [e] X.env).all (λx=>!x.1) && (backToKw cp<|keywordEach [] X.env).all (λx=>x.1.isSome) && decide ([e].length+([]:List Keyword).length+(if([]:List Keyword).isEmpty then 0 else 1)<30))=true:=by rfl)
  (a:(ap.endLine == cp.line)=true:=by rfl) (i:starEach [e] X.env=(false,eval e X.env):: starEach [] X.env:=by rfl) (j:(backTo cp<|starEach [] X.env).any (·.1)=false:=by rfl) (k:gf e=false:=by rfl):
  Ev X (.Call (.Attribute o "append" ap) [e] [] cp) σ H Q:=by
 refine c8 (E7 DW PySem.F.slot_list_append PySem.F.type_list_append Qa bd (gL) d f a i j)<|h.mono λx b⟨l,m,⟨xs,n⟩,p⟩=>?_;subst m;refine⟨.inl ⟨rfl,xs,aj.of n⟩,?_⟩;exact ai (p.mono λy c⟨r,s,t,q⟩=>ax ⟨l,r,y,rfl,rfl,s,t,q⟩) k
end
variable{D:mi}{mM:Õ}
section
variable{c:Expr}{body rest:Õ}{pos:Pos}
def ge.nx{M b:St->Hp->Prop}{l:Õ}(h:ge X l {D with nx:=M} σ H)(f:∀a H',M a H'->b a H'):ge X l {D with nx:=b} σ H:=
 ⟨λO s I => aN (h.run O s I) λc e q => by
  cases c with
  |next=>
   obtain⟨a,H',d,m⟩:=q;exact⟨a,H',d,f a H' m⟩
  |_=>exact q⟩
def Ii(b ψ:Prop)(M:St->Hp->Prop)(e:∀T:Bool->Hp->Prop,(∀k:Bool,(k=true->b)->(k=false->ψ)->T k H)->Et X c σ H T)(f:b->ge X body {D with nx:=M} σ H)(h:ψ->ge X mM {D with nx:=M} σ H)
  (d:∀a H',M a H'->ge X rest D a H'):ge X (.If c body mM pos :: rest) D σ H:=
 vq b ψ e (λp=>(f p).nx d) (λp=>(h p).nx d)
end
def jR(X:Cx)(H:Hp)(k:Nat)(x y:V)(b:Bool):Prop:=∀O σ s A u v,be X O σ H s->A.units+k<cLine->fg x u->fg y v->SeqAt.EqAt A s u v b
def lX(X:Cx)(H:Hp)(k:Nat)(x y:V)(b:Bool):Prop:=∀O σ s A u v,be X O σ H s->A.units+k<cLine->fg x u->fg y v->SeqAt.RcAt A s u v b
def oU(X:Cx)(H:Hp)(k:Nat)(x y:V)(b:Bool):Prop:=∀O σ s A u v,be X O σ H s->A.units+k<cLine->fg x u->fg y v->SeqAt.RcNeAt A s u v (!b)
variable{us:Ó}
section
variable{k:Nat}{a b:Addr}{xs ys:List V}
def qv{x y:V}(a:jK x=true)(b:jK y=true):jR X H k x y (cC x y):=λ_ _ _ _ _ _ _ _ c d=>P6 c d a b
def AD:jR X H k (.ref a) (.ref a) true:=λ_ _ _ _ u v _ _ b c=>by
 cases b;cases c;exact SeqAt.EqAt.same _
def CL(d:a≠b){c:Bool}(h:lX X H k (.ref a) (.ref b) c):jR X H k (.ref a) (.ref b) c:=λO σ s A u v I e f i=>by
 cases f;cases i;exact SeqAt.EqAt.of_refs d<|h O σ s A _ _ I e rfl rfl
theorem oV(r:az xs us){j:Nat}(h:j<us.length):∃x,xs[j]?=some x/\fg x us[j]:=by
 have b:=r.length;have a:j<xs.length:=(by omega)
 obtain⟨u,e,q⟩:=r.get<|Ab a;rw[Ab h]at e;cases e;exact⟨_,Ab a,q⟩
theorem Ij(e:Nat->Bool)(f:aj X.K H a xs)(h:aj X.K H b ys)(D:xs.length=ys.length)(i:∀j x y,xs[j]?=some x->ys[j]?=some y->jR X H k x y (e j)):lX X H (k+1) (.ref a) (.ref b) ((range xs.length).all e):=λO σ s A u v I E l m=>by
 cases l;cases m;obtain⟨G,c,n,_⟩:=I.list f;obtain⟨J,d,o,_⟩:=I.list h;have p:=c.length;have L:=d.length;have q:=SeqAt.RcAt.lists (A:=A) (e:=e) n.isList o.isList (by simp;omega) (by omega) λj r t=>by
  obtain⟨x,w,z⟩:=oV c (j:=j) (by simpa using r);obtain⟨y,B,C⟩:=oV d (j:=j) (by simpa using t);exact i j x y w B O σ s A.in1 _ _ I (by show A.units+1+k<cLine;omega) (by simpa using z)<|by simpa using C
 rwa[Aw,<-p]at q
theorem zE(e:Nat->Bool)(f:aj X.K H a xs)(h:aj X.K H b ys)(D:xs.length=ys.length)(i:∀j x y,xs[j]?=some x->ys[j]?=some y->jR X H k x y (e j)):oU X H (k+1) (.ref a) (.ref b) ((range xs.length).all e):=λO σ s A u v I E l m=>by
 cases l;cases m;obtain⟨G,c,n,_⟩:=I.list f;obtain⟨J,d,o,_⟩:=I.list h;have p:=c.length;have L:=d.length;have q:=SeqAt.RcNeAt.lists (A:=A) (e:=e) n.isList o.isList (by simp;omega) (by omega) λj r t=>by
  obtain⟨x,w,z⟩:=oV c (j:=j) (by simpa using r);obtain⟨y,B,C⟩:=oV d (j:=j) (by simpa using t);exact i j x y w B O σ s A.in1 _ _ I (by show A.units+1+k<cLine;omega) (by simpa using z)<|by simpa using C
 rwa[Aw,<-p]at q
theorem zk(c:aj X.K H a xs)(d:aj X.K H b ys)(m:xs.length≠ys.length):lX X H k (.ref a) (.ref b) false:=λO σ s A u v I n e f=>by
 cases e;cases f;obtain⟨o,h,i,_⟩:=I.list c;obtain⟨p,j,l,_⟩:=I.list d;have q:=h.length;have r:=j.length;exact SeqAt.RcAt.lists_lengths i.isList l.isList (by simp;omega)<|(by omega)
theorem RA(c:aj X.K H a xs)(d:aj X.K H b ys)(m:xs.length≠ys.length):oU X H k (.ref a) (.ref b) false:=λO σ s A u v I n e f=>by
 cases e;cases f;obtain⟨o,h,i,_⟩:=I.list c;obtain⟨p,j,l,_⟩:=I.list d;have q:=h.length;have r:=j.length;exact SeqAt.RcNeAt.lists_lengths i.isList l.isList (by simp;omega)<|(by omega)
theorem RC(e:Nat->Bool)(h:aS X.K H a xs)(i:aS X.K H b ys)(c:xs.length=ys.length)(l:∀j x y,xs[j]?=some x->ys[j]?=some y->jR X H k x y (e j)):lX X H (k+1) (.ref a) (.ref b) ((range xs.length).all e):=λO σ s A u v I G m n=>by
 cases m;cases n;obtain⟨J,d,o,_⟩:=I.tuple h;obtain⟨L,f,p,_⟩:=I.tuple i;have r:=d.length;have t:=f.length;have q:=SeqAt.RcAt.tuples (A:=A) o p (by omega) λj w z=>by
  obtain⟨x,B,C⟩:=oV d (j:=j) (by simpa using w);obtain⟨y,D,E⟩:=oV f (j:=j) (by simpa using z);exact l j x y B D O σ s A.in1 _ _ I (by show A.units+1+k<cLine;omega) (by simpa using C)<|by simpa using E
 rw[Aw,Aw,<-r,<-t,c,Nat.min_self,<-c]at q
 simpa using q
def vN(n:Nat):(range n).all (λ_=>true)=true:=by simp
theorem vO(e:X.A.units+100<cLine):cG X (compareOp .Eq) (λx y H Q=>∃k c,k<=100/\lX X H k x y c/\Q (.bl c) H):=by
 intro O s σ H x y v u Q I a b h;obtain⟨k,c,f,d,q⟩:=h;exact d O σ s X.A v u I (by omega) a b X.U X.w X.xe _ ⟨.bl c,H,I,rfl,q⟩
theorem qw(e:X.A.units+100<cLine):cG X (compareOp .NotEq) (λx y H Q=>∃k c,k<=100/\oU X H k x y c/\Q (.bl (!c)) H):=by
 intro O s σ H x y v u Q I a b h;obtain⟨k,c,f,d,q⟩:=h;exact d O σ s X.A v u I (by omega) a b X.U X.w X.xe _ ⟨.bl (!c),H,I,rfl,q⟩
theorem RE(e:Nat->Bool)(h:aS X.K H a xs)(i:aS X.K H b ys)(c:xs.length=ys.length)(l:∀j x y,xs[j]?=some x->ys[j]?=some y->jR X H k x y (e j)):oU X H (k+1) (.ref a) (.ref b) ((range xs.length).all e):=λO σ s A u v I G m n=>by
 cases m;cases n;obtain⟨J,d,o,_⟩:=I.tuple h;obtain⟨L,f,p,_⟩:=I.tuple i;have r:=d.length;have t:=f.length;have q:=SeqAt.RcNeAt.tuples (A:=A) o p (by omega) λj w z=>by
  obtain⟨x,B,C⟩:=oV d (j:=j) (by simpa using w);obtain⟨y,D,E⟩:=oV f (j:=j) (by simpa using z);exact l j x y B D O σ s A.in1 _ _ I (by show A.units+1+k<cLine;omega) (by simpa using C)<|by simpa using E
 rw[Aw,Aw,<-r,<-t,c,Nat.min_self,<-c]at q
 simpa using q
end
variable{T:Bool->Hp->Prop}{r:V->List V->Hp->VK->Prop}{name:Str}
section
variable{o e f c:Expr}{ap cp pos:Pos}{body rest:Õ}
def x15{Ty id:String}(c:PlainAttrs Ty)(slot:Slot Ty name id)(d:typeOf (.builtin id)=pure (.type "method_descriptor"))(e:uV X id r)
  (h:Ev X o σ H λx b=>mF X.K Ty x b/\r x [] b Q) (f:attributeBase o name X.env (eval o X.env)=eval o X.env:=by rfl) (a:(ap.endLine == cp.line)=true:=by rfl):Ev X (.Call (.Attribute o name ap) [] [] cp) σ H Q:=
 c8 (ZF c slot d e bd f a) h
def zF{Ty id:String}(d:PlainAttrs Ty)(slot:Slot Ty name id)(f:typeOf (.builtin id)=pure (.type "method_descriptor"))(i:uV X id r)
  (h:Ev X o σ H λx b=>mF X.K Ty x b/\Ev X e σ b λy c=>r x [y] c Q) (j:attributeBase o name X.env (eval o X.env)=eval o X.env:=by rfl)
  (k:((backTo cp<|starEach [e] X.env).all (λx=>!x.1) && (backToKw cp<|keywordEach [] X.env).all (λx=>x.1.isSome) && decide ([e].length+([]:List Keyword).length+(if([]:List Keyword).isEmpty then 0 else 1)<30))=true:=by rfl)
  (a:(ap.endLine == cp.line)=true:=by rfl) (l:starEach [e] X.env=(false,eval e X.env):: starEach [] X.env:=by rfl) (m:(backTo cp<|starEach [] X.env).any (·.1)=false:=by rfl) (n:gf e=false:=by rfl):Ev X (.Call (.Attribute o name ap) [e] [] cp) σ H Q:=
 c8 (E7 d slot f i bd (gL) j k a l m) (h.mono λx b⟨t,p⟩=>⟨t,ai (p.mono λy c q=>ax q) n⟩)
def zG{Ty id:String}(j:PlainAttrs Ty)(slot:Slot Ty name id)(k:typeOf (.builtin id)=pure (.type "method_descriptor"))(l:uV X id r)
  (h:Ev X o σ H λx b=>mF X.K Ty x b/\Ev X e σ b λy d=>Ev X f σ d λz i=>r x [y,z] i Q) (m:attributeBase o name X.env (eval o X.env)=eval o X.env:=by rfl)
  (n:((backTo cp<|starEach [e,f] X.env).all (λx=>!x.1) && (backToKw cp<|keywordEach [] X.env).all (λx=>x.1.isSome) && decide ([e,f].length+([]:List Keyword).length+(if([]:List Keyword).isEmpty then 0 else 1)<30))=true:=by rfl)
  (a:(ap.endLine == cp.line)=true:=by rfl) (p:starEach [e,f] X.env=(false,eval e X.env):: starEach [f] X.env:=by rfl) (s:(backTo cp<|starEach [f] X.env).any (·.1)=false:=by rfl) (u:gf e=false:=by rfl) (c:gf f=false:=by rfl):Ev X (.Call (.Attribute o name ap) [e,f] [] cp) σ H Q:=
 c8 (E7 j slot k l bd (gL) m n a p s) (h.mono λx b⟨t,v⟩=>⟨t,ai (v.mono λy d w=>ai (w.mono λz i q=>ax q) c) u⟩)
def insertAt(xs:List V)(i:Nat)(y:V):List V:=xs.take i++y :: xs.drop i
def fU:V->List V->Hp->VK->Prop:=λx b H Q=>∃l a i y,x=.ref l/\b=[.int i,y]/\H l=some (.lst a)/\0<=i/\i.toNat<=a.length/\a.length<sizeLine/\Q .non (upd H l<|.lst<|insertAt a i.toNat y)
theorem Sa{i:Int}(a:0<=i)(h:i<=16777216):¬(!Builtin.List.listFitsIndex i)=true:=by
 have e:Builtin.List.listFitsIndex i=true:=by
  unfold Builtin.List.listFitsIndex;rw[Bq,DN,DN];omega
 rw[e];exact Ax
theorem Ik:qd X "list.insert" fU:=by
 intro O s σ H x G v us Q I f j h;obtain⟨l,b,i,y,rfl,rfl,d,m,J,L,q⟩:=h;cases f;obtain⟨u,c,rfl,o,p⟩:=j.two;obtain⟨t,rfl⟩:=o;obtain⟨z,a,n,r,w,e⟩:=I.gH d;have M:sizeLine=16777216:=FJ;have A:a.toArray.size<=sizeLine:=by rwa[Aw,<-w]
 have B:=AutoSeq1.list_insert_list_int_val_1 l a.toArray n i t c (Sa m<|(by omega)) A;refine QB F.slot_list_insert ⟨_,e,rfl⟩ F.entry_list_insert (F.args_list_insert_3 _ _ _) B ⟨e,?_⟩;have C:(λb:Array Value=>have k:=if i<0 then(i+(b.size:Int)).toNat else min i.toNat b.size;(b.extract 0 k).push c++b.extract k) a.toArray=(a.take i.toNat++c :: a.drop i.toNat).toArray:=by
  have D:¬ i<0:=(by omega)
  have E:min i.toNat a.length=i.toNat:=(by omega)
  simp only[D,CV,Aw,E];apply Array.ext';simp;exact Ck<|by simp
 refine⟨.non,_,I.j7 d e C ((r.take i.toNat).append<|.cons p<|r.drop i.toNat) ?_,rfl,q⟩;rw[Ad,As,Bh,Dd];omega
def mX:V->List V->Hp->VK->Prop:=λx b H Q=>∃a Y k y,x=.ref a/\b=[kV k,y]/\H a=some (.dK Y)/\Y.length<sizeLine /\
 ((∃v,ao Y k=some v/\Q v H)\/(ao Y k=none/\Q y (upd H a<|.dK<|putK Y k y)))
theorem OP:qd X "dict.setdefault" mX:=by
 intro O s σ H x E v us Q I l m h;obtain⟨a,Y,k,y,rfl,rfl,d,G,q⟩:=h;cases l;obtain⟨u,n,rfl,o,e⟩:=m.two;obtain⟨z,hd,p,rel,f⟩:=vd I.aF d;have J:=rel.length;refine call_meetsIn F.slot_dict_setdefault f.typeIs F.entry_dict_setdefault (F.args_dict_setdefault_3 _ _ _) (kt_meets_setdefault (dM X.U X.w) a (oJ o) hd n) ⟨p,f,(by omega),λv r=>?_,λt w i A=>?_⟩
 ·have b:=rel.val k;rw[r]at b
  obtain⟨j,c,q⟩|⟨c,_⟩:=q
  ·rw[c]at b;exact⟨j,H,I.tok _,b,q⟩
  ·rw[c]at b;exact b.elim
 ·have b:=rel.val k;rw[t]at b
  obtain⟨j,c,_⟩|⟨c,q⟩:=q
  ·rw[c]at b;exact b.elim
  ·have B:∃q,w.get? a=some q:=let ⟨q,_,_,C,_⟩:=i;⟨q,C⟩
   have D:(putK Y k y).length<=sizeLine:=by have:=jn Y k y;omega
   exact⟨y,_,mK I (by rw[d];exact True.intro) A B<|FK D hd (rel.put k e) i,e,q⟩
def Il:fE X (.type "int") (λxs H Q=>∃b:Bool,xs=[.bl b]/\Q (.int (if b then 1 else 0)) H):=by
 intro O s σ H xs us Q I r h;obtain⟨b,rfl,q⟩:=h;obtain⟨u,rfl,a⟩:=kw r;cases (show u=Value.bool b from a);exact call_int_bool ⟨.int (if b then 1 else 0),H,I.tok _,⟨_,rfl⟩,q⟩
def RF(d:Bool->Hp->Prop)(M:St->Hp->Prop)(f:Et X c σ H d)(h:∀a,d true a->ge X body {D with nx:=M} σ a)(i:∀a,d false a->ge X mM {D with nx:=M} σ a)
  (e:∀b H',M b H'->ge X rest D b H'):ge X (.If c body mM pos :: rest) D σ H:=
 fP (f.mono λk a p=>by
  cases k with
  |true=>rw[BP rfl];exact(h a p).nx e
  |false=>rw[BK Ax];exact(i a p).nx e)
theorem vP(W:Nat->St->Hp->Prop){m0:Nat}(i:W m0 σ H)
  (turn:∀m σ H,W m σ H->Et X c σ H λb e=>if b=true then ge X body {D with nx:=λa H'=>∃d,d<m/\W d a H',ct:=λa H'=>∃d,d<m/\W d a H',bk:=λa H'=>ge X rest D a H'} σ e else ge X rest D σ e)
  (j:PassesOwn (model X.U X.w) X.A X.env X.xe:=by exact KQ):ge X (.While c body [] pos :: rest) D σ H:=by
 refine jL (YG j mO oK) ⟨W,⟨m0,i⟩,λm f e k=>(turn m f e k).mono λb l q=>?_⟩;cases b with
 |true=>
  rw[BP rfl]at q;exact⟨λa H'=>∃d,d<m/\W d a H',λ_ _ h=>h,q⟩
 |false=>
  rwa[BK Ax]at q
def Im(h:∀p,H p=none->Q (.ref p) (upd H p<|.dK [])):Ev X (.Dict [] [] pos) σ H Q:=c8 Nl h
def q3p(h:∀p,H p=none->Q (.ref p) (upd H p<|.dT [])):Ev X (.Dict [] [] pos) σ H Q:=c8 ee h
def eU(c:X.A.units+1<cLine)(h:Ev X o σ H λx d=>Ev X e σ d λy b=>∃a v,x=.ref a/\aX b a y (some v)/\Q v b)(f:qe e:=by intro _ _;rfl):Ev X (.Subscript o e pos) σ H Q:=c8 (Z9 c bd bd f) h
def zH(d:X.A.units+1<cLine)(h:Ev X e σ H λy c=>Ev X o σ c λx b=>∃a r,x=.ref a/\aX b a y r/\T r.isSome b)(f:behindInMarks .In o=false:=by with_unfolding_all rfl):Et X (.Compare e [.In] [o] pos) σ H T:=
 sV (O' (Z' d bd bd) f) (h.mono λy c i=>i.mono λx b⟨a,r,j,k,l⟩=>⟨a,r,j,k,_,rfl,l⟩)
def Io(d:X.A.units+1<cLine)(h:Ev X e σ H λy c=>Ev X o σ c λx b=>∃a r,x=.ref a/\aX b a y r/\T (!r.isSome) b)(f:behindInMarks .NotIn o=false:=by with_unfolding_all rfl):Et X (.Compare e [.NotIn] [o] pos) σ H T:=
 sV (O' (S4 d bd bd) f) (h.mono λy c i=>i.mono λx b⟨a,r,j,k,l⟩=>⟨a,r,j,k,_,rfl,l⟩)
def tG{b:Pos}(d:X.A.units+1<cLine)(h:Ev X f σ H λv i=>Ev X o σ i λx j=>Ev X e σ j λy k=>∃a c,x=.ref a/\bX k a y v c/\ge X rest D σ c)(l:swapsWith f (some<|.Subscript o e b) pos.line X.env=pure false:=by rfl):
  ge X (.Assign [.Subscript o e b] f pos :: rest) D σ H:=jL (Jl d bd bd bd l) h
end
end L2
namespace bD
open PySem PySem.Spec PyProof.Rows
def lexLt(a b:Int×Int):Bool:=if a.1=b.1 then decide (a.2<b.2)else decide (a.1<b.1)
def Jk(b:Bool)(x y:Value):keyLt' (tuples' b) x y=(do
  let xs <-Builtin.List.listItems x
  let ys <-Builtin.List.listItems y
  for ((p,q),i) in (xs.toList.zip ys.toList).zipIdx do
   if !(<-eqBool p q)then return <-oneLt' (b && i == 0) p q
  return xs.size<ys.size):=rfl
variable{E:Î}{U:Program}{Q:Bool->Shared->Prop}{p q:Int×Int}{x y:Addr}{P:Fin->Shared->Prop}
section
variable{w:World}{A:Around}{s:Shared}
def Pr(h:Heap)(a:Addr)(p:Int×Int):Prop:=∃o n t u,h.get? a=some o/\o.cls=.type "tuple"/\o.data=.seq #[.int p.1 t,.int p.2 u] n
def RH{a b:Int}{t u:Tok}(h:Q (decide (a=b)) s):bc U w A (eqBool (.int a t)<|.int b u) Q E s:=by
 refine SeqAt.EqAt.int_int a t b u U w E Q ?_;have e:(a == b)=decide (a=b):=rfl;rwa[e]
def q8z{a b:Int}{t u:Tok}(h:Q (decide (a<b)) s):bc U w A (oneLt' false (.int a t)<|.int b u) Q E s:=by
 rw[oneLt'_eq];simp only[Bb,CV];refine BJ ?_;show wpAny _ _ (compareOp .Lt (.int a t)<|.int b u) _ _ _;exact lt_int<|DY h
def q2n(d:Pr s.heap x p)(f:Pr s.heap y q)(h:Q (lexLt p q) s):bc U w A (keyLt' (tuples' true) (.ref x)<|.ref y) Q E s:=by
 obtain⟨o,r,i,j,k,t,l⟩:=d;obtain⟨u,v,ty,m,a,z,n⟩:=f;rw[Jk];refine BJ<|QF k l<|BJ<|QF a n ?_;show wpAny _ _ (forIn [((Value.int p.1 i,Value.int q.1 ty),0),((Value.int p.2 j,Value.int q.2 m),1)] _ _ >>= _) _ _ _;rw[Gs];refine BJ<|BJ ?_
 dsimp only
 refine BJ<|RH ?_
 by_cases c:p.1=q.1
 ·rw[BW c];simp only[Eb,Bb,CV];refine BL ?_
  dsimp only
  rw[Gs];refine BJ ?_
  dsimp only
  refine BJ<|RH ?_
  by_cases b:p.2=q.2
  ·rw[BW b];simp only[Eb,Bb,CV];refine BL ?_
   dsimp only
   rw[List.forIn_nil];refine BL<|BL ?_;have e:lexLt p q=false:=by unfold lexLt;rw[BP c,b];simp
   rw[e]at h
   simpa using h
  ·rw[BR b];simp only[Gx,DP];refine BJ<|q8z<|BL ?_
   dsimp only
   refine BL<|BL ?_;have e:lexLt p q=decide (p.2<q.2):=by unfold lexLt;rw[BP c]
   rwa[e]at h
 ·rw[BR c];simp only[Gx,DP];refine BJ<|oneLt_int<|BL ?_
  dsimp only
  refine BL<|BL ?_;have e:lexLt p q=decide (p.1<q.1):=by unfold lexLt;rw[BK c]
  rwa[e]at h
def Qq{x y:Value}:(#[x,y]:Array Value).size<=sizeLine+1:=by
 rw[FJ];show 2<=_;decide
def SS(v:Value):firstOfTuple' v=(do
  if(<-typeOf v) != .type "tuple" then return none
  return (<-Builtin.List.listItems v)[0]?):=rfl
def RO{Q:Option Value->Shared->Prop}(b:Pr s.heap x p)(h:∀t,Q (some<|.int p.1 t) s):bc U w A (firstOfTuple'<|.ref x) Q E s:=by
 obtain⟨c,i,d,j,a,e,f⟩:=b;rw[SS];refine BJ<|LK ⟨c,a,e⟩ ?_;rw[show(Value.type "tuple" != Value.type "tuple")=false by decide];simp only[Bb,CV];exact BJ<|QF a f<|BL<|h d
def q47{Q:SortKind->Shared->Prop}(a:Pr s.heap x p)(b:Pr s.heap y q)(h:Q (tuples' true) s):bc U w A (keyKind' #[.ref x,.ref y]) Q E s:=by
 rw[keyKind'_eq,show(#[.ref x,.ref y]:Array Value)=[.ref x,.ref y].toArray from rfl,List.mapM_toArray];refine BJ<|wpAny_map ?_;rw[List.mapM_cons];refine BJ<|RO a λt=>?_;rw[List.mapM_cons];refine BJ<|BJ<|RO b λu=>?_;rw[List.mapM_nil];refine BJ<|BL<|BL<|BL ?_;rw[BP<|by simp];refine BJ<|GX ?_;rw[oneTypeOnly'_eq];show wpAny _ _ ((Array.mapM typeOf [Value.int p.1 t,Value.int q.1 u].toArray >>= _) >>= _) _ _ _;rw[List.mapM_toArray];have c:[Value.int p.1 t,Value.int q.1 u].mapM typeOf=(pure [Value.type "int",Value.type "int"]:Sem _):=rfl;rw[c];refine BL ?_;have d:(if((#[Value.type "int",Value.type "int"]:Array Value).all λx=>x == (#[Value.type "int",Value.type "int"]:Array Value)[0])=true then some (#[Value.type "int",Value.type "int"]:Array Value)[0]else none)=some (Value.type "int"):=by
  rw[BP]
  ·rfl
  ·simp
 show Q (tuples'<|Option.any (λx=>x != Value.type "tuple") _) s;rwa[d]
def wp_at{st:SortSt}{i j:Nat}{Q:Option Bool->SortSt->Prop}(c:kindOf st=tuples' true)(d:(arrOf st)[i]?=some (.ref x,.ref x))(e:(arrOf st)[j]?=some (.ref y,.ref y))(f:Pr s.heap x p)(k:Pr s.heap y q)(h:Q (some<|lexLt p q) st):
  wpS (model U w) A E s (ltAt' i j) Q st:=by
 rw[ltAt'_eq];refine FT<|wpS_get ?_;show wpS _ _ _ _ (elem' (arrOf st) i >>= λa=>elem' (arrOf st) j >>= λb=>lt' a b) Q st;rw[elem'_eq,elem'_eq,d,e];refine FT<|JX<|FT<|JX ?_;rw[lt'_eq];refine FT<|wpS_get ?_;rw[c];refine FT<|wpS_lift<|JQ<|q2n f k ⟨rfl,?_⟩;exact JX h
def lY(x y:Addr)(p q:Int×Int):Array Keyed:=if lexLt q p then #[(.ref y,.ref y),(.ref x,.ref x)]else #[(.ref x,.ref x),(.ref y,.ref y)]
theorem Rb{Q:Option Nat->SortSt->Prop}(j:Pr s.heap x p)(k:Pr s.heap y q)
  (h:Q (some 2)<|SortSt.mk' (tuples' true) (lY x y p q) #[] 7 none):wpS (model U w) A E s (countRun' 0 2) Q (SortSt.mk' (tuples' true) #[(.ref x,.ref x),(.ref y,.ref y)] #[] 7 none):=by
 rw[countRun0_eq];refine FT ?_;unfold ascLoop;refine wpS_mono (QG (I:=λi c st=>st=SortSt.mk' (tuples' true) #[(.ref x,.ref x),(.ref y,.ref y)] #[] 7 none/\c=(none,i)/\(i=2->lexLt q p=false))
  (Q:=λc st=>st=SortSt.mk' (tuples' true) #[(.ref x,.ref x),(.ref y,.ref y)] #[] 7 none/\((c=(none,1)/\lexLt q p=true)\/(c=(none,2)/\lexLt q p=false))) ?_ ?_ ⟨rfl,rfl,λh=>by cases h⟩) ?_
 ·rintro i c st b d ⟨rfl,rfl,f⟩;have e:i=1:=(by omega)
  subst e;refine FT<|wp_at rfl rfl rfl k j ?_
  dsimp only
  cases a:lexLt q p with
  |true=>
   rw[BP rfl];exact JX ⟨rfl,.inl ⟨rfl,rfl⟩⟩
  |false=>
   rw[BK Ax];exact JX ⟨rfl,rfl,λ_=>rfl⟩
 ·rintro c st ⟨rfl,rfl,f⟩;exact⟨rfl,.inr ⟨rfl,f rfl⟩⟩
 ·rintro c st ⟨rfl,⟨rfl,a⟩|⟨rfl,a⟩⟩
  ·dsimp only
   rw[BK (by decide),BK<|(by decide)];unfold descPart;refine FT<|wpS_lift<|GX ⟨rfl,?_⟩;unfold descLoop;refine FT (wpS_mono (QG (I:=λi c st=>c=(none,2,0)/\st=SortSt.mk' (tuples' true) #[(.ref x,.ref x),(.ref y,.ref y)] #[] 7 none) (λi c st b d _=>(by omega)) (λc st h=>h) ⟨rfl,rfl⟩) ?_);rintro c st ⟨rfl,rfl⟩
   dsimp only
   rw[BK<|(by decide)];unfold tail3;refine FT<|wpS_reverse ?_;unfold ascLoop;refine FT (wpS_mono (QG (I:=λi c st=>c=(none,2)/\st=SortSt.mk' (tuples' true) #[(.ref y,.ref y),(.ref x,.ref x)] #[] 7 none) (λi c st b d _=>(by omega)) (λc st h=>h) ⟨rfl,rfl⟩) ?_);rintro c st ⟨rfl,rfl⟩
   dsimp only
   refine JX ?_;unfold lY at h;rwa[BP a]at h
  ·dsimp only
   rw[BP<|(by decide)];refine JX ?_;unfold lY at h;rwa[BK<|by rw[a];exact Ax]at h
def iP{Q:Unit->SortSt->Prop}(d:Pr s.heap x p)(e:Pr s.heap y q)(h:∀st,arrOf st=lY x y p q->failedOf st=none->Q () st):
  wpS (model U w) A E s sortRuns' Q (SortSt.mk' (tuples' true) #[(.ref x,.ref x),(.ref y,.ref y)] #[] 7 none):=by
 rw[sortRuns'_eq];refine FT<|wpS_get ?_
 dsimp only
 have a:minRun' 2 2 0=2:=by rw[minRun'_succ,BP<|(by decide)]
 show wpS _ _ _ _ ((forIn [0:2] _ _) >>= _) _ _;refine FT<|wpS_mono (QG (I:=λi c st=>(i=0/\c=(none,0)/\st=SortSt.mk' (tuples' true) #[(.ref x,.ref x),(.ref y,.ref y)] #[] 7 none)\/(1<=i/\c=(none,2)/\st=SortSt.mk' (tuples' true) (lY x y p q) #[(0,2,0)] 7 none))
  (Q:=λc st=>c=(none,2)/\st=SortSt.mk' (tuples' true) (lY x y p q) #[(0,2,0)] 7 none) ?_ ?_ (.inl ⟨rfl,rfl,rfl⟩)) ?_
 ·rintro i c st b l (⟨rfl,rfl,rfl⟩|⟨m,rfl,rfl⟩)
  ·dsimp only
   rw[BK<|by show ¬(0>=2);decide];refine FT ?_;show wpS _ _ _ _ (countRun' 0 2) _ _;refine Rb d e ?_
   dsimp only
   rw[BK<|by show ¬(2<minRun' 2 2 0);rw[a];decide];refine FT<|wpS_get ?_;show wpS _ _ _ _ (modify _ >>= _) _ _;exact FT<|wpS_modify<|JX<|.inr ⟨Am _,rfl,rfl⟩
  ·dsimp only
   rw[BP<|by show 2>=2;decide];exact JX ⟨rfl,rfl⟩
 ·rintro c st (⟨b,_,_⟩|⟨_,f,j⟩)
  ·exact absurd b<|(by decide)
  ·exact⟨f,j⟩
 ·rintro c st ⟨rfl,rfl⟩
  dsimp only
  refine FT<|wpS_mono (QG (I:=λ_ c st=>st=SortSt.mk' (tuples' true) (lY x y p q) #[(0,2,0)] 7 none/\c=(none,())) ?_ (λ_ _ k=>k) ⟨rfl,rfl⟩) ?_
  ·rintro i c st _ _ ⟨rfl,rfl⟩;refine FT<|wpS_get ?_;rw[BP<|by show 1<=1;decide];exact JX ⟨rfl,rfl⟩
  ·rintro c st ⟨rfl,rfl⟩;exact JX<|h _ rfl rfl
def mn{a:Addr}{n:Nat}(c:s.heap.get? a=some (seqObj "list" #[.ref x,.ref y] n))(d:a≠x)(f:a≠y)(C:Pr s.heap x p)(D:Pr s.heap y q)
  (h:P (.done<|.ret .none) {s with heap:=sortedHeap s.heap a [.ref x,.ref y] (if lexLt p q then #[.ref y,.ref x]else #[.ref x,.ref y])}):
  bc U w A (Builtin.«list.sort» ⟨[.ref a],[(Str.ofString "reverse",.bool true)]⟩) P E s:=by
 rw[list_sort_rev];refine BJ<|QF c rfl<|BJ<|OD c rfl ?_;obtain⟨i,j⟩:∃ i,(s.heap.update a<|Obj.mapSeq λ_=>#[]).get? a=some (seqObj "list" #[] i):=⟨_,get?_update_seq c λ_=>#[]⟩;refine BJ<|QV j rfl<|BJ<|QS ?_;refine BJ<|KJ<|CJ ?_;have k:(((s.heap.update a<|Obj.mapSeq λ_=>#[]).push<|seqObj "tuple" [Value.ref x,Value.ref y].toArray 0).push<|seqObj "list" #[] 0).get? a=some (seqObj "list" #[] i):=
  Ae _ (Ae _ j)
 show bc U w A _ P E {s with heap:=((s.heap.update a<|Obj.mapSeq λ_=>#[]).push<|seqObj "tuple" [Value.ref x,Value.ref y].toArray 0).push (seqObj "list" #[] 0)};have keep:∀ z r,a≠z->Pr s.heap z r->Pr (((s.heap.update a<|Obj.mapSeq λ_=>#[]).push<|seqObj "tuple" [Value.ref x,Value.ref y].toArray 0).push<|seqObj "list" #[] 0) z r:=by
  rintro z r G ⟨o,m,t,u,H,I⟩;exact⟨o,m,t,u,Ae _<|Ae _<|(Cb _ _ G).trans H,I⟩
 have l:=keep x p d C;have v:=keep y q f D
 dsimp only
 rw[BP rfl];refine BJ<|GX ?_;rw[BK<|by show ¬(2<2);decide];refine BJ<|q47 l v ?_;rw[BK<|by show ¬(2<2);decide];have J:(if true=true then((#[Value.ref x,Value.ref y]:Array Value).zip #[Value.ref x,Value.ref y]).reverse else(#[Value.ref x,Value.ref y]:Array Value).zip #[Value.ref x,Value.ref y])=#[(Value.ref y,Value.ref y),(Value.ref x,Value.ref x)]:=by
  rw[BP rfl];simp
 rw[J];refine BJ<|CT (iP (Q:=λ_ st=>arrOf st=lY y x q p/\failedOf st=none) v l λst L M=>⟨L,M⟩) ?_ λ_ _ e=>e;rintro ⟨⟨⟩,b⟩ Y ⟨rfl,N,O⟩
 dsimp only
 have B:(if true=true then((arrOf b).map (·.2)).reverse else(arrOf b).map (·.2))=(if lexLt p q then #[.ref y,.ref x]else #[.ref x,.ref y]):=by
  rw[BP rfl,N];unfold lY
  split<;>simp
 refine BJ<|QV k rfl<|BJ (OD k rfl ?_ (hsz2:=by rw[B];split<;>exact Qq));rw[O];simp only[FZ,Bb,CV];refine BL ?_;have T:(λ_:Array Value=>if True then((arrOf b).map (·.2)).reverse else(arrOf b).map (·.2))=λ_=>(if lexLt p q then #[.ref y,.ref x]else #[.ref x,.ref y]):=by
  funext _
  rw[BP trivial];rwa[BP rfl]at B
 rwa[T]
def YI{l:Addr}{Q:Î}(j:s.heap.IsList l #[.ref x,.ref y])(c:Pr s.heap x p)(d:Pr s.heap y q)
  (h:∀h' e,(∀ b u,s.heap.get? b=some u->h'.get? b=some u)->h'.get? (s.heap.objs.size+1)=some (seqObj "list" (if lexLt p q then #[.ref y,.ref x]else #[.ref x,.ref y]) e)->Q (.ref<|s.heap.objs.size+1) {s with heap:=h'}):
  bc U w A (call (.builtin "sorted") [.ref l] [(Str.ofString "reverse",.bool true)]) Q E s:=by
 refine call_function_entry_kw kind_sorted plain_sorted entry_sorted (args_sorted_rev _ _) ?_;unfold Builtin.«sorted»;refine BJ<|BL ?_;refine BJ<|collect_list j ?_;refine BJ<|KJ ?_;have a:((s.heap.push<|seqObj "list" #[] 0).update s.heap.objs.size (Obj.mapSeq (·++[Value.ref x,Value.ref y].toArray))).objs.size=s.heap.objs.size+1:=by
  rw[Heap.size_update,size_push']
 have f:(((s.heap.push<|seqObj "list" #[] 0).update s.heap.objs.size (Obj.mapSeq (·++[Value.ref x,Value.ref y].toArray))).push<|seqObj "list" [Value.ref x,Value.ref y].toArray 0).get? (s.heap.objs.size+1)=some (seqObj "list" [Value.ref x,Value.ref y].toArray 0):=by
  rw[<-a];exact Ao _ rfl
 have k:=let ⟨_,_,_,_,e,_⟩:=c;Ap e
 have n:=let ⟨_,_,_,_,e,_⟩:=d;Ap e
 have keep:∀ z r,Pr s.heap z r->Pr (((s.heap.push<|seqObj "list" #[] 0).update s.heap.objs.size (Obj.mapSeq (·++[Value.ref x,Value.ref y].toArray))).push<|seqObj "list" [Value.ref x,Value.ref y].toArray 0) z r:=by
  rintro z r ⟨o,m,t,u,i,v⟩;have B:=Ap i;exact⟨o,m,t,u,Ae _<|(Cb _ _<|Cw B).trans<|Ae _ i,v⟩
 show wpAny _ _ _ _ _ {s with heap:=((s.heap.push<|seqObj "list" #[] 0).update s.heap.objs.size (Obj.mapSeq (·++[Value.ref x,Value.ref y].toArray))).push (seqObj "list" [Value.ref x,Value.ref y].toArray 0)};rw[a];refine BJ<|CJ<|wpAny_call_entry_kw slot_list_sort ⟨_,f,rfl⟩ entry_list_sort (mn f (Cw<|Bt k) (Cw<|Bt n) (keep x p c) (keep y q d) ⟨_,rfl,?_⟩)<|args_list_sort_rev _ _;obtain⟨e,C⟩:=sortedAll_at s.heap [Value.ref x,Value.ref y] (if lexLt p q then #[.ref y,.ref x]else #[.ref x,.ref y]);exact BL ⟨_,rfl,h _ e (λb u D=>RK D) C⟩
end
end bD
namespace L2
open PySem PySem.Spec PyProof.Rows bD
variable{O:Ð}
section
variable{X:Cx}{e:Expr}{σ:St}{H:Hp}{Q:VK}{pos p kp cp:Pos}{j:Nat}
def RU{s:Shared}{a:Addr}{i j:Int}(I:be X O σ H s)(h:H a=some (.tup [.int i,.int j])):Pr s.heap a (i,j):=by
 obtain⟨f,r,b,_⟩:=I.tuple<|aS.of h;obtain⟨u,v,rfl,⟨t,rfl⟩,⟨c,rfl⟩⟩:=re r;obtain⟨o,d,e,n,hd⟩:=b;exact⟨o,n,t,c,d,e,hd⟩
set_option tactic.hygienic true in
def k6q(w:X.mg "sorted" = none) (h:Ev X e σ H λv f=>∃l x y a b c d,v=.ref l/\f l=some (.lst [.ref x,.ref y])/\f x=some (.tup [.int a,.int b])/\f y=some (.tup [.int c,.int d]) /\
   ∀r,f r=none->Q (.ref r) (upd f r<|.lst (if lexLt (a,b) (c,d)then [.ref y,.ref x]else [.ref x,.ref y]))) (A:Gl X "sorted":=by rfl)
  (i:backTo pos (starEach [e] X.env)=(false,eval e X.env):: backTo pos (starEach [] X.env):=by rfl) (B:(backTo pos<|starEach [e] X.env).any (·.1)=false:=by rfl) (C:gf e=false:=by rfl):
  Ev X (.Call (.Name "sorted" p) [e] [⟨some "reverse",.Constant (.bool true) j cp,kp⟩] pos) σ H Q:=by
 refine⟨λO s I=>?_⟩;refine JR<|oD I A w CW ?_;have D:Ea X [e] σ H λt f=>∃l x y a b c d,t=[.ref l]/\f l=some (.lst [.ref x,.ref y])/\f x=some (.tup [.int a,.int b])/\f y=some (.tup [.int c,.int d]) /\
   ∀r,f r=none->Q (.ref r) (upd f r<|.lst (if lexLt (a,b) (c,d)then [.ref y,.ref x]else [.ref x,.ref y])):=
  ai (h.mono λv f⟨l,x,y,a,b,c,d,E,m⟩=>ax ⟨l,x,y,a,b,c,d,by rw[E],m⟩) C
 refine callWith_kw (aN (D.run pos O s I) λus s1 z=>?_) i B;obtain⟨t,f,k,m,l,x,y,a,b,c,d,G,J,L,M,q⟩:=z;subst G;obtain⟨u,rfl,n⟩:=kw m;cases (show u=Value.ref l from n);refine kws_cons<|BL<|kws_nil ?_;obtain⟨è,N,T,_⟩:=k.list<|aj.of J;obtain⟨u,v,rfl,n,U⟩:=re N;cases (show u=Value.ref x from n);cases (show v=Value.ref y from U);refine YI T.isList (RU k L) (RU k M) λY e kp i=>?_;refine⟨.ref _,_,k.eR kp rfl rfl (Ef _) (show aB X.U X.w _ Y _ (.lst (if lexLt (a,b) (c,d)then [.ref y,.ref x]else [.ref x,.ref y]))from ?_),rfl,q _<|k.aF.fresh<|Ef _⟩
 split at i
 ·rename_i o;rw[BP o];exact⟨by show 2<=sizeLine;rw[FJ];decide,[.ref y,.ref x],e,.cons rfl (.cons rfl .nil),i⟩
 ·rename_i o;rw[BK o];exact⟨by show 2<=sizeLine;rw[FJ];decide,[.ref x,.ref y],e,.cons rfl (.cons rfl .nil),i⟩
end
end L2
namespace Nt
open PySem
abbrev fo:=List<|Str×List Str
abbrev ff:=Nat×Nat
def row(n:fo)(r:Nat):Ñ:=((n[r]?).map (·.2)).getD []
def aJ(n:fo)(e:ff):Option Str:=(row n e.1)[e.2]?
def bJ(r:Nat)(a:Ñ)(p:Nat):List (Str×ff):=(a.zipIdx p).map λx=>(x.1,(r,x.2))
def ia(r:Nat):fo->List (Str×ff)
 |[]=>[]
 |a :: n=>bJ r a.2 0++ia (r+1) n
def bt(n:fo):List (Str×ff):=ia 0 n
def ends(n:fo):List ff:=(bt n).map (·.2)
def ag(n:fo):Ñ:=n.flatMap (·.2)
def pos(n:fo)(z:Str):List ff:=((bt n).filter λx=>decide (x.1=z)).map (·.2)
variable{e:ff}{z:Str}{p r:Nat}
def b7{a:Ñ}:(z,e)∈bJ r a p↔e.1=r/\p<=e.2/\a[e.2-p]?=some z:=by
 unfold bJ;rw[Ai]
 constructor
 ·rintro ⟨⟨y,k⟩,b,c⟩;cases c;have:=Fn.mp b;exact⟨rfl,this.1,this.2⟩
 ·rintro ⟨d,f,h⟩;refine⟨(z,e.2),Fn.mpr ⟨f,h⟩,?_⟩;rw[<-d]
theorem bT:∀{n}{k}{z}{e},(z,e)∈ia k n↔k<=e.1/\(row n<|e.1-k)[e.2]?=some z
 |[],k,z,e=>by
  constructor
  ·intro h;cases h
  ·rintro ⟨_,h⟩;simp[row]at h
 |a :: n,k,z,e=>by
  unfold ia;rw[An,b7,bT]
  constructor
  ·rintro (⟨c,_,d⟩|⟨c,b⟩)
   ·refine⟨(by omega),?_⟩;rw[show e.1-k=0 by omega]
    simpa[row]using d
   ·refine⟨(by omega),?_⟩;rw[show e.1-k=(e.1-(k+1))+1 by omega]
    simpa[row]using b
  ·rintro ⟨c,b⟩
   obtain h|h:=Dr k e.1
   ·refine .inr ⟨h,?_⟩;rw[show e.1-k=(e.1-(k+1))+1 by omega]at b
    simpa[row]using b
   ·refine .inl ⟨(by omega),Bu _,?_⟩;rw[show e.1-k=0 by omega]at b
    simpa[row]using b
variable{n:fo}
def aY:(z,e)∈bt n↔aJ n e=some z:=by
 unfold bt aJ;rw[bT];simp
def af:e∈ends n↔∃z,aJ n e=some z:=by
 unfold ends;rw[Ai]
 constructor
 ·rintro ⟨⟨z,a⟩,h,rfl⟩;exact⟨z,aY.mp h⟩
 ·rintro ⟨z,h⟩;exact⟨(z,e),aY.mpr h,rfl⟩
def aK:e∈pos n z↔aJ n e=some z:=by
 unfold pos;rw[Ai]
 constructor
 ·rintro ⟨⟨y,c⟩,h,rfl⟩;rw[Bg,DN]at h;obtain⟨a,b⟩:=h;subst b;exact aY.mp a
 ·intro h;exact⟨(z,e),Bg.mpr ⟨aY.mpr h,by simp⟩,rfl⟩
def Ps(r:Nat):∀a p,(bJ r a p).map (·.1)=a:=by
 intro a p;unfold bJ;rw[Cg];have:((λx:Str×ff=>x.1) ∘ λx:Str×Nat=>(x.1,(r,x.2)))=Prod.fst:=rfl;rw[this,List.zipIdx_map_fst]
theorem lZ:∀n k,(ia k n).map (·.1)=ag n
 |[],_=>rfl
 |a :: n,k=>by
  unfold ia ag;rw[Aj,Ps,lZ n<|k+1,Cm];rfl
def S3(r:Nat)(c:Ñ)(p:Nat):((bJ r c p).map (·.2)).Nodup:=by
 unfold bJ;rw[Cg];have e:((λx:Str×ff=>x.2) ∘ λx:Str×Nat=>(x.1,(r,x.2)))=(λk:Nat=>(r,k)) ∘ Prod.snd:=rfl;rw[e,<-Cg,List.zipIdx_map_snd];refine RN _ ?_ List.nodup_range';intro a b h d;exact h (Prod.mk.inj d).2
theorem RY:∀n k,((ia k n).map (·.2)).Nodup
 |[],_=>Cn
 |a :: n,k=>by
  unfold ia;rw[Aj,Cj];refine⟨S3 _ _ _,RY n<|k+1,?_⟩;intro x c y d e;subst e;obtain⟨⟨z,i⟩,f,rfl⟩:=Ai.mp c;obtain⟨⟨j,l⟩,h,b⟩:=Ai.mp d;simp only at b;subst b;have m:=(b7.mp f).1;have o:=(bT.mp h).1;omega
def tH(n:fo):(ends n).Nodup:=RY n 0
def R0(n:fo)(z:Str):(pos n z).Nodup:=by
 unfold pos;exact(tH n).sublist<|List.Sublist.map _<|List.filter_sublist
def qA(n:fo)(z:Str):(pos n z).length=(ag n).count z:=by
 unfold pos;rw[Aa,<-lZ n 0,<-List.countP_eq_length_filter,List.count,List.countP_map];rfl
def aw(n:fo):Prop:=∀z∈ag n,(ag n).count z=2
def eG(h:aJ n e=some z):z∈ag n:=by
 have:=aY.mpr h;rw[<-lZ n 0];exact Ai.mpr ⟨_,this,rfl⟩
def other(n:fo)(e:ff):ff:=match aJ n e with
 | some z=>(match pos n z with
  |[a,b]=>if a=e then b else a
  |_=>e)
 |none=>e
theorem qB(T:aw n)(h:aJ n e=some z):∃a b,pos n z=[a,b]/\a≠b/\(e=a\/e=b):=by
 have c:=qA n z;rw[T z<|eG h]at c;have d:=R0 n z;have f:=aK.mpr h
 match i:pos n z,c with
 |[a,b],_=>
  rw[i]at d f;refine⟨a,b,rfl,?_,?_⟩
  ·intro e;subst e;simp at d
  ·simpa using f
def dk(T:aw n)(h:aJ n e=some z):aJ n (other n e)=some z/\other n (other n e)=e/\other n e≠e:=by
 obtain⟨a,b,c,d,l⟩:=qB T h;have j:aJ n a=some z:=aK.mp (by rw[c];simp);have k:aJ n b=some z:=aK.mp<|by rw[c];simp
 obtain rfl|rfl:=l
 ·have f:other n e=b:=by unfold other;simp only[h,c];simp
  have i:other n b=e:=by unfold other;simp only[k,c];simp[d]
  rw[f];exact⟨k,i,d.symm⟩
 ·have f:other n e=a:=by unfold other;simp only[h,c];simp[d]
  have i:other n a=e:=by unfold other;simp only[j,c];simp
  rw[f];exact⟨j,i,d⟩
def left(n:fo)(e:ff):ff:=(e.1,(e.2+1)%(row n e.1).length)
def step(n:fo)(e:ff):ff:=left n (other n e)
def iE(h:aJ n e=some z):e.2<(row n e.1).length:=(Ac.mp h).1
def cS(h:aJ n e=some z):e.1<n.length:=by
 obtain c|c:=Dr e.1 n.length
 ·exact c
 ·have:=iE h;unfold row at this;rw[Bd c]at this;simp at this
def zJ(h:e.2<(row n e.1).length):∃z,aJ n e=some z:=⟨_,Ab h⟩
theorem kP(h:e∈ends n):left n e∈ends n:=by
 obtain⟨z,h⟩:=af.mp h;have:=iE h;exact af.mpr<|zJ (show(e.2+1)%(row n e.1).length<(row n e.1).length from Gw _<|(by omega))
def dD(T:aw n)(h:e∈ends n):other n e∈ends n:=by
 obtain⟨z,h⟩:=af.mp h;exact af.mpr ⟨z,(dk T h).1⟩
def tI(T:aw n)(h:e∈ends n):step n e∈ends n:=kP<|dD T h
theorem YE{a b:ff}(i:a∈ends n)(j:b∈ends n)(h:left n a=left n b):a=b:=by
 obtain⟨z,i⟩:=af.mp i;obtain⟨y,j⟩:=af.mp j;have l:=iE i;have m:=iE j;unfold left at h;obtain⟨k,f⟩:=Prod.mk.inj h;rw[k]at l f;have:a.2=b.2:=by
  obtain c|c:=Dr (a.2+1) (row n b.1).length<;>obtain d|d:=Dr (b.2+1) (row n b.1).length
  ·rw[Cf c,Cf d]at f;omega
  ·have e:b.2+1=(row n b.1).length:=(by omega)
   rw[Cf c,e,Em]at f;omega
  ·have e:a.2+1=(row n b.1).length:=(by omega)
   rw[Cf d,e,Em]at f;omega
  ·omega
 exact JC k this
def R1(T:aw n){a b:ff}(c:a∈ends n)(d:b∈ends n)(h:other n a=other n b):a=b:=by
 obtain⟨z,c⟩:=af.mp c;obtain⟨y,d⟩:=af.mp d;rw[<-(dk T c).2.1,h,(dk T d).2.1]
def R3(T:aw n){a b:ff}(c:a∈ends n)(d:b∈ends n)(h:step n a=step n b):a=b:=
 R1 T c d (YE (dD T c) (dD T d) h)
theorem aI{α:Type}[DecidableEq α]:∀{a b:List α},a.Nodup->(∀z∈a,z∈b)->a.length<=b.length
 |[],b,_,_=>Bu _
 |x :: r,b,c,d=>by
  rw[Bk]at c;have f:=d x Ag;have:=aI c.2 λz h=>by
   have i:z≠x:=λe=>c.1<|e ▸ h;exact(Fq i).mpr<|d z<|Ak _ h
  rw[Fw f]at this;have j:0<b.length:=VD f;rw[As];omega
def it{α:Type}(f:α->α):Nat->α->α
 |0,a=>a
 |k+1,a=>f<|it f k a
theorem kz{α:Type}{f:α->α}{S:List α}(b:∀a∈S,f a∈S){a:α}(h:a∈S):∀k,it f k a∈S
 |0=>h
 |k+1=>b _<|kz b h k
theorem Ip{α:Type}[DecidableEq α]{f:α->α}{S:List α}(c:∀a∈S,f a∈S)(inj:∀a∈S,∀b∈S,f a=f b->a=b){a:α}(h:a∈S):∃k,0<k/\k<=S.length/\it f k a=a:=by
 have cancel:∀i j,it f i a=it f (i+j) a->it f j a=a:=by
  intro i
  induction i with
  |zero=>intro j e;rw[Fe]at e;exact e.symm
  |succ i l=>
   intro j e;refine l j ?_;rw[show i+1+j=(i+j)+1 by omega]at e;exact inj _ (kz c h i) _ (kz c h<|i+j) e
 refine GK λm=>?_;have nd:((range<|S.length+1).map λi=>it f i a).Nodup:=by
  refine RN _ (R:=λi j=>i<j/\j<S.length+1) ?_ ?_
  ·rintro i j ⟨p,q⟩ e;refine m ⟨j-i,(by omega),(by omega),cancel i (j-i) ?_⟩;rwa[show i+(j-i)=j by omega]
  ·rw[Cc];intro i j r d n;simp only[Ff];simp at d;exact⟨n,d⟩
 have:=aI nd λz o=>by
  obtain⟨i,_,rfl⟩:=Ai.mp o;exact kz c h i
 simp at this;omega
theorem ju:∀n r,(row n r).length<=(ag n).length
 |[],r=>by simp[row,ag]
 |a :: n,0=>by simp[row,ag]
 |a :: n,r+1=>by
  have:=ju n r;simp[row,ag]at this ⊢;omega
theorem R5:∀n r,(ag<|n.take r).length<=(ag n).length
 |[],r=>by simp[ag]
 |a :: n,0=>by simp[ag]
 |a :: n,r+1=>by
  have:=R5 n r;simp[ag]at this ⊢;omega
structure fY(n:fo)(e:Nt.ff)(fs:List ff):Prop where
 pos:0<fs.length
 len:fs.length<=(ends n).length
 at':∀i,i<fs.length->fs[i]?=some (it (step n) i e)
 back:it (step n) fs.length e=e
 first:∀i,0<i->i<fs.length->it (step n) i e≠e
open L2
abbrev Ls(zs:Ñ):HO:= .lst<|zs.map V.str
abbrev Tp(e:ff):HO:= .tup [.int e.1,.int e.2]
structure al(H:Hp)(R:Addr)(as:Ï)(n:fo):Prop where
 len:as.length=n.length
 lst:H R=some (.lst<|as.map λa=> .ref a.1)
 tup:∀(i:Nat)a r,as[i]?=some a->n[i]?=some r->H a.1=some (.tup [.str r.1,.ref a.2])/\H a.2=some (Ls r.2)
 inj:(as.map (·.2)).Nodup
variable{as:Ï}{R:Addr}{H:Hp}
def al.same{H':Hp}(h:al H R as n)(s:ah H H'):al H' R as n:=
 ⟨h.len,s _ _ h.lst,λi a r b c=>⟨s _ _ (h.tup i a r b c).1,s _ _ (h.tup i a r b c).2⟩,h.inj⟩
theorem al.at(h:al H R as n){i:Nat}(b:i<n.length):
  ∃a,as[i]?=some a/\fG (as.map λa=>V.ref a.1) (i:Int)=some (.ref a.1)/\H a.1=some (.tup [.str n[i].1,.ref a.2])/\H a.2=some (Ls<|row n i)/\row n i=n[i].2:=by
 have d:=h.len;have e:as[i]?=some as[i]:=Ab (by omega);have c:row n i=n[i].2:=by unfold row;rw[Ab b];rfl
 have q:=h.tup i as[i] n[i] e<|Ab b;refine⟨as[i],e,oH (by rw[Ah,e];rfl),q.1,?_,c⟩;rw[c];exact q.2
variable{zs:Ñ}
def zK{j:Nat}(h:zs[j]?=some z):fG (zs.map V.str) (j:Int)=some (.str z):=oH<|by rw[Ah,h];rfl
inductive Pd(H:Hp):List Addr->List ff->Prop where
 |nil:Pd H [] []
 |cons {t:Addr} {e:ff} {ts:List Addr} {es:List ff}:H t=some (Tp e)->Pd H ts es->Pd H (t :: ts) (e :: es)
variable{es:List ff}{ts:List Addr}
theorem Pd.append{a:List Addr}{b:List ff}(h:Pd H ts es)(g:Pd H a b):Pd H (ts++a) (es++b):=by
 induction h with
 |nil=>exact g
 |cons c _ d=>exact .cons c d
theorem Pd.keep{H':Hp}(h:Pd H ts es)(k:∀t e,H t=some (Tp e)->H' t=some (Tp e)):Pd H' ts es:=by
 induction h with
 |nil=>exact .nil
 |cons a _ b=>exact .cons (k _ _ a) b
theorem Pd.length{H:Hp}{ts:List Addr}{es:List ff}(h:Pd H ts es):ts.length=es.length:=by
 induction h with
 |nil=>rfl
 |cons _ _ a=>rw[As,As,a]
theorem Pd.at{H:Hp}{ts:List Addr}{es:List ff}(h:Pd H ts es):∀{i:Nat}{e:ff},es[i]?=some e->∃t,ts[i]?=some t/\H t=some (Tp e):=by
 induction h with
 |nil=>intro i e h;simp at h
 |cons a _ b=>
  intro i e h;cases i with
  |zero=>simp at h;subst h;exact⟨_,rfl,a⟩
  |succ i=>simp only[Gb]at h ⊢;exact b h
def b8(done:List<|Str×ff)(z:Str):List ff:=(done.filter λx=>decide (x.1=z)).map (·.2)
def dI(done:List<|Str×ff)(y z:Str)(e:ff):b8 (done++[(y,e)]) z=b8 done z++(if y=z then [e]else []):=by
 unfold b8;rw[Ct,Aj]
 congr 1
 by_cases h:y=z
 ·rw[BP h];simp[h]
 ·rw[BK h];simp[h]
structure bf(H0 H:Hp)(d:Addr)(done:List<|Str×ff)(Y:List<|Key×V)(ks:Ñ)(A:Str->Option (Addr×List Addr)):Prop where
 same:ah H0 H
 free:H0 d=none
 dict:H d=some (.dK Y)
 keys:Y.map (·.1)=ks.map Sum.inr
 nodup:ks.Nodup
 mem:∀z,z∈ks↔(A z).isSome=true
 val:∀z,ao Y (Sum.inr z)=(A z).map λa=> .ref a.1
 at':∀z a ts,A z=some (a,ts)->H0 a=none/\a≠d/\H a=some (.lst<|ts.map V.ref)/\Pd H ts (b8 done z)
 inj:∀z y a ts us,A z=some (a,ts)->A y=some (a,us)->z=y
 gQ:∀z,A z=none->b8 done z=[]
 some':∀z a ts,A z=some (a,ts)->b8 done z≠[]
variable{d:Addr}
def bf.start(h:H d=none):bf H (upd H d<|.dK []) d [] [] [] (λ_=>none) where
 same:=λb u q=>by rwa[au<|bh q h]
 free:=h
 dict:=av
 keys:=rfl
 nodup:=Cn
 mem:=λz=>by simp
 val:=λz=>rfl
 at':=λz a ts h=>by cases h
 inj:=λz y a ts us h=>by cases h
 gQ:=λz _=>rfl
 some':=λz a ts h=>by cases h
def vQ{t a:Addr}{xs:List V}(h:H t=some (Tp e))(g:H a=some (.lst xs)):t≠a:=bV h g λz=>nomatch z
variable{A:Str->Option (Addr×List Addr)}{ks:Ñ}{Y:List (Key×V)}{done:List (Str×ff)}
def bf.old{r:Hp}(S:bf r H d done Y ks A){a k t:Addr}
  (m:A z=some (a,ts)) (D:H k=none) (p:(upd H k<|.lst []) t=none):
  bf r (upd (upd (upd H k<|.lst []) t<|Tp e) a<|.lst<|ts.map V.ref++[.ref t]) d (done++[(z,e)]) Y ks (λy=>if y=z then some (a,ts++[t])else A y):=by
 obtain⟨s,v,w,E⟩:=S.at' z a ts m;have x:H t=none:=by
  by_cases c:t=k
  ·rw[c,av]at p;cases p
  ·rwa[au c]at p
 have G:=(bh w x).symm;have keep:∀b u,b≠a->H b=some u->(upd (upd (upd H k<|.lst []) t<|Tp e) a<|.lst<|ts.map V.ref++[.ref t]) b=some u:=λb u j i=>by
  rwa[au j,au<|bh i x,au<|bh i D]
 have B:∀b f,H b=some (Tp f)->(upd (upd (upd H k<|.lst []) t<|Tp e) a<|.lst<|ts.map V.ref++[.ref t]) b=some (Tp f):=λb f h=>keep b _ (vQ h w) h;have I:(upd (upd (upd H k<|.lst []) t<|Tp e) a<|.lst<|ts.map V.ref++[.ref t]) t=some (Tp e):=by rw[au G,av]
 refine⟨λb u h=>?_,S.free,keep d _ (CG v) S.dict,S.keys,S.nodup,λy=>?_,λy=>?_,λy n l h=>?_,λy q n l C j i=>?_,λy h=>?_,λy n l h=>?_⟩
 ·exact keep b u (bh h s)<|S.same _ _ h
 ·rw[S.mem y]
  by_cases c:y=z
  ·rw[BP c,c,m];simp
  ·rw[BK c]
 ·rw[S.val y]
  by_cases c:y=z
  ·rw[BP c,c,m];rfl
  ·rw[BK c]
 ·by_cases c:y=z
  ·rw[BP c]at h;cases h;refine⟨s,v,by rw[av,Aj];rfl,?_⟩;rw[dI,c,BP rfl];exact(E.keep B).append<|.cons I .nil
  ·rw[BK c]at h;obtain⟨J,L,M,N⟩:=S.at' y n l h;have O:n≠a:=λQ=>c<|S.inj y z a l ts (Q ▸ h) m;refine⟨J,L,keep _ _ O M,?_⟩;rw[dI,BK λh=>c h.symm,Be];exact N.keep B
 ·by_cases c:y=z<;>by_cases o:q=z
  ·rw[c,o]
  ·rw[BP c]at j;rw[BK o]at i;cases j;exact absurd (S.inj q z a C ts i m) o
  ·rw[BK c]at j;rw[BP o]at i;cases i;exact absurd (S.inj y z a l ts j m) c
  ·rw[BK c]at j;rw[BK o]at i;exact S.inj y q n l C j i
 ·by_cases c:y=z
  ·rw[BP c]at h;cases h
  ·rw[BK c]at h;rw[dI,BK λh=>c h.symm,Be];exact S.gQ y h
 ·by_cases c:y=z
  ·rw[dI,BP c.symm];simp
  ·rw[BK c]at h;rw[dI,BK λh=>c h.symm,Be];exact S.some' y n l h
def bf.new{v:Hp}(S:bf v H d done Y ks A){a t:Addr}
  (p:A z=none) (k:H a=none) (m:(upd (upd H a<|.lst []) d<|.dK<|putK Y (Sum.inr z)<|.ref a) t=none):
  bf v (upd (upd (upd (upd H a<|.lst []) d<|.dK<|putK Y (Sum.inr z)<|.ref a) t<|Tp e) a<|.lst [.ref t]) d (done++[(z,e)]) (putK Y (Sum.inr z)<|.ref a) (ks++[z]) (λy=>if y=z then some (a,[t])else A y):=by
 have w:=bh S.dict k;have q:t≠d:=λc=>by rw[c,av]at m;cases m
 have B:t≠a:=λc=>by rw[au q,c,av]at m;cases m
 have G:H t=none:=by rwa[au q,au B]at m
 have I:ao Y (Sum.inr z)=none:=by rw[S.val z,p];rfl
 have keep:∀b u,b≠d->H b=some u->(upd (upd (upd (upd H a<|.lst []) d<|.dK<|putK Y (Sum.inr z)<|.ref a) t<|Tp e) a<|.lst [.ref t]) b=some u:=λb u j i=>by
  rwa[au<|bh i k,au<|bh i G,au j,au<|bh i k]
 have J:∀b f,H b=some (Tp f)->(upd (upd (upd (upd H a<|.lst []) d<|.dK<|putK Y (Sum.inr z)<|.ref a) t<|Tp e) a<|.lst [.ref t]) b=some (Tp f):=λb f h=>keep b _ (bV h S.dict λz=>nomatch z) h;have r:=S.same.free k;have L:z∉ks:=λh=>by
  have:=(S.mem z).mp h;rw[p]at this;cases this
 refine⟨λb u h=>?_,S.free,?_,?_,?_,λy=>?_,λy=>?_,λy n l h=>?_,λy s n l C j i=>?_,λy h=>?_,λy n l h=>?_⟩
 ·exact keep b u (bh h S.free)<|S.same _ _ h
 ·rw[au w,au q.symm,av]
 ·rw[Qg _ I,Aj,S.keys,Aj];rfl
 ·rw[Cj];exact⟨S.nodup,by simp,λx M y D e=>by rw[Af]at D;subst D e;exact L M⟩
 ·rw[An,Af,S.mem y]
  by_cases c:y=z
  ·rw[BP c];simp[c]
  ·rw[BK c];simp[c]
 ·rw[dC]
  by_cases c:y=z
  ·rw[BP (by rw[c]),BP c];rfl
  ·rw[BK λh=>c<|Sum.inr.inj h,BK c,S.val y]
 ·by_cases c:y=z
  ·rw[BP c]at h;cases h;refine⟨r,w.symm,by rw[av];rfl,?_⟩;rw[dI,c,BP rfl,S.gQ z p];exact .cons (by rw[au B,av]) .nil
  ·rw[BK c]at h;obtain⟨N,E,O,Q⟩:=S.at' y n l h;refine⟨N,E,keep _ _ E O,?_⟩;rw[dI,BK λh=>c h.symm,Be];exact Q.keep J
 ·by_cases c:y=z<;>by_cases o:s=z
  ·rw[c,o]
  ·rw[BP c]at j;rw[BK o]at i;cases j;exact absurd k<|by rw[(S.at' s a C i).2.2.1];exact λh=>nomatch h
  ·rw[BK c]at j;rw[BP o]at i;cases i;exact absurd k<|by rw[(S.at' y a l j).2.2.1];exact λh=>nomatch h
  ·rw[BK c]at j;rw[BK o]at i;exact S.inj y s n l C j i
 ·by_cases c:y=z
  ·rw[BP c]at h;cases h
  ·rw[BK c]at h;rw[dI,BK λh=>c h.symm,Be];exact S.gQ y h
 ·by_cases c:y=z
  ·rw[dI,BP c.symm];simp
  ·rw[BK c]at h;rw[dI,BK λh=>c h.symm,Be];exact S.some' y n l h
theorem Ir:∀n m k,ia k (n++m)=ia k n++ia (k+n.length) m
 |[],m,k=>rfl
 |a :: n,m,k=>by
  show bJ k a.2 0++ia (k+1) (n++m)=(bJ k a.2 0++ia (k+1) n)++ia (k+(n.length+1)) m;rw[Ir n m<|k+1,Au,show k+1+n.length=k+(n.length+1) by omega]
theorem tJ(h:r<n.length):bt (n.take<|r+1)=bt (n.take r)++bJ r (row n r) 0:=by
 unfold bt;rw[Bx,Ab h,Ir];have e:(n.take r).length=r:=by rw[Bh];omega
 rw[e,Fe];have a:row n r=n[r].2:=by unfold row;rw[Ab h];rfl
 rw[a];show _++(bJ r n[r].2 0++[])=_;rw[Be]
theorem qC{ts:Ñ}(h:ts[p]?=some z):bJ r (ts.take<|p+1) 0=bJ r (ts.take p) 0++[(z,(r,p))]:=by
 unfold bJ;have a:=(Ac.mp h).1;rw[Bx,h,List.zipIdx_append,Aj];have e:(ts.take p).length=p:=by rw[Bh];omega
 rw[e,Fe];rfl
structure bR(H:Hp)(d:Addr)(n:fo)(ks:Ñ):Prop where
 dict:∃Y,H d=some (.dK Y)/\Y.map (·.1)=ks.map Sum.inr/\∀z∈ag n,∃a ts,ao Y (Sum.inr z)=some (.ref a)/\H a=some (.lst<|ts.map V.ref)/\Pd H ts (pos n z)
 nodup:ks.Nodup
 mem:∀z,z∈ks↔z∈ag n
def bR.same{H':Hp}(S:bR H d n ks)(s:ah H H'):bR H' d n ks:=by
 obtain⟨Y,b,c,f⟩:=S.dict;refine⟨⟨Y,s _ _ b,c,λz i=>?_⟩,S.nodup,S.mem⟩;obtain⟨a,ts,j,k,l⟩:=f z i;exact⟨a,ts,j,s _ _ k,l.keep λt e h=>s _ _ h⟩
def eV:z∈ag n↔pos n z≠[]:=by
 rw[<-Ed,<-qA,Du]
theorem bf.whole{c:Hp}(S:bf c H d (bt n) Y ks A):bR H d n ks:=by
 have b:∀z,z∈ks↔z∈ag n:=λz=>by
  rw[S.mem z,eV];cases h:A z with
  |none=>simp;exact S.gQ z h
  |some p=>
   obtain⟨a,ts⟩:=p;simp;exact S.some' z a ts h
 refine⟨⟨Y,S.dict,S.keys,λz e=>?_⟩,S.nodup,b⟩;have:=(S.mem z).mp<|(b z).mpr e;cases h:A z with
 |none=>rw[h]at this;cases this
 |some p=>
  obtain⟨a,ts⟩:=p;obtain⟨j,k,f,i⟩:=S.at' z a ts h;exact⟨a,ts,by rw[S.val z,h];rfl,f,i⟩
def xw(e:Nat->Bool):(range 2).all e=(e 0 && e 1):=by
 show(([0,1]:List Nat).all e)=_;simp
theorem R9(x y:ff):(cC (.int x.1) (.int y.1) && cC (.int x.2) (.int y.2))=decide (x=y):=by
 obtain⟨a,b⟩:=x;obtain⟨c,d⟩:=y
 by_cases h:a=c<;>by_cases f:b=d
 ·subst h f;simp[cC]
 ·have:¬(b:Int)=(d:Int):=λe=>f (by omega);simp[cC,f,this]
 ·have:¬(a:Int)=(c:Int):=λe=>h (by omega);simp[cC,h,this]
 ·have:¬(a:Int)=(c:Int):=λe=>h (by omega);simp[cC,h,this]
section
variable{X:Cx}{s t:Addr}{x y:ff}
theorem Sd:∀j u v,[V.int x.1,.int x.2][j]?=some u->[V.int y.1,.int y.2][j]?=some v->jR X H 0 u v (if j=0 then cC (.int x.1) (.int y.1)else cC (.int x.2) (.int y.2))
 |0,u,v,a,b=>by
  cases a;cases b;exact qv rfl rfl
 |1,u,v,a,b=>by
  cases a;cases b;exact qv rfl rfl
 |j+2,u,v,a,b=>by simp at a
def SA(a:H s=some (Tp x))(b:H t=some (Tp y)):lX X H 1 (.ref s) (.ref t) (decide (x=y)):=by
 have:=RC (X:=X) (λj=>if j=0 then cC (.int x.1) (.int y.1)else cC (.int x.2) (.int y.2)) (aS.of a) (aS.of b) rfl Sd;rw[show([V.int (x.1:Int),.int x.2].length)=2 from rfl,xw]at this;have e:=R9 x y;simp only[DP]at this;rwa[BK (by decide),e]at this
def rb(a:H s=some (Tp x))(b:H t=some (Tp y)):oU X H 1 (.ref s) (.ref t) (decide (x=y)):=by
 have:=RE (X:=X) (λj=>if j=0 then cC (.int x.1) (.int y.1)else cC (.int x.2) (.int y.2)) (aS.of a) (aS.of b) rfl Sd;rw[show([V.int (x.1:Int),.int x.2].length)=2 from rfl,xw]at this;have e:=R9 x y;simp only[DP]at this;rwa[BK (by decide),e]at this
end
abbrev lm:Str:= "abcdefghijklmnopqrstuvwxyz0123456789"
def Se:lm.cps.toList.length=36:=by decide +kernel
def Th:lm.cps.toList.Nodup:=by decide +kernel
def sgn(i:Int):Nat:=(fG lm.cps.toList<|i%36).getD 0
theorem Iu(i:Int):fG lm.cps.toList (i%36)=some (sgn i):=by
 have a:(i%36).toNat<lm.cps.toList.length:=by rw[Se];omega
 have q:=oH (xs:=lm.cps.toList) (j:=(i%36).toNat) (v:=lm.cps.toList[(i%36).toNat]) (by simp[a]);rw[show(((i%36).toNat:Nat):Int)=i%36 by omega]at q;unfold sgn;rw[q];rfl
theorem Sg{i j:Int}(h:sgn i=sgn j):i%36=j%36:=by
 have key:∀k:Int,lm.cps.toList[(k%36).toNat]?=some (sgn k):=λk=>by
  have a:(k%36).toNat<lm.cps.toList.length:=by rw[Se];omega
  have q:=oH (xs:=lm.cps.toList) (j:=(k%36).toNat) (v:=lm.cps.toList[(k%36).toNat]) (by simp[a]);rw[show(((k%36).toNat:Nat):Int)=k%36 by omega,Iu]at q;rw[Ab a,Option.some.inj q]
 have b:=key i;have a:=key j;rw[h]at b;obtain⟨f,c⟩:=Ac.mp b;obtain⟨d,e⟩:=Ac.mp a;have:=(Gj (h₁:=d) Th).mp<|c.trans e.symm;have l:0<=i%36:=Bs _ (by decide);have m:0<=j%36:=Bs _ (by decide);omega
def turn(b:Int)(sp:Int)(v k:Nat):Int:=b/64+(k:Int)*(b/7%5)+(if(k:Int)=sp then(v:Int)else 0)
def nm(b sp:Int)(v:Nat):Nat->Str
 |0=>⟨#[]⟩
 |k+1=>nm b sp v k++⟨#[sgn<|turn b sp v k]⟩
def wP(x y:Str):(x++y).cps.toList=x.cps.toList++y.cps.toList:=by
 show(x.cps++y.cps).toList=_;simp
theorem zO(b sp:Int)(v:Nat):∀k,(nm b sp v k).cps.toList=(range k).map λj=>sgn<|turn b sp v j
 |0=>rfl
 |k+1=>by
  show(nm b sp v k++⟨#[sgn<|turn b sp v k]⟩).cps.toList=_;rw[wP,zO b sp v k,Dc,Aj];rfl
variable{b:Int}
theorem ui{sp:Int}{u v k:Nat}(f:u<36)(i:v<36)(l:0<=sp)(m:sp<(k:Int))(h:nm b sp u k=nm b sp v k):u=v:=by
 have e:(nm b sp u k).cps.toList=(nm b sp v k).cps.toList:=by rw[h]
 rw[zO,zO]at e;have c:sp.toNat<k:=(by omega)
 have q:((range k).map λj=>sgn<|turn b sp u j)[sp.toNat]?=((range k).map λj=>sgn<|turn b sp v j)[sp.toNat]?:=by rw[e]
 rw[Ah,Ah,Ek c]at q;have d:=Option.some.inj q;have a:=Sg d;unfold turn at a;rw[show((sp.toNat:Nat):Int)=sp by omega,BP rfl,BP rfl]at a;omega
theorem ue(c:Nat):∀k acc,((replicate k (#[c]:Array Nat)).foldl (·++·) acc).toList=acc.toList++replicate k c
 |0,acc=>by simp
 |k+1,acc=>by
  rw[List.replicate_succ,Dp,ue c k,List.replicate_succ];simp
theorem mul_list(c:Nat){i:Int}(h:1<=i):(Txt.mul ⟨#[c]⟩ i).cps.toList=replicate i.toNat c:=by
 unfold Txt.mul;rw[BK<|(by omega)]
 by_cases e:i=1
 ·subst e;rfl
 ·have a:(i == 1 || (⟨#[c]⟩:Str).length == 0)=false:=by
   have:(i == 1)=false:=by simpa using e
   rw[this];rfl
  rw[a];simp only[Bb,CV];have:=ue c i.toNat #[]
  simpa using this
def aW(b:Int)(v:Nat):Str:=if b%3=2 then Txt.mul ⟨#[sgn<|b/64+(v:Int)/8]⟩ (1+(v:Int)%8)else nm b (b/8%(1+b%8)) v (1+b%8).toNat
theorem na{u v:Nat}(a:u<36)(d:v<36)(h:aW b u=aW b v):u=v:=by
 unfold aW at h
 by_cases c:b%3=2
 ·rw[BP c,BP c]at h;have e:(Txt.mul ⟨#[sgn<|b/64+(u:Int)/8]⟩<|1+(u:Int)%8).cps.toList=(Txt.mul ⟨#[sgn<|b/64+(v:Int)/8]⟩<|1+(v:Int)%8).cps.toList:=by rw[h]
  rw[mul_list _ (by omega),mul_list _<|(by omega)]at e;have l:=BZ List.length e;rw[Fk,Fk]at l;have hd:(replicate (1+(u:Int)%8).toNat<|sgn<|b/64+(u:Int)/8)[0]?=(replicate (1+(v:Int)%8).toNat<|sgn<|b/64+(v:Int)/8)[0]?:=by rw[e]
  rw[Fb,Fb,BP (by omega),BP<|(by omega)]at hd;have q:=Sg<|Option.some.inj hd;omega
 ·rw[BK c,BK c]at h;refine ui a d (Bs _<|(by omega)) ?_ h;have:=Ce (b/8) (show 0<1+b%8 by omega);omega
def namesOf(b:Int)(m:Nat):Ñ:=(range m).map<|aW b
theorem zP{m:Nat}(h:m<=36):(namesOf b m).Nodup:=by
 unfold namesOf;refine RN _ (R:=λi j=>i<j/\j<m) ?_ ?_
 ·rintro i j ⟨d,f⟩ e;have:=na (by omega) (by omega) e;omega
 ·rw[Cc];intro i j k a c;simp only[Ff];simp at a;exact⟨c,a⟩
def zQ(b:Int)(m:Nat):namesOf b (m+1)=namesOf b m++[aW b m]:=by
 unfold namesOf;rw[Dc,Aj];rfl
def Iv(b:Int)(m:Nat):(namesOf b m).length=m:=by unfold namesOf;simp
def k6d{m i:Nat}(h:i<m):(namesOf b m)[i]?=some (aW b i):=by
 unfold namesOf;rw[Ah,Ek h];rfl
end Nt
namespace Q1
open PySem L2
def io(i:Nat):Stmt:=PySem.Challenge.pw_threewebs_k41_doubles_by_walkers.main.body.getD i<|.Pass ⟨0,0,0,0⟩
abbrev zR:Stmt:=io 6
abbrev zS:Stmt:=io 7
abbrev Iw:Stmt:=io 8
abbrev Iy:Stmt:=io 9
abbrev Iz:Stmt:=io 10
abbrev zT:Stmt:=io 11
abbrev zU:Stmt:=io 12
abbrev zV:Stmt:=io 13
abbrev zW:Stmt:=io 15
abbrev IA:Stmt:=io 16
abbrev vR:Stmt:=io 17
abbrev IB:Stmt:=io 19
abbrev iF:Stmt:=io 20
abbrev qD:Stmt:=io 21
abbrev zX:Stmt:=io 22
abbrev vS:Stmt:=io 23
abbrev qF:Stmt:=io 25
abbrev qG:Stmt:=io 26
abbrev vT:Stmt:=io 27
abbrev IC:Stmt:=io 29
abbrev zY:Stmt:=io 30
abbrev vU:Stmt:=io 31
abbrev zZ:Stmt:=io 32
abbrev IE:Stmt:=io 34
abbrev qH:Stmt:=io 35
abbrev IG:Stmt:=io 36
abbrev IH:Stmt:=io 37
abbrev II:Stmt:=io 38
abbrev IJ:Stmt:=io 39
abbrev IL:Stmt:=io 40
abbrev qI:Stmt:=io 41
abbrev qJ:Stmt:=io 42
abbrev z6:Stmt:=io 43
abbrev z7:Stmt:=io 44
abbrev z8:Stmt:=io 45
abbrev vV:Stmt:=io 46
abbrev z9:Stmt:=io 47
abbrev oW:Stmt:=io 48
abbrev IM:Stmt:=io 49
abbrev AA:Stmt:=io 50
abbrev iG:Stmt:=io 51
structure Txt(mg:Ò):Prop where
 oX:mg "isinstance" = none
 IP:mg "tuple" = none
 IQ:mg "str" = none
 m4:mg "int" = none
 vW:mg "bool" = none
 gR:mg "list" = none
 vX:mg "dict" = none
 qK:mg "set" = none
 enum:mg "enumerate" = none
 zip:mg "zip" = none
 len:mg "len" = none
 range:mg "range" = none
 sorted:mg "sorted" = none
 max:mg "max" = none
 all:mg "all" = none
 IT:mg "ValueError" = none
 anyB:mg "any" = none
open Nt bD
variable{n:Nat}
theorem r9(h:n<=100000):n<=sizeLine:=by rw[FJ];omega
theorem bI(h:n<=100000):n<sizeLine:=by rw[FJ];omega
variable{H:Hp}
def aM{p:Addr}(h:H p=none)(o:HO):ah H (upd H p o):=λb u q=>by rwa[au<|bh q h]
def cX{a c:Hp}{r:Addr}{o:HO}(s:ah a c)(h:a r=none):ah a (upd c r o):=λb u q=>by
 rw[au<|bh q h];exact s _ _ q
variable{zs:Ñ}
def IU{l:Addr}{y:Str}:upd H l (.lst<|zs.map V.str++[V.str y])=upd H l (Ls<|zs++[y]):=by
 show _=upd H l (.lst<|(zs++[y]).map V.str);rw[Aj];rfl
def AB(K:aa):Sp:=λb H Q _=>∃(a:Addr)(c:List Int)(k:Int),b=[.ref a,.int k]/\aj K H a (c.map V.int)/\0<=k/\∀i,Q (.int i) H
def IY(K:aa):Sp:=λc H Q _=>∃(a:Addr)(d:List Int)(k:Int),c=[.ref a,.int k]/\aj K H a (d.map V.int)/\0<=k/\∀i b,ah H b->Q (.int i) b
def IZ:Sp:=λc H Q _=>∃b m,c=[.int b,.int m]/\0<=m/\m<=36/\∀l a,ah H a->H l=none->a l=some (Ls<|namesOf b m.toNat)->Q (.ref l) a
def AF:Sp:=λb H Q _=>∃R as n,b=[.ref R]/\al H R as n/\n.length<=1000/\(ag n).length<=1000/\∀d c a,ah H a->H d=none->bR a d n c->Q (.ref d) a
def Ja:Sp:=λa H Q _=>∃R d t as n b e,a=[.ref R,.ref d,.ref t]/\al H R as n/\bR H d n b/\aw n/\H t=some (Tp e)/\e∈ends n/\∀u,H u=some (Tp<|other n e)->Q (.ref u) H
def Jb:Sp:=λb H Q _=>∃R d t as n c e,b=[.ref R,.ref d,.ref t,.int 1]/\al H R as n/\bR H d n c/\aw n/\H t=some (Tp e)/\e∈ends n/\∀u a,ah H a->H u=none->a u=some (Tp<|step n e)->Q (.ref u) a
def Jc:Sp:=λf H Q _=>∃R d t as n h e,f=[.ref R,.ref d,.ref t]/\al H R as n/\bR H d n h/\aw n/\H t=some (Tp e)/\e∈ends n/\(ends n).length<=1000 /\
 ∀l b c a,ah H a->H l=none->a l=some (.lst<|b.map V.ref)->Pd a b c->fY n e c->Q (.ref l) a
variable{Z:Heap}{mg:Ò}{K:aa}{ns:List Int}{fd:FuncData}{f:Addr}{i:Int}{Y:List (Key×V)}
section
variable{P:Program}{w:World}
def Sk:ak ["_law_script","_law_k"] ["_law_script","_law_k"] (aP IE):=bZ
theorem pM{k:Int}(b:0<=k)(c:k<(ns.length:Int)):∃v:Int,fG (ns.map V.int) k=some (.int v):=by
 have a:k.toNat<ns.length:=(by omega)
 have q:=oH (xs:=ns.map V.int) (j:=k.toNat) (v:= .int ns[k.toNat]) (by simp[a]);rw[show((k.toNat:Nat):Int)=k by omega]at q;exact⟨_,q⟩
def wh(F:bo K "_law_cell_at" "_law_cell_at" IE f fd)(T:Txt mg):aD P w K mg Z bz 1 f fd ["_law_script","_law_k"] (AB K):=by
 refine F.gc Sk λj H l Q E m h=>?_;obtain⟨a,ns,k,rfl,b,e,q⟩:=h;refine fP<|cH Py<|ae 1<|bP dH T.len DR<|ai<|ae 0<|ax ⟨a,_,rfl,.inl b,_,_,rfl,rfl,_,rfl,?_⟩;refine iq (λc=>?_) λc=>?_
 ·have d:=BX c;obtain⟨v,i⟩:=pM (ns:=ns) e (by rw[Aa]at d;exact d);exact bQ<|bb cL<|ae 0<|ae 1 ⟨a,_,_,.int v,rfl,rfl,b,i,q v⟩
 ·exact a7<|bQ<|aE<|q 0
abbrev qL:List V:=[.int 48271,.int 69621,.int 16807,.int 39373,.int 21401,.int 60493,.int 87721,.int 31337]
abbrev gS:List V:=[.int 99991,.int 99989,.int 99971,.int 99961,.int 99929,.int 99923,.int 99907,.int 99901]
def xb(a:0<=i)(b:i<8):i=0\/i=1\/i=2\/i=3\/i=4\/i=5\/i=6\/i=7:=by
 obtain⟨k,rfl⟩:=TF a;exact(by decide:∀k:Fin 8,(k.1:Int)=0\/(k.1:Int)=1\/(k.1:Int)=2\/(k.1:Int)=3\/(k.1:Int)=4\/(k.1:Int)=5\/(k.1:Int)=6\/(k.1:Int)=7) ⟨k,Int.ofNat_lt.mp b⟩
def EN(a:0<=i)(b:i<8):∃m:Int,fG qL i=some (.int m)/\0<m/\m<100000:=by
 obtain rfl|rfl|rfl|rfl|rfl|rfl|rfl|rfl:=xb a b<;>exact⟨_,rfl,(by decide),(by decide)⟩
def kQ(a:0<=i)(b:i<8):∃m:Int,fG gS i=some (.int m)/\0<m/\m<100000:=by
 obtain rfl|rfl|rfl|rfl|rfl|rfl|rfl|rfl:=xb a b<;>exact⟨_,rfl,(by decide),(by decide)⟩
def oY:ak ["_law_script","_law_at","_law_by","_law_prime","_law_cell","_law_big_here","_law_k","_law_one"] ["_law_script","_law_at"] (aP qH):=bZ
theorem ix(F:bo K "_law_big" "_law_big" qH f fd)(T:Txt mg)(G:aQ P w K mg Z 1 "_law_cell_at" ["_law_script","_law_k"]<|AB K):
  aD P w K mg Z bz 2 f fd ["_law_script","_law_at"] (IY K):=by
 refine F.gc oY λL H M Q E s h=>?_;obtain⟨a,ns,k,rfl,t,C,q⟩:=h;have nd:=oY.nd;refine aT 2 nd (fv<|ai<|aE<|ai<|aE<|ai<|aE<|ai<|aE<|ai<|aE<|ai<|aE<|ai<|aE<|ai<|aE<|ax ⟨(by show 8<=sizeLine;decide),λp D=>?_⟩);refine aT 3 nd (fv<|ai<|aE<|ai<|aE<|ai<|aE<|ai<|aE<|ai<|aE<|ai<|aE<|ai<|aE<|ai<|aE<|ax ⟨(by show 8<=sizeLine;decide),λd l=>?_⟩);have m:p≠d:=by
  intro e;rw[<-e,av]at l;cases l
 have I:ah H (upd H p<|.tup qL):=aM D _;have j:ah H (upd (upd H p<|.tup qL) d<|.tup gS):=I.trans<|aM l _;have y:(upd (upd H p<|.tup qL) d<|.tup gS) p=some (.tup qL):=by rw[au m,av]
 have A:(upd (upd H p<|.tup qL) d<|.tup gS) d=some (.tup gS):=av;generalize upd (upd H p<|.tup qL) d (.tup gS)=J at j y A ⊢;refine aT 4 nd<|bG G s<|ai<|ae 0<|ai<|ae 1<|ax ⟨a,ns,k,rfl,j.seq t,C,λb=>?_⟩;refine vq True True (λR B=>?_) (λ_=>?_) λ_=>a7 ?_
 ·refine mQ (zg<|cH jl<|aU cJ<|ae 4<|aE ⟨_,_,rfl,rfl,(by show(0:Int)<2;decide),aE ⟨rfl,_,rfl,?_⟩⟩);refine iq (λc=>?_) (λc=>B false (λz=>nomatch z) λ_=>trivial);exact zh<|cH Y3<|ae 4<|aU EG<|aE<|aE ⟨_,_,rfl,rfl,⟨(by decide),(by decide),(by decide)⟩,_,_,rfl,rfl,_,rfl,B _ (λ_=>trivial) λ_=>trivial⟩
 ·exact bQ<|aU iY<|ae 4<|aE ⟨_,_,rfl,rfl,⟨(by decide),(by decide)⟩,q _ _ j⟩
 refine aT 5 nd<|aE ?_;refine ke T.range<|aE ⟨60,rfl,(by decide),(by decide),kg (n:=60) (λ_ o r=>r=J/\∃(x:Int)(u v:Option V),o=[(some (.ref a)),some<|.int k,(some (.ref p)),(some (.ref d)),some<|.int b,some<|.int x,u,v]) ⟨rfl,0,_,_,rfl⟩ ?_ ?_⟩
 ·rintro i o r N ⟨rfl,x,u,v,rfl⟩;have O:0<=(0+(i:Int))%9:=Bs _ (by decide);obtain⟨U,f1,g1,g2⟩:=EN (i:=(0+(i:Int))%8) (Bs _<|(by decide)) (Ce _<|(by decide));obtain⟨Y,f2,g3,g4⟩:=kQ (i:=(0+(i:Int))%8) (Bs _<|(by decide)) (Ce _<|(by decide));refine a8 6 nd ?_;refine aT 7 nd<|aU fj<|aU fj<|aU cJ<|bG G s<|ai<|ae 0<|ai<|aU fj<|ae 1<|aU cJ<|ae 6<|aE ?_;refine⟨_,_,rfl,rfl,(by show(0:Int)<9;decide),_,_,rfl,rfl,ax ⟨a,ns,_,rfl,j.seq t,?_,λc=>?_⟩⟩
  ·show 0<=k+(0+(i:Int))%9;omega
  refine aU EG (aE<|aE ⟨_,_,rfl,rfl,⟨(by decide),(by decide),(by decide)⟩,_,_,rfl,rfl,(by show(0:Int)<10 ^ (18:Int).toNat;decide),aE ⟨_,_,rfl,rfl,?_⟩⟩);refine aU yQ<|ae 6<|ae 6 ?_;refine⟨_,_,rfl,rfl,.inl ⟨(by omega),(by omega)⟩,_,_,rfl,rfl,?_⟩;refine aT 5 nd (aU fj<|aU yQ<|ae 5<|aE ⟨_,_,rfl,rfl,.inr ⟨(by decide),(by decide)⟩,?_⟩);refine aU cJ (aU cJ<|aU yQ<|ae 7<|bb cv<|ae 2<|aU cJ<|ae 6<|aE ⟨_,_,rfl,rfl,(by show(0:Int)<8;decide),p,_,_,_,rfl,rfl,aS.of y,f1,_,_,rfl,rfl,.inr ⟨(by omega),(by omega)⟩,?_⟩);refine bb cv (ae 3<|aU cJ<|ae 6<|aE ⟨_,_,rfl,rfl,(by show(0:Int)<8;decide),d,_,_,_,rfl,rfl,aS.of A,f2,_,_,rfl,rfl,g3,aE ⟨_,_,rfl,rfl,(by show(0:Int)<7919;decide),_,_,rfl,rfl,?_⟩⟩);exact a7 ⟨rfl,_,_,_,rfl⟩
 ·rintro o r ⟨rfl,x,u,v,rfl⟩;exact bQ<|ae 5<|q x _ j
abbrev NN:Ñ:=["_law_stem","_law_many","_law_signs","_law_size","_law_spot","_law_names_here","_law_v","_law_name","_law_k","_law_turn"]
def i7:ak NN ["_law_stem","_law_many"] (aP IG):=bZ
theorem Lm(F:bo K "_law_names" "_law_names" IG f fd)(T:Txt mg):aD P w K mg Z bz 1 f fd ["_law_stem","_law_many"] IZ:=by
 refine F.gc i7 λA H B Q E C h=>?_;obtain⟨b,m,rfl,D,G,q⟩:=h;have nd:=i7.nd;have I:0<=b%8:=Bs _ (by decide);have J:b%8<8:=Ce _ (by decide);refine aT 2 nd<|vj ?_;refine aT 3 nd (aU fj<|aE<|aU cJ<|ae 0<|aE ⟨_,_,rfl,rfl,(by show(0:Int)<8;decide),_,_,rfl,rfl,?_⟩);refine aT 4 nd (aU cJ<|aU iY<|ae 0<|aE ⟨_,_,rfl,rfl,⟨(by decide),(by decide)⟩,ae 3 ⟨_,_,rfl,rfl,(by show 0<1+b%8;omega),?_⟩⟩);refine aT 5 nd<|dS<|ax ⟨Z0,λl x=>?_⟩;have z:b/8%(1+b%8)=b/8%(1+b%8):=rfl;refine ke T.range<|ae 1 ⟨m,rfl,(by omega),(by omega),kg (n:=m.toNat) (λi d s=>s=upd H l (Ls<|namesOf b i)/\∃t u k o,d=[some<|.int b,some<|.int m,some<|.str lm,some<|.int<|1+b%8,some<|.int<|b/8%(1+b%8),(some (.ref l)),t,u,k,o]) ⟨rfl,_,_,_,_,rfl⟩ ?_ ?_⟩
 ·rintro i d s L ⟨rfl,t,u,k,o,rfl⟩;refine a8 6 nd ?_;refine aT 7 nd<|vj ?_;refine ke T.range<|ae 3 ⟨_,rfl,(by omega),(by omega),kg (n:=(1+b%8).toNat) (λj d v=>v=upd H l (Ls<|namesOf b i)/\∃(k o:Option V),d=[some<|.int b,some<|.int m,some<|.str lm,some<|.int<|1+b%8,some<|.int<|b/8%(1+b%8),(some (.ref l)),some<|.int<|0+(i:Int),some<|.str<|nm b (b/8%(1+b%8)) i j,k,o]) ⟨rfl,_,_,rfl⟩ ?_ ?_⟩
  ·rintro j d v M ⟨rfl,y,v4,rfl⟩;have N:0<=b/7%5:=Bs _ (by decide);have O:b/7%5<5:=Ce _ (by decide);have nl:(nm b (b/8%(1+b%8)) i j).length=j:=by
    have:=BZ List.length<|zO b (b/8%(1+b%8)) i j;show(nm b (b/8%(1+b%8)) i j).cps.size=j
    simpa using this
   refine a8 8 nd ?_;refine aT 9 nd (aU fj<|aU iY<|ae 0<|aE ⟨_,_,rfl,rfl,⟨(by decide),(by decide)⟩,aU yQ<|ae 8<|aU cJ<|aU iY<|ae 0<|aE ⟨_,_,rfl,rfl,⟨(by decide),(by decide)⟩,aE ⟨_,_,rfl,rfl,(by show(0:Int)<5;decide),?_⟩⟩⟩);refine⟨_,_,rfl,rfl,.inr ⟨(by omega),(by omega)⟩,_,_,rfl,rfl,?_⟩;refine Ii ((0+(j:Int))=b/8%(1+b%8)) (¬(0+(j:Int))=b/8%(1+b%8)) (λc p=>p=upd H l (Ls<|namesOf b i)/\c=[some<|.int b,some<|.int m,some<|.str lm,some<|.int<|1+b%8,some<|.int<|b/8%(1+b%8),(some (.ref l)),some<|.int<|0+(i:Int),some<|.str<|nm b (b/8%(1+b%8)) i j,some<|.int<|0+(j:Int),some<|.int<|turn b (b/8%(1+b%8)) i j]) (λR r=>?_) (λa=>?_) (λa=>a7 ⟨rfl,?_⟩) ?_
   ·refine cH jl<|ae 8<|ae 4 ⟨rfl,_,rfl,?_⟩
    by_cases a:(0+(j:Int))=b/8%(1+b%8)
    ·rw[BW (show V.int (0+(j:Int))=V.int (b/8%(1+b%8)) by rw[a])];exact r true (λ_=>a) λh=>by cases h
    ·rw[BR λh=>a<|V.int.inj h];exact r false (λh=>by cases h) λ_=>a
   ·refine aT 9 nd<|aU fj<|ae 9<|ae 6 ⟨_,_,rfl,rfl,a7 ⟨rfl,?_⟩⟩;have e:b/64+(0+(j:Int))*(b/7%5)+(0+(i:Int))=turn b (b/8%(1+b%8)) i j:=by
     unfold turn;rw[BP (by omega),Dw,Dw]
    rw[<-e];rfl
   ·have e:b/64+(0+(j:Int))*(b/7%5)=turn b (b/8%(1+b%8)) i j:=by
     unfold turn;rw[BK (by omega),Dw,Int.add_zero]
    rw[<-e];rfl
   ·rintro c p ⟨rfl,rfl⟩;refine aT 7 nd<|aU Zb<|ae 7<|bb P5<|ae 2<|aU cJ<|ae 9<|aE ⟨_,_,rfl,rfl,(by show(0:Int)<36;decide),lm,_,sgn<|turn b (b/8%(1+b%8)) i j,rfl,rfl,by decide +kernel,Iu _,_,_,rfl,rfl,r9 (by show(nm b (b/8%(1+b%8)) i j).length+1<=100000;omega),a7 ⟨rfl,_,_,rfl⟩⟩
  ·rintro d v ⟨rfl,y,v4,rfl⟩;refine Ii (b%3=2) (¬ b%3=2) (λc p=>p=upd H l (Ls<|namesOf b i)/\c=[some<|.int b,some<|.int m,some<|.str lm,some<|.int<|1+b%8,some<|.int<|b/8%(1+b%8),(some (.ref l)),some<|.int<|0+(i:Int),some<|.str<|aW b i,y,v4]) (λR r=>?_) (λa=>?_) (λa=>a7 ⟨rfl,?_⟩) ?_
   ·refine cH jl<|aU cJ<|ae 0<|aE ⟨_,_,rfl,rfl,(by show(0:Int)<3;decide),aE ⟨rfl,_,rfl,?_⟩⟩
    by_cases a:b%3=2
    ·rw[BW (show V.int (b%3)=V.int 2 by rw[a])];exact r true (λ_=>a) λh=>by cases h
    ·rw[BR λh=>a<|V.int.inj h];exact r false (λh=>by cases h) λ_=>a
   ·have U:0<=(0+(i:Int))%8:=Bs _ (by decide);have Y:(0+(i:Int))%8<8:=Ce _ (by decide);refine aT 7 nd (aU Js<|bb P5<|ae 2<|aU cJ<|aU fj<|aU iY<|ae 0<|aE ⟨_,_,rfl,rfl,⟨(by decide),(by decide)⟩,aU iY<|ae 6<|aE ⟨_,_,rfl,rfl,⟨(by decide),(by decide)⟩,_,_,rfl,rfl,aE ⟨_,_,rfl,rfl,(by show(0:Int)<36;decide),lm,_,sgn<|b/64+(0+(i:Int))/8,rfl,rfl,by decide +kernel,Iu _,?_⟩⟩⟩);refine aU fj (aE<|aU cJ<|ae 6<|aE ⟨_,_,rfl,rfl,(by show(0:Int)<8;decide),_,_,rfl,rfl,?_⟩);refine⟨_,_,rfl,rfl,(by omega),(by omega),?_,a7 ⟨rfl,?_⟩⟩
    ·show 1*_<=_;omega
    ·have e:Txt.mul ⟨#[sgn<|b/64+(0+(i:Int))/8]⟩ (1+(0+(i:Int))%8)=aW b i:=by
      unfold aW;rw[BP a,Dw]
     rw[<-e];rfl
   ·have e:nm b (b/8%(1+b%8)) i (1+b%8).toNat=aW b i:=by
     unfold aW;rw[BK a]
    rw[<-e]
   ·rintro c p ⟨rfl,rfl⟩;refine gq<|jQ<|ae 5 ⟨l,rfl,⟨_,av⟩,ae 7 ⟨_,av,?_,?_⟩⟩
    ·rw[Aa,Iv];exact bI<|(by omega)
    ·rw[pO];refine a7 ⟨?_,_,_,_,_,rfl⟩;rw[zQ];exact IU
 ·rintro d s ⟨rfl,t,u,k,o,rfl⟩;exact bQ<|ae 5<|q l _ (aM x _) x av
def lK{d:Addr}(h:H d=some (.dK Y)):mF K "dict" (.ref d) H:=Or.inr<|Or.inr<|Or.inl ⟨rfl,Or.inl ⟨Y,h⟩⟩
abbrev NS:Ñ:=["_law_rows","_law_seats_here","_law_r","_law_place"]
def i8:ak NS ["_law_rows"] (aP IH):=bZ
theorem Zl(F:bo K "_law_seats" "_law_seats" IH f fd)(T:Txt mg):aD P w K mg Z bz 1 f fd ["_law_rows"] AF:=by
 refine F.gc i8 λb0 H vs Q E hr h=>?_;obtain⟨R,as,n,rfl,B,hn,ht,q⟩:=h;have nd:=i8.nd;have b4:=B.len;refine aT 1 nd<|Im λd hd=>?_;refine ke T.range (bP dH T.len DR<|ai<|ae 0<|ax ⟨R,_,rfl,.inl<|aj.of<|aM hd _ _ _ B.lst,_,rfl,(by omega),by rw[Aa];omega,?_⟩);rw[Aa,b4,Bm];refine kg (λr m J=>∃Y c A O o,bf H J d (bt<|n.take r) Y c A/\m=[(some (.ref R)),(some (.ref d)),O,o]) ⟨_,_,_,_,_,bf.start hd,rfl⟩ ?_ ?_
 ·rintro r m J U ⟨Y,c,i,O,o,S,rfl⟩;rw[Dw];refine a8 2 nd ?_;obtain⟨a,ea,fA,et,el,er⟩:=(B.same S.same).at U;refine ke T.range<|bP dH T.len DR<|ai<|bb cv<|bb cL<|ae 0<|ae 2 ⟨R,_,_,.ref a.1,rfl,rfl,aj.of<|S.same _ _ B.lst,fA,aE ⟨a.1,_,_,.ref a.2,rfl,rfl,aS.of et,rfl,ax ⟨a.2,_,rfl,.inl<|aj.of el,_,rfl,(by omega),?_,?_⟩⟩⟩
  ·have:(row n r).length<=1000:=by
    have L:(row n r).length<=(ag n).length:=by
     exact ju n r
    omega
   rw[Aa];omega
  rw[Aa,Bm];refine kg (λp m H4=>∃Y c A o,bf H H4 d (bt (n.take r)++bJ r ((row n r).take p) 0) Y c A/\m=[(some (.ref R)),(some (.ref d)),some<|.int (r:Int),o]) ⟨Y,c,i,_,by simpa[bJ]using S,rfl⟩ ?_ ?_
  ·rintro p m H4 hp ⟨Y,c,i,o,S,rfl⟩;rw[Dw];refine a8 3 nd ?_;obtain⟨a,ea,fA,et,el,er⟩:=(B.same S.same).at U;have hz:(row n r)[p]?=some (row n r)[p]:=Ab hp;generalize (row n r)[p]=z at hz;have next:bt (n.take r)++bJ r ((row n r).take<|p+1) 0=(bt (n.take r)++bJ r ((row n r).take p) 0)++[(z,(r,p))]:=by
    rw[qC hz,Au]
   have D:Y.length<sizeLine:=by
    have L:c.length<=1000:=by
     refine By (aI (b:=ag n) S.nodup λy hy=>?_) ht;have G:=(S.mem y).mp hy;cases j:i y with
     |none=>rw[j]at G;cases G
     |some pr=>
      obtain⟨k,I⟩:=pr;have h3:=S.some' y k I j;unfold b8 at h3;obtain⟨x,hx⟩:=Es _ h3;obtain⟨⟨y2,e2⟩,l,_⟩:=Ai.mp hx;rw[Bg,DN]at l;obtain⟨l,rfl⟩:=l;have:(y2,e2)∈bt n:=by
       obtain l|l:=An.mp l
       ·have s:=aY.mp l;refine aY.mpr ?_;have q2:=cS s;unfold aJ row at s ⊢;rw[Bh]at q2;rwa[Ee<|(by omega)]at s
       ·have s:=b7.mp l;refine aY.mpr ?_;unfold aJ;rw[s.1];have C:=s.2.2;rw[SM]at C;have q4:=(Ac.mp C).1;rw[Bh]at q4;rwa[Ee<|(by omega)]at C
      exact eG<|aY.mp this
    have G:=BZ List.length S.keys;rw[Aa,Aa]at G;exact bI<|(by omega)
   refine gq<|jQ<|zG PySem.F.plainAttrs_dict PySem.F.slot_dict_setdefault PySem.F.type_dict_setdefault OP<|ae 1 ⟨lK S.dict,bb cL<|bb cv<|bb cL<|ae 0<|ae 2 ⟨R,_,_,.ref a.1,rfl,rfl,aj.of<|S.same _ _ B.lst,fA,aE ⟨a.1,_,_,.ref a.2,rfl,rfl,aS.of et,rfl,ae 3 ⟨a.2,_,_,.str z,rfl,rfl,aj.of el,zK hz,?_⟩⟩⟩⟩;refine dS<|ax ⟨Z0,λu M=>?_⟩;have N:d≠u:=bh S.dict M;refine⟨d,Y,Sum.inr z,.ref u,rfl,rfl,by rw[au N];exact S.dict,D,?_⟩;cases j:i z with
   |some pr=>
    obtain⟨k,I⟩:=pr;obtain⟨s,q2,C,q4⟩:=S.at' z k I j;have zM:k≠u:=bh C M;refine .inl ⟨.ref k,by rw[S.val z,j];rfl,k,rfl,⟨_,by rwa[au zM]⟩,?_⟩;refine fv<|ai<|ae 2<|ai<|ae 3<|ax ⟨Z2,λt v=>?_⟩;have zN:k≠t:=λe=>by rw[<-e,au zM,C]at v;cases v
    refine⟨I.map V.ref,by rwa[au zN,au zM],?_,?_⟩
    ·rw[Aa,q4.length];have L:(b8 (bt (n.take r)++bJ r ((row n r).take p) 0) z).length<=100000:=by
      unfold b8;rw[Aa];refine By (Cp _ _) ?_;rw[Ad];have G:(bt<|n.take r).length<=1000:=by
       have:=BZ List.length<|lZ (n.take r) 0;rw[Aa]at this;unfold bt;rw[this];exact By (R5 n r) ht
      have h3:(bJ r ((row n r).take p) 0).length<=1000:=by
       unfold bJ;rw[Aa,List.length_zipIdx,Bh];have L:(row n r).length<=(ag n).length:=by
        exact ju n r
       omega
      omega
     exact bI L
    ·refine a7 ⟨Y,c,(λy=>if y=z then some (k,I++[t])else i y),_,?_,rfl⟩;rw[next];exact S.old (e:=(r,p)) j M v
   |none=>
    refine .inr ⟨by rw[S.val z,j];rfl,u,rfl,⟨_,by rw[au N.symm];exact av⟩,?_⟩;refine fv<|ai<|ae 2<|ai<|ae 3<|ax ⟨Z2,λt v=>?_⟩;have l7:u≠t:=λe=>by rw[<-e,au N.symm,av]at v;cases v
    refine⟨[],by rw[au l7,au N.symm,av],by show 0<sizeLine;decide,?_⟩;refine a7 ⟨putK Y (Sum.inr z)<|.ref u,c++[z],(λy=>if y=z then some (u,[t])else i y),_,?_,rfl⟩;rw[next];exact S.new (e:=(r,p)) j M v
  ·rintro m H4 ⟨Y,c,i,o,S,rfl⟩;refine a7 ⟨Y,c,i,_,_,?_,rfl⟩;rw[tJ U];rwa[Br]at S
 ·rintro m J ⟨Y,c,i,O,o,S,rfl⟩;rw[Br]at S;exact bQ<|ae 1<|q d c J S.same S.free S.whole
abbrev NO:Ñ:=["_law_rows","_law_seats_here","_law_end","_law_pair"]
def ja:ak NO ["_law_rows","_law_seats_here","_law_end"] (aP II):=bZ
set_option tactic.hygienic true in
theorem gv(F:bo K "_law_other" "_law_other" II f fd)(T:Txt mg):aD P w K mg Z bz 1 f fd ["_law_rows","_law_seats_here","_law_end"] Ja:=by
 refine F.gc ja λU H vs Q E s h=>?_;obtain⟨R,d,t,as,n,ks,e,rfl,u,v,A,m,B,q⟩:=h;have nd:=ja.nd;have C:=s.fQ;obtain⟨z,b⟩:=af.mp B;have D:=cS b;obtain⟨a,ea,G,I,J,er⟩:=u.at D;obtain⟨Y,L,h2,M⟩:=v.dict;obtain⟨l,ts,v1,o,i⟩:=M z<|eG b;obtain⟨x,y,p,Sh,zD⟩:=qB A b;rw[p]at i;cases i with
 |cons N i=>
 cases i with
 |cons y1 i=>
 cases i;rename_i j ty;have O:=s.u1;refine aT 3 nd<|eU O<|ae 1<|bb cL<|bb cv<|bb cL<|ae 0<|bb cv<|ae 2<|aE ⟨t,_,_,.int (e.1:Int),rfl,rfl,aS.of m,rfl,R,_,_,.ref a.1,rfl,rfl,aj.of u.lst,G,aE ⟨a.1,_,_,.ref a.2,rfl,rfl,aS.of I,rfl,?_⟩⟩;refine bb cv (ae 2<|aE ⟨t,_,_,.int (e.2:Int),rfl,rfl,aS.of m,rfl,a.2,_,_,.str z,rfl,rfl,aj.of J,zK b,d,.ref l,rfl,by rw[<-v1];exact aX.k (k:=Sum.inr z) L,?_⟩);refine bQ<|bb cL<|ae 3<|mP Il T.m4 JZ<|ai<|hG (vO C)<|bb cL<|ae 3<|aE ⟨l,_,_,.ref j,rfl,rfl,aj.of o,rfl,ae 2 ⟨1,_,(by decide),SA N m,?_⟩⟩
 by_cases c:x=e
 ·rw[BW c];refine ax ⟨_,rfl,l,[.ref j,.ref ty],1,.ref ty,rfl,rfl,aj.of o,rfl,q ty ?_⟩;have r:other n e=y:=by unfold other;simp only[b,p];simp[c]
  rwa[r]
 ·rw[BR c];refine ax ⟨_,rfl,l,[.ref j,.ref ty],0,.ref j,rfl,rfl,aj.of o,rfl,q j ?_⟩;have r:other n e=x:=by unfold other;simp only[b,p];simp[c]
  rwa[r]
abbrev NT:Ñ:=["_law_rows","_law_seats_here","_law_end","_law_turn","_law_other_here"]
def kA:ak NT ["_law_rows","_law_seats_here","_law_end","_law_turn"] (aP IJ):=bZ
theorem vr(F:bo K "_law_step" "_law_step" IJ f fd)(T:Txt mg)(G:aQ P w K mg Z 1 "_law_other" ["_law_rows","_law_seats_here","_law_end"] Ja):
  aD P w K mg Z bz 2 f fd ["_law_rows","_law_seats_here","_law_end","_law_turn"] Jb:=by
 refine F.gc kA λC H D Q E m h=>?_;obtain⟨R,d,t,as,n,o,e,rfl,b,r,i,s,j,q⟩:=h;have nd:=kA.nd;have v:=dD i j;obtain⟨z,k⟩:=af.mp v;have x:=cS k;have I:=iE k;obtain⟨a,J,y,A,B,L⟩:=b.at x;refine aT 4 nd<|bG G m<|ai<|ae 0<|ai<|ae 1<|ai<|ae 2<|ax ⟨R,d,t,as,n,o,e,rfl,b,r,i,s,j,λu c=>?_⟩;refine bQ<|fv<|ai<|bb cv<|ae 4<|aE ⟨u,_,_,.int ((other n e).1:Int),rfl,rfl,aS.of c,rfl,?_⟩;refine ai<|aU cJ<|aU fj<|bb cv<|ae 4<|aE ⟨u,_,_,.int ((other n e).2:Int),rfl,rfl,aS.of c,rfl,ae 3 ⟨_,_,rfl,rfl,?_⟩⟩;refine bP dH T.len DR<|ai<|bb cv<|bb cL<|ae 0<|bb cv<|ae 4<|aE ⟨u,_,_,.int ((other n e).1:Int),rfl,rfl,aS.of c,rfl,R,_,_,.ref a.1,rfl,rfl,aj.of b.lst,y,aE ⟨a.1,_,_,.ref a.2,rfl,rfl,aS.of A,rfl,ax ⟨a.2,_,rfl,.inl<|aj.of B,?_⟩⟩⟩;rw[Aa];refine⟨_,_,rfl,rfl,(by omega),ax ⟨Z2,λp l=>?_⟩⟩;refine q p _ (aM l _) l ?_;rw[av];unfold Nt.step Nt.left;show some (HO.tup [.int ((other n e).1:Int),.int<|(((other n e).2:Int)+1)%((row n (other n e).1).length:Int)])=some (HO.tup [.int ((other n e).1:Int),.int ((((other n e).2+1)%(row n (other n e).1).length:Nat):Int)]);rw[Int.natCast_emod];rfl
abbrev NF:Ñ:=["_law_rows","_law_seats_here","_law_end","_law_face_here","_law_here"]
def kC:ak NF ["_law_rows","_law_seats_here","_law_end"] (aP IL):=bZ
def gM(n:fo)(e:Nt.ff)(j:Nat):List Nt.ff:=(range j).map λi=>it (step n) i e
def YO(n:fo)(e:Nt.ff)(j:Nat):gM n e (j+1)=gM n e j++[it (step n) j e]:=by
 unfold gM;rw[Dc,Aj];rfl
theorem UV(F:bo K "_law_face" "_law_face" IL f fd)(T:Txt mg)(G:aQ P w K mg Z 2 "_law_step" ["_law_rows","_law_seats_here","_law_end","_law_turn"] Jb):
  aD P w K mg Z bz 3 f fd ["_law_rows","_law_seats_here","_law_end"] Jc:=by
 refine F.gc kC λb0 H vs Q E B h=>?_;obtain⟨R,d,t,as,n,U,e,rfl,Y,hS,r,C,D,hb,q⟩:=h;have nd:=kC.nd;have hu:=B.fQ;obtain⟨k,k0,k1,k2⟩:=Ip (f:=step n) (S:=ends n) (λa s=>tI r s) (λa s b hb=>R3 r s hb) D;refine aT 3 nd<|dS<|ai<|ae 2<|ax ⟨Z1,λl I=>?_⟩;have g1:=aM I<|.lst [.ref t];refine aT 4 nd<|bG G B<|ai<|ae 0<|ai<|ae 1<|ai<|ae 2<|ai<|aE<|ax ⟨R,d,t,as,n,U,e,rfl,Y.same g1,hS.same g1,r,g1 _ _ C,D,λu H1 J nu x=>?_⟩;refine vP (λm σ o=>∃(j:Nat)(p:List Addr)(u:Addr),m=k-j/\0<j/\j<=k/\ah H o/\o l=some (.lst<|p.map V.ref)/\Pd o p (gM n e j)/\o u=some (Tp<|it (step n) j e)/\(∀i,0<i->i<j->it (step n) i e≠e)/\σ=[(some (.ref R)),(some (.ref d)),(some (.ref t)),(some (.ref l)),(some (.ref u))])
  (m0:=k-1) ⟨1,[t],u,rfl,Fr,k0,g1.trans J,J _ _ av,.cons (J _ _<|g1 _ _ C) .nil,x,λi y L=>(by omega),rfl⟩ ?_
 rintro m σ o ⟨j,p,u,rfl,j0,j1,M,z,N,x,hf,rfl⟩;refine cH (qw hu) (ae 4<|ae 2 ⟨1,_,(by decide),rb x<|M _ _ C,_,rfl,?_⟩);have pl:=N.length;have ol:(gM n e j).length=j:=by unfold gM;simp
 by_cases c:it (step n) j e=e
 ·rw[BW c];refine bH (bQ<|ae 3<|q l p (gM n e j) o M I z N ⟨(by omega),(by omega),λi hi=>?_,by rwa[ol],λi y L=>hf i y<|(by omega)⟩);unfold gM;rw[Ah,Ek<|(by omega)];rfl
 ·rw[BR c];have jk:j<k:=by
   obtain h|h:=Dr j k
   ·exact h
   ·have:j=k:=(by omega)
    subst this;exact absurd k2 c
  refine cz (gq<|jQ<|ae 3 ⟨l,rfl,⟨_,z⟩,ae 4 ⟨_,z,by rw[Aa];exact bI (by omega),?_⟩⟩);have O:ah H (upd o l<|.lst<|p.map V.ref++[.ref u]):=cX M I;have kt:∀b f,o b=some (Tp f)->(upd o l<|.lst<|p.map V.ref++[.ref u]) b=some (Tp f):=λb f h=>by
   rwa[au<|vQ h z]
  have Si:=kt u _ x;refine aT 4 nd<|bG G B<|ai<|ae 0<|ai<|ae 1<|ai<|ae 4<|ai<|aE<|ax ⟨R,d,u,as,n,U,it (step n) j e,rfl,Y.same O,hS.same O,r,Si,kz (λa s=>tI r s) D j,λv H3 A nv ev=>?_⟩;refine a7 ⟨k-(j+1),(by omega),j+1,p++[u],v,rfl,Gd _,jk,O.trans A,?_,?_,ev,λi y L=>?_,rfl⟩
  ·rw[Aj];exact A _ _ av
  ·rw[YO];exact(N.keep λb f h=>A _ _<|kt b f h).append<|.cons (A _ _ Si) .nil
  ·obtain h|h:=Nat.lt_succ_iff_lt_or_eq.mp L
   ·exact hf i y h
   ·rwa[h]
end
end Q1
namespace Nt
open PySem L2
def Full(n:fo):Prop:=(∃nm,n=[(nm,[])])\/(n≠[]/\∀i,i<n.length->row n i≠[])
def fB(n:fo)(c:ff):Prop:=c.1<n.length/\c.2<max 1 (row n c.1).length
def ins(n:fo)(c:ff)(z:Str):fo:=n.modify c.1 λr=>(r.1,r.2.take c.2++z :: r.2.drop c.2)
def ib(n:fo)(c:ff)(z:Str):(ins n c z).length=n.length:=by unfold ins;rw[List.length_modify]
theorem Jd(n:fo)(c:ff)(z:Str):(ins n c z).map (·.1)=n.map (·.1):=by
 unfold ins;refine Dv λi=>?_;rw[Ah,Ah,Fs];cases n[i]? with
 |none=>rfl
 |some r=>by_cases h:c.1=i<;>simp[h]
def tK(n:fo)(c:ff)(z:Str)(i:Nat)(a:c.1<n.length):row (ins n c z) i=if c.1=i then(row n i).take c.2++z :: (row n i).drop c.2 else row n i:=by
 unfold row ins;rw[Fs]
 by_cases h:c.1=i
 ·subst h;rw[Ab a];simp
 ·rw[BK h];cases n[i]? with
  |none=>simp[h]
  |some r=>simp[h]
theorem l':∀n c z,c.1<n.length->(ag<|ins n c z).Perm (z :: ag n)
 |[],c,z,h=>by simp at h
 |a :: n,(0,p),z,h=>by
  unfold ins ag;simp only[List.modify_zero_cons,Cm];have:(a.2.take p++z :: a.2.drop p).Perm (z :: a.2):=by
   refine List.perm_middle.trans ?_;rw[Db]
  exact this.append_right _
 |a :: n,(i+1,p),z,h=>by
  have b:=l' n (i,p) z (by simpa using h);unfold ins ag at b ⊢;simp only[List.modify_succ_cons,Cm];refine(b.append_left a.2).trans ?_;exact List.perm_middle
variable{z:Str}{c:ff}{n:fo}
theorem Je(F:Full n)(b:c.1<n.length):n.length=1\/(∀i,i<n.length->row n i≠[])->(∀i,i<(ins n c z).length->row (ins n c z) i≠[])/\ins n c z≠[]:=by
 intro h;have a:=ib n c z;refine⟨λi d=>?_,λe=>?_⟩
 ·rw[tK n c z i b]
  by_cases q:c.1=i
  ·rw[BP q];simp
  ·rw[BK q]
   obtain h|h:=h
   ·rw[a]at d;omega
   ·exact h i<|(by omega)
 ·rw[e]at a;simp at a;omega
def Full.some(F:Full n):n≠[]:=by
 obtain⟨nm,rfl⟩|h:=F
 ·simp
 ·exact h.1
def Full.either(F:Full n):n.length=1\/(∀i,i<n.length->row n i≠[]):=by
 obtain⟨nm,rfl⟩|h:=F
 ·exact .inl rfl
 ·exact .inr h.2
theorem Full.cT(F:Full n)(b:row n 0≠[])(a:fB n c):c∈ends n:=by
 obtain⟨nm,rfl⟩|h:=F
 ·exact absurd rfl b
 ·have:=h.2 c.1 a.1;have e:0<(row n c.1).length:=Du.mpr this;have d:c.2<(row n c.1).length:=by
   have:=a.2;omega
  exact af.mpr<|zJ d
theorem xX{e:ff}(h:e∈ends n):fB n e:=by
 obtain⟨z,h⟩:=af.mp h;have:=iE h;exact⟨cS h,(by omega)⟩
def qM(H H':Hp)(bad:List Addr):Prop:=∀b o,H b=some o->b∉bad->H' b=some o
def Sj(zs:Ñ)(i:Nat)(z:Str):insertAt (zs.map V.str) i (.str z)=(zs.take i++z :: zs.drop i).map V.str:=by
 unfold insertAt;rw[Aj,Bn,Hc,He]
theorem al.ins{H:Hp}{R:Addr}{as:Ï}{n:fo}(h:al H R as n){c:ff}{z:Str}{a:Addr×Addr}(m:as[c.1]?=some a)(j:c.1<n.length):
  al (upd H a.2<|Ls<|(row n c.1).take c.2++z :: (row n c.1).drop c.2) R as (Nt.ins n c z):=by
 have s:=h.tup c.1 a n[c.1] m<|Ab j;have p:R≠a.2:=by
  intro e;have t:=h.lst;rw[e,s.2]at t;have f:=HO.lst.inj<|Option.some.inj t;have L:=BZ List.length f;cases u:n[c.1].2 with
  |nil=>
   rw[u]at f;have:as.map (λa=>V.ref a.1)=[]:=f.symm;have v:=BZ List.length this;rw[Aa,h.len]at v;rw[v]at j;exact absurd j<|Eh _
  |cons y r=>
   rw[u]at f;cases as with
   |nil=>simp at f
   |cons b M=>
    simp at f
 have x:row n c.1=n[c.1].2:=by unfold row;rw[Ab j];rfl
 refine⟨by rw[ib];exact h.len,by rw[au p];exact h.lst,λi b r k d=>?_,h.inj⟩;unfold Nt.ins at d;rw[Fs]at d;cases l:n[i]? with
 |none=>rw[l]at d;by_cases q:c.1=i<;>simp[q]at d
 |some A=>
  rw[l]at d;have o:=h.tup i b A k l;have w:b.1≠a.2:=bV o.1 s.2 λe=>nomatch e
  by_cases q:c.1=i
  ·subst q;rw[Ab j]at l;cases l;rw[m]at k;cases k;simp at d;subst d;refine⟨by rw[au w];exact o.1,?_⟩;rw[av,x]
  ·simp[q]at d;subst d;have B:b.2≠a.2:=λe=>by
    have N:i<as.length:=(Ac.mp k).1;have O:c.1<as.length:=(Ac.mp m).1;have C:(as.map (·.2))[i]?=some b.2:=by rw[Ah,k];rfl
    have D:(as.map (·.2))[c.1]?=some a.2:=by rw[Ah,m];rfl
    obtain⟨E,G⟩:=Ac.mp C;obtain⟨I,J⟩:=Ac.mp D;exact q<|(Gj (h₀:=I) (h₁:=E) h.inj).mp<|J.trans<|e.symm.trans G.symm
   exact⟨by rw[au w];exact o.1,by rw[au B];exact o.2⟩
variable{zs:Ñ}{as:Ï}{R:Addr}{H:Hp}
theorem al.more{t l:Addr}{pt:Str}(h:al H R as n)(u:H t=some (.tup [.str pt,.ref l]))(B:H l=some (Ls zs))(v:l∉as.map (·.2))(w:l≠R):
  al (upd H R<|.lst<|as.map (λa=>V.ref a.1)++[.ref t]) R (as++[(t,l)]) (n++[(pt,zs)]):=by
 have m:=h.len;refine⟨by rw[Ad,Ad,m];rfl,by rw[av,Aj];rfl,λi b r d f=>?_,?_⟩
 ·obtain c|c:=Dr i as.length
  ·rw[Aq c]at d;rw[Aq<|(by omega)]at f;have q:=h.tup i b r d f;have k:=bV q.1 h.lst λe=>nomatch e;have z:b.2≠R:=by
    intro e;have o:=h.lst;rw[<-e,q.2]at o;have j:=HO.lst.inj<|Option.some.inj o;cases as with
    |nil=>simp at c
    |cons C D=>
     cases p:r.2 with
     |nil=>rw[p]at j;simp at j
     |cons y r=>rw[p]at j;simp at j
   exact⟨by rw[au k];exact q.1,by rw[au z];exact q.2⟩
  ·have e:i=as.length:=by
    have:=(Ac.mp d).1;rw[Ad]at this;simp at this;omega
   subst e;rw[Ba<|Am _]at d;rw[m,Ba<|Am _]at f;simp at d f;subst d f;have k:=bV u h.lst λe=>nomatch e;exact⟨by rwa[au k],by rwa[au w]⟩
 ·rw[Aj,Cj];exact⟨h.inj,by simp,λx A y s e=>by simp at s;subst s e;exact v A⟩
variable{x:Addr×Addr}
theorem al.lists(h:al H R as n)(a:x∈as):∃zs,H x.2=some (Ls zs):=by
 obtain⟨i,b,e⟩:=Co.mp a;have c:=h.len;exact⟨_,(h.tup i x (n[i]'(by omega)) (by rw[<-e];exact Ab b)<|Ab<|(by omega)).2⟩
def al.fresh{l:Addr}(h:al H R as n)(a:H l=none)(b:x∈as):l≠x.2:=by
 obtain⟨zs,e⟩:=h.lists b;exact(bh e a).symm
def jv(n:fo):(ends n).length=(ag n).length:=by
 unfold ends bt;rw[Aa,<-lZ n 0,Aa]
def fY.ends{n:fo}(T:aw n){e:ff}{b:List ff}(h:fY n e b)(f:e∈ends n):∀c∈b,c∈Nt.ends n:=by
 intro c j;obtain⟨i,d,k⟩:=Co.mp j;have:=h.at' i d;rw[Ab d,k]at this;rw[Option.some.inj this];exact kz (λa l=>tI T l) f i
theorem AG{k:ff}(a:fB n c)(b:k.1<n.length):fB (ins n k z) c:=by
 refine⟨by rw[ib];exact a.1,?_⟩;rw[tK n k z c.1 b];have:=a.2
 split
 ·rw[Ad,As,Bh,Dd];omega
 ·exact this
def dbl(zs:Ñ):Ñ:=zs.flatMap λz=>[z,z]
theorem Jf(y:Str):∀zs:Ñ,(dbl zs).count y=2*zs.count y
 |[]=>rfl
 |z :: r=>by
  unfold dbl;rw[Cm];have a:=Jf y r;unfold dbl at a;rw[Fm,a,Dq,Dq,Dq,List.count_nil];omega
theorem jb{y:Str}:y∈dbl zs↔y∈zs:=by
 rw[<-Ed,Jf,<-Ed];omega
theorem Jg:∀zs:Ñ,(dbl zs).length=2*zs.length
 |[]=>rfl
 |z :: r=>by
  unfold dbl;rw[Cm,Ad];have a:=Jg r;unfold dbl at a;rw[a,As];simp;omega
def dy(zs:Ñ)(z:Str):dbl (zs++[z])=dbl zs++[z,z]:=by
 unfold dbl;rw[Dj];rfl
def Sl(a:zs.Nodup)(p:(ag n).Perm<|dbl zs):aw n:=λz b=>by
 rw[p.count_eq,Jf];have c:=jb.mp<|p.mem_iff.mp b;rw[a.count,BP c]
def NE(n:fo):Prop:=∀r∈n,r.2≠[]
def ic{i:Nat}(h:i<n.length):row n i=n[i].2:=by unfold row;rw[Ab h];rfl
def vl(h:NE n)(b:n≠[]):Full n:= .inr ⟨b,λi a=>by rw[ic a];exact h _<|Bp a⟩
def Full.ne(h:Full n):(∃nm,n=[(nm,[])])\/NE n:=by
 obtain h|⟨_,h⟩:=h
 ·exact .inl h
 ·refine .inr λr b=>?_;obtain⟨i,a,rfl⟩:=Co.mp b;have:=h i a;rwa[ic a]at this
theorem Sn:∀n k h,(ag n).Perm<|n[k].2++ag (n.eraseIdx k)
 |[],k,h=>by simp at h
 |a :: n,0,h=>by unfold ag;simp
 |a :: n,k+1,h=>by
  have b:=Sn n k (by simpa using h);unfold ag at b ⊢;simp only[Cm,List.getElem_cons_succ,SX];refine(b.append_left a.2).trans ?_;rw[<-Au,<-Au];exact List.perm_append_comm.append_right _
def pU(n:fo)(k:Nat)(h:k<n.length):(n.map (·.1)).Perm (n[k].1 :: (n.eraseIdx k).map (·.1)):=by
 have:=(bK.bM n k h).map (·.1);exact this.symm
def Jh(zs:Ñ)(i:Nat):(zs.drop i++zs.take i).Perm zs:=by
 refine Ci.trans ?_;rw[Db]
def al.upd{H:Hp}{R x:Addr}{as:Ï}{n:fo}(h:al H R as n){xs:List V}{o:HO}(c:H x=some (.lst xs))(d:R≠x)(f:∀a∈as,a.2≠x):al (upd H x o) R as n:=by
 refine⟨h.len,by rw[au d];exact h.lst,λi a r b j=>?_,h.inj⟩;have q:=h.tup i a r b j;exact⟨by rw[au<|bV q.1 c λe=>nomatch e];exact q.1,by rw[au<|f a<|At b];exact q.2⟩
def Ji{α:Type}(l:List α)(k i:Nat):(l.eraseIdx k)[i]?=if i<k then l[i]? else l[i+1]?:=by
 rw[Ge]
def al.erase(h:al H R as n){k:Nat}(p:k<n.length):
  al (L2.upd H R<|.lst<|(as.map λa=>V.ref a.1).eraseIdx k) R (as.eraseIdx k) (n.eraseIdx k):=by
 have l:=h.len;refine⟨by rw[Dg,Dg,l],?_,λi a r d f=>?_,?_⟩
 ·rw[av]
  congr 2
  refine Dv λi=>?_;rw[Ji,Ah,Ah,Ah,Ji]
  split<;>rfl
 ·rw[Ji]at d f;have q:H a.1=some (.tup [.str r.1,.ref a.2])/\H a.2=some (Ls r.2):=by
   by_cases c:i<k
   ·rw[BP c]at d f;exact h.tup i a r d f
   ·rw[BK c]at d f;exact h.tup (i+1) a r d f
  have s:a.2≠R:=by
   intro e;have m:=h.lst;rw[<-e,q.2]at m;have j:=HO.lst.inj<|Option.some.inj m;cases as with
   |nil=>simp at l;simp[<-l]at p
   |cons b t=>
    cases o:r.2 with
    |nil=>rw[o]at j;simp at j
    |cons y r=>rw[o]at j;simp at j
  exact⟨by rw[au<|bV q.1 h.lst λe=>nomatch e];exact q.1,by rw[au s];exact q.2⟩
 ·have:((as.eraseIdx k).map (·.2)).Sublist (as.map (·.2)):=(List.eraseIdx_sublist as k).map _;exact h.inj.sublist this
theorem Nw(zs:Ñ)(i:Nat):dR (zs.map V.str) (some (i:Int)) none=(zs.drop i).map V.str:=by
 unfold dR;rw[HT.eF,HT.c7,Aa];rw[Ck (by rw[Dd,Aa];omega),He]
 obtain h|h:=SN i zs.length
 ·rw[Ex h]
 ·rw[Ep h,Fg (by simp),Fg<|by simpa using h]
def SE(zs:Ñ)(i:Nat):dR (zs.map V.str) none (some (i:Int))=(zs.take i).map V.str:=by
 unfold dR;rw[HT.eF,HT.c7,Aa,List.drop_zero,SM,Hc]
 obtain h|h:=SN i zs.length
 ·rw[Ex h]
 ·rw[Ep h,Ck (by simp),Ck<|by simpa using h]
end Nt
namespace L2
open PySem PySem.Spec PyProof.Rows
variable{H:Hp}{σ:St}{inner:Value->Env->Sem Unit}{u0:Addr->HO}{newAcc:Sem Value}{gs:List Comprehension}{scope:Scope}{ifs:Ô}{tg:Expr}{X:Cx}
def AH{e iter:Expr}{k:Pos}{o0:Obj}{d:TI}{Q:VK}
  (l:∀(Q:Î)(E:Î)(s:Shared),Q (.ref s.heap.objs.size) {s with heap:=s.heap.push o0}->ar X newAcc Q E s) (p:∀(H:Hp)(h:Heap),sysModules<h.objs.size->aB X.U X.w H (h.push o0) h.objs.size (u0 h.objs.size))
  (c:∀acc env,gt e 0 tg iter ifs acc env<|inner acc env) (r:eval e X.env=comprehension e scope X.env k newAcc false (eval iter X.env) none) (t:clausesOf e=⟨tg,iter,ifs,0⟩ :: gs)
  (f:Scope) (N N':Ñ) (n:Nat) (u:PI X tg iter d)
  (h:d σ H λJ i=>∀D,i D=none->∀j C æ ç ex,iy (fO X N' scope j C æ ç ex) tg ifs (inner (.ref D)<|compEnvC scope j C X.env) J (λ_ H'=>Q (.ref D) H') (σ++replicate n none)<|upd i D<|u0 D)
  (w:X.calm=true) (y:X.env.scope=f) (z:X.N=N) (A:mR f scope N N'=true) (B:N'.length=N.length+n) (G:∀x,foldedSetIterable iter X.env x=pure x):Ev X e σ H Q:=by
 refine⟨λO s I=>?_⟩;subst y z;have a:=cA.of A;rw[r];refine LC (use:=none) t G (FR λx L M=>I.ok.has x.1<|a.free x L M) a.kind a.names<|aN (u O s σ H _ I h) λv s1 U=>aN U λoE s2 Y=>?_;obtain⟨it,fp,tn,J,H2,e,I2,T,gm,f2,q⟩:=Y;subst e;refine QO l p (Q:=Q) (RR:=λacc C=>compPost (model X.U X.w) X.A X.xe none (EP X O σ Q) acc C) w a B c I2 T gm f2 q ?_;intro D C H' s' m IX hn c c1 c2 c3 c4 qq;exact⟨m,hn,λh' gy=>⟨.ref D,H',IX.turned (t':=s'.toks) (λb o hb e=>gy.extBut b o hb e) c (CG<|CG c1) (.inr c2) c3 c4,rfl,qq⟩⟩
variable{w:World}{P:Program}
def bq{k:Key}{u:Value}(h:(dM P w).is k u=true):fg (kV k) u:=by
 obtain⟨i,t,rfl,rfl⟩|⟨x,t,rfl,rfl⟩:=lH h<;>exact⟨t,rfl⟩
variable{O:Ð}{Y:List (Key×V)}{d:Addr}{es:Array DictEntry}{o:Obj}{K:aa}
section
variable{s:Shared}
def Sq(I:be X O σ H s)(e:H d=some (.dK Y)):∃o,s.heap.get? d=some o/\be X O σ (upd H d<|.bB o<|.dK Y) s:=by
 obtain⟨z,hd,f,rel,b⟩:=vd I.aF e;obtain⟨o,es,h,a,c⟩:=id b;refine⟨o,a,?_⟩;exact mK I (by rw[e];exact True.intro) ⟨rfl,λ_ _=>rfl⟩ ⟨o,a⟩ (show aB X.U X.w _ s.heap d (.bB o<|.dK Y) from⟨a,z,hd,f,rel,b⟩)
def vY(d:Addr)(o:Obj)(Y:List<|Key×V):It:=
 ⟨λi H=>H d=some (.bB o<|.dK Y)/\i<Y.length,λi H x a=>a=H/\∃p,Y[i]?=some p/\x=kV p.1,λi H=>H d=some (.bB o<|.dK Y)/\Y.length<=i⟩
def Ss{h:Heap}{a:Nat}(f:cg P w H h)(e:H d=some (.bB o<|.dK Y))(hd:o.data=.dict es a):∃vs,KV Y vs/\h.DictAt (dM P w) d vs a:=by
 obtain⟨i,z,_,vs,rel,j⟩:=(show aB P w H h d (.bB o<|.dK Y)from f d _ e);obtain⟨q,k,r,b,l,c,m⟩:=j.dictAt;have:o=k:=Option.some.inj<|i.symm.trans b;subst this;rw[hd]at c
 injection c with n p
 subst n;subst p;exact⟨vs,rel,o,es,b,l,hd,m⟩
theorem Sv(d it:Addr)(o:Obj)(es:Array DictEntry)(ep:Nat)(Y:List<|Key×V)(qN:o.data=.dict es ep):pi P w K tg (vY d o Y) [it] it (λi h=>h.IsKeyIter it d i Y.length ep) where
 mem:=by simp
 obj:=λi h st b hb=>by
  have e:b=it:=by simpa using hb
  subst e;obtain⟨o,e,c,d⟩:=st;exact⟨o,e,λv z=>by rw[d]at z;cases z⟩
 keep:=λi h h' st k=>let ⟨o,ho,r⟩:=st;⟨o,k it (by simp) o ho,r⟩
 item:=by
  intro X hP hw hK hc i O s σ H E I hf st hg;subst hP hw hK;obtain⟨f0,f1,f2,f3,f4,f5⟩:=hf it (by simp);obtain⟨hd,hi⟩:=hg;obtain⟨vs,rel,da⟩:=Ss I.aF hd qN;have hl:=rel.length;have mL:i<vs.length:=(by omega)
  have hx:=Ab mL;rw[hl]at st;refine wpAny_pyNext_dict_item st da hx λkey h' hk dz gy=>?_;have I1:=I.turned (t':=s.toks) (λb o hb e=>gy.extBut b o hb e) f0 f1 f3 f4 f5;obtain⟨o2,e2,c2,d2⟩:=id dz;refine⟨_,rfl,yK e2 c2 d2 (by decide) ⟨kV vs[i].1,H,I1,bq hk,⟨rfl,Y[i],Ab hi,?_⟩,by rw[hl];exact dz,λb hb=>(hf b hb).1⟩⟩;have ek:=rel.keys;have e3:(Y.map (·.1))[i]?=(vs.map (·.1))[i]?:=by rw[ek]
  rw[Ah,Ah,Ab hi,hx]at e3;have e4:Y[i].1=vs[i].1:=Option.some.inj e3;rw[e4]
 done:=by
  intro X hP hw hK hc i O s σ H E I hf st hg;subst hP hw hK;obtain⟨f0,f1,f2,f3,f4,f5⟩:=hf it (by simp);obtain⟨hd,hi⟩:=hg;obtain⟨vs,rel,da⟩:=Ss I.aF hd qN;have hl:=rel.length;rw[hl]at st;exact wpAny_pyNext_dict_end (I.ok.hd hc) st da (by rw[Bd];omega) λh' eb=>⟨rfl,I.turned (λb o hb e=>eb b o hb e) f0 f1 f3 f4 f5⟩
 self:=λ_ _ _ _ _ st h=>wpAny_pyIter_keyiter st h
def AR(b:TE):TI:=λσ H R=>b σ H λx a=>∃d Y,x=.ref d/\a d=some (.dK Y)/\∀o,R (vY d o Y)<|upd a d<|.bB o<|.dK Y
def Sw{l:Expr}{i:TE}(p:PE X l i):PI X tg l (AR i):=by
 intro O s σ H R I h;refine aN (p O s σ H _ I h) λv a⟨x,D,j,c,r⟩=>?_;obtain⟨d,Y,e,k,q⟩:=r;subst e;cases (show v=Value.ref d from c);obtain⟨o,t,f⟩:=Sq j k;obtain⟨z,u,E,rel,w⟩:=vd j.aF k;obtain⟨y,A,es,m,c,n,B⟩:=w.dictAt;have:o=A:=Option.some.inj<|t.symm.trans m;subst this;refine wpAny_pyIter_dict u ⟨o,es,m,c,n,B⟩<|⟨a.heap.objs.size,[a.heap.objs.size],_,_,_,rfl,f.kept λb o e=>Ae _ e,Sv d _ o es y Y n,⟨_,Ao _ rfl,rfl,by rw[rel.length];rfl⟩,λb C=>?_,q o⟩;have e:b=a.heap.objs.size:=by simpa using C
 subst e;exact f.gF (Am _)<|f.aF.fresh<|Am _
end
variable{N' zs:Ñ}{R:St->Hp->Prop}
section
variable{elt:Expr}{A a:Addr}{xs:List V}{after:Hp->Prop}
theorem jS(Pv:Nat->St->Hp->Prop)(k:Pv 0 σ H)(l:∀i c H',i<=xs.length->Pv i c H'->aj X.K H' a xs)
  (n : ∀ i x c H', xs[i]? = some x → Pv i c H' → vw X N' scope tg x c H' λd o => vx X N' scope ifs d o λb f =>
   if b=true then vt X N' scope elt d f λv h=>∃ys,h A=some (.lst ys)/\ys.length<sizeLine/\Pv (i+1) d (upd h A<|.lst<|ys++[v])else Pv (i+1) d f)
  (hd:∀c H',Pv xs.length c H'->after H'):lU X N' scope tg ifs elt (pV X.K a) A after σ H:=by
 refine⟨λi m c H'=>m=xs.length-i/\i<=xs.length/\Pv i c H',⟨_,rfl,Bu _,k⟩,?_⟩;rintro i m c H' ⟨rfl,r,p⟩;have q:=l i c H' r p
 by_cases j:i<xs.length
 ·refine .inr ⟨⟨xs,xs[i],q,by simp[j]⟩,Pv<|i+1,λc H' s=>⟨xs.length-(i+1),(by omega),rfl,j,s⟩,λx t y=>?_⟩;obtain⟨e,y⟩:=y;subst e;exact n i x c _ (y xs q) p
 ·have e:i=xs.length:=(by omega)
  subst e;exact .inl ⟨⟨xs,q,Am _⟩,hd c H' p⟩
theorem Sx(Pv:Nat->St->Hp->Prop)(l:Pv 0 σ H)(n:∀i a H',i<=Y.length->Pv i a H'->H' d=some (.bB o<|.dK Y))
  (r : ∀ i p a H', Y[i]? = some p → Pv i a H' → vw X N' scope tg (kV p.1) a H' λc s => vx X N' scope ifs c s λb h =>
   if b=true then vt X N' scope elt c h λv j=>∃ys,j A=some (.lst ys)/\ys.length<sizeLine/\Pv (i+1) c (upd j A<|.lst<|ys++[v])else Pv (i+1) c h)
  (hd:∀a H',Pv Y.length a H'->after H'):lU X N' scope tg ifs elt (vY d o Y) A after σ H:=by
 refine⟨λi m a H'=>m=Y.length-i/\i<=Y.length/\Pv i a H',⟨_,rfl,Bu _,l⟩,?_⟩;rintro i m a H' ⟨rfl,t,p⟩;have q:=n i a H' t p
 by_cases k:i<Y.length
 ·refine .inr ⟨⟨q,k⟩,Pv<|i+1,λa H' f=>⟨Y.length-(i+1),(by omega),rfl,k,f⟩,λx w y=>?_⟩;obtain⟨e,f,u,y⟩:=y;subst e y;exact r i f a _ u p
 ·have e:i=Y.length:=(by omega)
  subst e;exact .inl ⟨⟨q,Am _⟩,hd a H' p⟩
theorem qO(f:Str->Bool)(t:zs.length<sizeLine)(m:H a=some (.lst<|zs.map V.str))(n:H A=none)
  (o:∀b C æ ç ex v v0 H' R,R (σ++[some v]) H'->Eg (fO X N' scope b C æ ç ex) tg v (σ++[v0]) H' R)
  (p:∀b C æ ç ex z ys T,T (f z) (upd H A<|.lst ys)->Ei (fO X N' scope b C æ ç ex) ifs (σ++[some<|.str z]) (upd H A<|.lst ys) T)
  (r:∀b C æ ç ex z H' R,R (V.str z) H'->Ev (fO X N' scope b C æ ç ex) elt (σ++[some<|.str z]) H' R) (q:after<|upd H A<|.lst<|(zs.filter f).map V.str):
  lU X N' scope tg ifs elt (pV X.K a) A after (σ++replicate 1 none) (upd H A<|.lst []):=by
 have ne:=bh m n;refine jS (xs:=zs.map V.str) (λk c H'=>(∃v,c=σ++[v])/\H'=upd H A (.lst<|((zs.take k).filter f).map V.str)) ⟨⟨none,rfl⟩,by simp⟩ ?_ ?_ ?_
 ·rintro i c H' _ ⟨_,rfl⟩;exact aj.of<|by rwa[au ne]
 ·rintro i x c H' j ⟨⟨v,rfl⟩,rfl⟩;rw[Ah,Ar]at j;obtain⟨z,h,rfl⟩:=j;intro b C æ ç ex;refine o b C æ ç ex _ _ _ _ ?_;intro b C æ ç ex;refine p b C æ ç ex z _ _ ?_;have e:(zs.take<|i+1).filter f=(zs.take i).filter f++(if f z=true then [z]else []):=by
   rw[Bx,h,Ct]
   congr 1
   cases d:f z<;>simp[d]
  have l:((zs.take i).filter f).length<=zs.length:=By (Cp _ _)<|by rw[Bh];omega
  by_cases d:f z=true
  ·rw[BP d];intro b C æ ç ex;refine r b C æ ç ex z _ _ ⟨_,av,by rw[Aa];omega,⟨_,rfl⟩,?_⟩;rw[pO,e,BP d,Aj];rfl
  ·rw[BK d];refine⟨⟨_,rfl⟩,?_⟩;rw[e,BK d,Be]
 ·rintro c H' ⟨_,rfl⟩;have s:zs.take (zs.map V.str).length=zs:=Ck (by simp);rwa[s]
theorem kD(z:Str)(zs:Ñ):j6 (.str z) (zs.map V.str)=zs.contains z:=by
 unfold j6
 induction zs with
 |nil=>rfl
 |cons y r a=>
  rw[Bn,Fj,a,List.contains_cons]
  congr 1
  show cC (.str y) (.str z)=(z == y)
  by_cases h:y=z
  ·subst h;simp[cC]
  ·have b:z≠y:=λq=>h q.symm;show(y == z)=(z == y);rw[beq_eq_false_iff_ne.mpr h,beq_eq_false_iff_ne.mpr b]
def kE(zs:Ñ):(zs.map V.str).all jK=true:=by
 rw[De];intro x a;obtain⟨z,_,rfl⟩:=Ai.mp a;rfl
def jT{e1 e2:Expr}{k:Nat}{pos:Pos}{t:Addr}{x y:V}(c:X.calm=true)(d:aS X.K H t [x,y])(h:Eg X e1 x σ H λa b=>Eg X e2 y a b R)
  (e:(assignEach [e1,e2] X.env).length=2:=by rfl) (f:(assignEach [e1,e2] X.env).findIdx? (·.1)=none:=by rfl)
  (i:(assignEach [e1,e2] X.env).map (·.2)=assign e1 X.env :: (assignEach [e2] X.env).map (·.2):=by rfl) (j:(assignEach [e2] X.env).map (·.2)=assign e2 X.env :: (assignEach [] X.env).map (·.2):=by rfl):
  Eg X (.Tuple [e1,e2] k pos) (.ref t) σ H R:=
 F4 (Ph c (uI qg (uI qg Pg j) i) e f) ⟨t,_,rfl,d,rfl,_,_,rfl,h.mono λa b l=>⟨_,_,rfl,l.mono λm n q=>⟨rfl,q⟩⟩⟩
end
end L2
namespace PySem
variable{Q:Option Value->Shared->Prop}{name:Str}{xs:Array Value}{s:Shared}{E:Î}{A:Around}{w:World}{U:Program}
def mT{a:Addr}{o:Obj}{k:Nat}
  (f:s.heap.get? a=some o) (i:o.cls = .type "list") (j:o.data = .seq xs k) (hd:o.dict=none) (q:typeLookup (.type "list") name=pure none) (r:(["__module__","__name__","__qualname__","__doc__","__annotations__"]:Ñ).contains name=false) (t:A.handled=none)
  (h:∀ h' l e,Heap.NewExcOf s.heap h' e "AttributeError"->Q none {s with heap:=h',toks:=l}) (b:name.length+100<=sizeLine:=by size_fits):
  bc U w A (getAttr? (.ref a) name) Q E s:=by
 obtain⟨c,u,v,x⟩:=o;simp only at i j hd;subst i j hd;obtain⟨y,g,d,l,os⟩:=s;have m:∀n,(⟨y,g,d,n,os⟩:Shared).TypeIs (.ref a) "list":=λ_=>⟨_,f,rfl⟩;have f1:=sub_AttributeError;have z:=F.slot_list_getattribute.lookup;have B:=F.slot_list_getattribute.bind<|.ref a;have C:=am_list_getattr_none;unfold getAttr? getAttrBy? getAttrBy
 repeat (any_goals (first | assumption | exact m _ | ((with_reducible show wpAny _ _ (call (Value.builtin "list.__getattribute__") _ _) _ _ _);refine QB F.slot_list_getattribute (m _) am_entry_list_getattribute (F.args_list_getattribute_2 _ _) (meets_getattribute_miss_list a xs k x name _ q r b) ⟨f,t,λh' n e p=>?_⟩)|wp_step))
 obtain⟨D,G,H⟩:=p.there;show wpAny _ _ (getattributeRaised _ _ _ _ _ _ _) _ _ _;unfold getattributeRaised
 repeat (any_goals (first|assumption|wp_step))
 exact h _ _ _ p.of
namespace F
def bw:entryFor table "dict.update.loop" = some Builtin.«dict.update.loop»:=entryFor_of_tree<|by kernel_rfl
def aO:plainId "dict.update.loop" = true:=by decide +kernel
def fZ:typeLookup (.type "list") "keys" = pure none:=by rw[UL,PJ];kernel_rfl
end F
variable{R:Result->Shared->Prop}{items:Ó}
section
variable{K:Type} [DecidableEq K] {knd:KeyKind U w K}  
def Jj(knd:KeyKind U w K)(h:Heap)(items:Ó)(gS:List<|K×Value):Prop:=
 items.length=gS.length/\∀(j:Nat) it,items[j]?=some it->∃T key k v o n,it=.ref T/\gS[j]?=some (k,v)/\knd.is k key=true/\h.get? T=some o/\o.cls=.type "tuple"/\o.data=.seq #[key,v] n
theorem J8(Y:List<|K×Value)(k:K)(v:Value):(stored Y k v).length<=Y.length+1:=by
 unfold stored
 split
 ·rw[Aa];omega
 ·rw[Ad];simp
theorem M2{hB:Heap}{d I l:Addr}{gS:List (K×Value)}(hd:hB.objs.size<=d)(hI:hB.objs.size<=I)(j:d≠I)(G:hB.IsList l items.toArray)(H:Jj knd hB items gS)(hn:items.length<sizeLine)(hh:A.handled=none):
  ∀(k i:Nat)(s:Shared)(acc:List<|K×Value),items.length-i=k->i<=items.length->(∀b o,hB.get? b=some o->s.heap.get? b=some o)->s.heap.IsListIter I l i->s.heap.DictOf knd d acc->acc.length<=i ->
   (∀h' m,(∀b o,b≠I->b≠d->s.heap.get? b=some o->h'.get? b=some o)->h'.DictOf knd d ((gS.drop i).foldl (λa p=>stored a p.1 p.2) acc)->R (.ok<|.ret .none) {s with heap:=h',toks:=m}) ->
   codeAny (model U w) A (.builtin "dict.update.loop" ⟨[.ref d,.ref I,rawInt i,.none],[]⟩) R s:=by
 have q:∀b o,hB.get? b=some o->b≠I/\b≠d:=λb o e=>⟨Bi<|Bf (Ap e) hI,Bi<|Bf (Ap e) hd⟩;intro k
 induction k with
 |zero=>
  intro i s acc hk hi c t u b4 y;have QH:i=items.length:=(by omega)
  refine FQ F.bw ?_;rw[FN F.aO _];show wpAny _ A.in1 (pyNext (.ref I) >>= _) _ _ s;have z:s.heap.IsList l items.toArray:=let ⟨o,B,r⟩:=G;⟨o,c _ _ B,r⟩
  refine BJ (wpAny_pyNext_list_end hh t z (by simp;omega) λh' J=>?_);show wpAny _ A.in1 (Builtin.Dict.addKeywords d [] >>= _) _ _ _;refine BJ<|BL<|BL ?_;refine y h' s.toks (λb o hb _ e=>J b o hb e) ?_;rw[List.drop_eq_nil_of_le<|by have:=H.1;omega];exact u.extBut J j
 |succ k ih=>
  intro i s acc hk hi c t u b4 y;have L:i<items.length:=(by omega)
  have C:items[i]?=some items[i]:=Ab L;obtain⟨T,key,f,v,o,n,e1,e2,e3,M,e5,e6⟩:=H.2 i _ C;rw[e1]at C;refine FQ F.bw ?_;rw[FN F.aO _];show wpAny _ A.in1 (pyNext (.ref I) >>= _) _ _ s;have z:s.heap.IsList l items.toArray:=let ⟨o,B,r⟩:=G;⟨o,c _ _ B,r⟩
  refine BJ (wpAny_pyNext_list_item t z (x:= .ref T) (by simpa using C) λh' dz D=>?_);have N:h'.get? T=some o:=(D.2 T (q T o M).1).trans<|c _ _ M;refine BJ<|CJ<|BJ<|wpAny_tryCatch ?_;unfold Builtin.Dict.pairItems;refine BJ<|LK (T:= "tuple") ⟨o,N,e5⟩ ?_;rw[BP<|(by decide)];refine BJ<|wpAny_seqItems (s:={s with heap:=h'}) N e6<|BL ?_;show wpAny _ _ (holding [key,v]<|dictSet d key v) _ _ _;refine CJ (wpAny_dictSet_pairs (knd:=knd) (s:={s with heap:=h'}) (k:=f) e3 (u.extBut D.extBut j) (λO D2 Q=>?_)<|(by omega));refine BL ⟨JN F.aO _,?_⟩;have Y:∀b o,b≠I->b≠d->s.heap.get? b=some o->O.get? b=some o:=λb o h E e=>(Q.2 b E).trans<|(D.2 b h).trans e;refine ih (i+1) {s with heap:=O,toks:=s.toks+1} (stored acc f v) (by omega) L (λb o e=>Y b o (q b o e).1 (q b o e).2<|c _ _ e) (dz.extBut Q.extBut<|CG j) D2 (by have:=J8 acc f v;omega) λE m k3 D3=>?_;refine y E m (λb o h oM e=>k3 b o h oM<|Y b o h oM e) ?_;have e7:gS.drop i=(f,v):: gS.drop (i+1):=by
   obtain⟨hj,e8⟩:=Ac.mp e2;rw[RV hj,e8]
  rwa[e7]
def Hh{Q:Î}{l:Addr}{ol:Obj}{nl:Nat}{gS:List (K×Value)}(c:s.heap.get? l=some ol)(f:ol.cls = .type "list")(B:ol.dict=none)(j:ol.data=.seq items.toArray nl)(C:Jj knd s.heap items gS)(D:items.length<sizeLine)(n:A.handled=none)
  (h:∀h' q,(∀b o,s.heap.get? b=some o->h'.get? b=some o)->h'.DictOf knd s.heap.objs.size (gS.foldl (λa p=>stored a p.1 p.2) [])->Q (.ref s.heap.objs.size) {s with heap:=h',toks:=q}):
  bc U w A (call (.type "dict") [.ref l]) Q E s:=by
 refine callType_codes (Q₁:=λobj t=>obj = .ref s.heap.objs.size/\t={s with heap:=s.heap.push {cls:= .type "dict",data:= .dict #[]}}) F.kt_called_dict (F.kt_typeCall_dict_1 _) F.entry_dict_init (kt_code_dict_new _ ⟨rfl,rfl⟩) ?_;rintro obj t ⟨rfl,rfl⟩;have k:(s.heap.push {cls:= .type "dict",data:= .dict #[]}).DictOf knd s.heap.objs.size []:=Heap.DictOf.new s.heap;have u:(s.heap.push {cls:= .type "dict",data:= .dict #[]}).get? l=some ol:=Ae _ c;refine⟨k.typeIs,F.args_dict_init_2 _ _,?_⟩;unfold Builtin.«dict.__init__»;refine BJ ?_;unfold Builtin.Dict.selfAndRest;refine BJ<|wpAny_notOrdered_dict k.typeIs ?_;show wpAny _ _ (pure (s.heap.objs.size,[Value.ref l])) _ _ _;refine BL ?_;show wpAny _ _ (Builtin.Dict.updateFrom "dict.__init__" s.heap.objs.size (.ref l) [] .none) _ _ _;unfold Builtin.Dict.updateFrom;refine BJ<|LK ⟨ol,u,f⟩ ?_;rw[BP<|(by decide)];refine BJ (mT u f j B F.fZ (by decide) (by exact n) λh' q e ne=>?_);rw[BP (show(none:Option Value).isNone=true from rfl)];have i:=λb o e=>ne.keeps b o<|Ae _ e;refine BJ<|GX ?_;have G:h'.IsList l items.toArray:=⟨ol,i _ _ c,f,nl,j⟩;refine BJ<|MK G ?_;refine BL ⟨JN F.aO _,?_⟩;have v:h'.DictOf knd s.heap.objs.size []:=let ⟨o,x,y,c,r⟩:=k;⟨o,x,y,ne.keeps _ _ c,r⟩
 have z:s.heap.objs.size<h'.objs.size:=let ⟨o,x,y,c,r⟩:=v;Ap c
 refine M2 (hB:=s.heap) (d:=s.heap.objs.size) (I:=h'.objs.size) (l:=l) (Am _) (Bz z) (Bi z) ⟨ol,c,f,nl,j⟩ C D (by exact n) _ 0 _ [] rfl (Bu _) (λb o e=>Ae _<|i b o e) ⟨_,Ao _ rfl,rfl,rfl⟩ (v.push _) (Bu _) λH m J L=>?_;refine⟨rfl,h H m (λb o e=>J b o (Bi<|Ap<|i b o e) (Bi<|Ap e)<|Ae _<|i b o e) L⟩
end
end PySem
namespace L2
open PySem PySem.Spec PyProof.Rows
variable{s:Shared}{H:Hp}{σ:St}{O:Ð}{X:Cx}{Y:List (Key×V)}
theorem hY:∀{ps}{acc}{b},KV ps acc->KV Y b->KV (Y.foldl (λa p=>putK a p.1 p.2) ps) (b.foldl (λa p=>stored a p.1 p.2) acc):=by
 induction Y with
 |nil=>intro ps acc b h g;cases g;exact h
 |cons p r c=>
  intro ps acc b h g;cases g with
  | @cons _ q _ j d e=>
   obtain⟨f,i⟩:=d;rw[Dp,Dp];refine c ?_ e;rw[<-f];exact h.put p.1 i
theorem SD{P:Program}{w:World}{h:Heap}:∀{Y:List (Key×V)} {b:List Addr},b.length=Y.length->(∀(j:Nat) t a,b[j]?=some t->Y[j]?=some a->∃ key v o m,(dM P w).is a.1 key=true/\fg a.2 v/\h.get? t=some o/\o.cls = .type "tuple"/\o.data=.seq #[key,v] m) ->
  ∃d:List<|Key×Value,KV Y d/\∀(j:Nat) t,b[j]?=some t->∃key k v o m,d[j]?=some (k,v)/\(dM P w).is k key=true/\h.get? t=some o/\o.cls=.type "tuple"/\o.data=.seq #[key,v] m
 |[],b,c,_=>by
  have:b=[]:=Cd.mp c;subst this;exact⟨[],.nil,λj t h=>by simp at h⟩
 |a :: r,[],c,_=>by simp at c
 |a :: r,t :: b,c,f=>by
  obtain⟨key,v,o,m,l,n,p,q,s⟩:=f 0 t a rfl rfl;obtain⟨d,u,x⟩:=SD (by simpa using c) λj t a y A=>f (j+1) t a (by simpa using y) (by simpa using A);refine⟨(a.1,v):: d,.cons ⟨rfl,n⟩ u,λj B i=>?_⟩;cases j with
  |zero=>
   cases i;exact⟨key,a.1,v,o,m,rfl,l,p,q,s⟩
  |succ j=>
   obtain⟨key,k,v,o,m,e,z⟩:=x j B (by simpa using i);exact⟨key,k,v,o,m,by simpa using e,z⟩
theorem vg(M:X.calm=true):fE X (.type "dict") (λxs H Q=>∃(a:Addr) (b:List Addr) (Y:List<|Key×V),xs=[.ref a]/\H a=some (.lst<|b.map V.ref)/\b.length=Y.length/\b.length<sizeLine/\(∀(j:Nat) t c,b[j]?=some t->Y[j]?=some c->H t=some (.tup [kV c.1,c.2])) /\
  ∀d,H d=none->Q (.ref d) (upd H d<|.dK<|Y.foldl (λa p=>putK a p.1 p.2) [])):=by
 intro O s σ H xs us Q I r h;obtain⟨a,b,Y,rfl,N,T,hz,U,q⟩:=h;obtain⟨u,rfl,y⟩:=kw r;cases (show u=Value.ref a from y);obtain⟨z,A,n,B,e⟩:=(show aB X.U X.w H s.heap a (.lst<|b.map V.ref)from I.aF a _ N);have mW:=B.length;rw[Aa]at mW;have qP:∀(j:Nat)t,b[j]?=some t->A[j]?=some (.ref t):=λj t w=>by
  obtain⟨u,hu,y⟩:=B.get (i:=j) (x:= .ref t) (by rw[Ah,w];rfl);cases (show u=Value.ref t from y);exact hu
 have pair:∀(j:Nat) t c,b[j]?=some t->Y[j]?=some c->∃key v o m,(dM X.U X.w).is c.1 key=true/\fg c.2 v/\s.heap.get? t=some o/\o.cls=.type "tuple"/\o.data=.seq #[key,v] m:=λj t c C E=>by
  obtain⟨z2,eO,hZ,o,eo,co,m,dm⟩:=(show aB X.U X.w H s.heap t (.tup [kV c.1,c.2])from I.aF t _<|U j t c C E);obtain⟨key,v,e3,r1,r2⟩:=hZ.two;refine⟨key,v,o,m,oJ r1,r2,eo,co,?_⟩;rw[dm,e3]
 obtain⟨rs,G,hr⟩:=SD T pair;have oZ:=G.length;have hP:Jj (dM X.U X.w) s.heap A rs:=by
  refine⟨(by omega),λj it w=>?_⟩;have tM:j<b.length:=by have:=(Ac.mp w).1;omega
  have J:b[j]?=some b[j]:=Ab tM;have L:=qP j _ J;rw[w]at L;obtain⟨key,k,v,o,m,q1,q2,q3,q4,q5⟩:=hr j _ J;exact⟨b[j],key,k,v,o,m,Option.some.inj L,q1,q2,q3,q4,q5⟩
 refine Hh (knd:=dM X.U X.w) e rfl rfl rfl hP (by omega) (I.ok.hd M) λh' tk kp D=>?_;have f:∀(l:List<|Key×V)(a:List<|Key×V),(l.foldl (λa p=>putK a p.1 p.2) a).length<=a.length+l.length:=by
  intro l
  induction l with
  |nil=>intro a;exact Am _
  |cons p r ih=>
   intro a;rw[Dp,As];have C:=ih<|putK a p.1 p.2;have E:=jn a p.1 p.2;omega
 have hb:=I.big;refine⟨.ref s.heap.objs.size,_,I.laid (t':=tk) kp (Am _) (show aB X.U X.w _ h' _ (.dK<|Y.foldl (λa p=>putK a p.1 p.2) []) from⟨?_,?_,_,hY (Y:=Y) (ps:=[]) (acc:=[]) .nil G,D⟩),rfl,q _<|I.aF.fresh<|Am _⟩
 ·have:=f Y [];rw[Eu]at this;omega
 ·exact beq_eq_false_iff_ne.mpr<|Cw hb
variable{ch:List Addr}{a:Addr}{tp:Pos}{elts:Ô}{K:aa}{w:World}
section
variable{h':Heap}
def be.bL{t':Nat}(I:be X O σ H s)(d:∀b∈ch,cr X O H b)(k:∀b o,b∉ch->s.heap.get? b=some o->h'.get? b=some o):be X O σ H {s with heap:=h',toks:=t'}:=by
 have f:∀b u,H b=some u->b∉ch:=λb u e z=>by rw[(d b z).1]at e;cases e
 refine I.step (λb h=>?_) (λb o _ _ a e _=>k b o a e) (λb o _ _ a e _=>⟨o.slots,k b o a e⟩) (λ_ _ _ _ n=>n)
  (λb o a e=>⟨o,k b o a e⟩) (λ_ _ e=>e) (λ_ _ _ e=>e) (λb y e=>⟨#[],by rw[e];simp⟩) (λm i=>?_) (λb u e=>?_) I.bare
 ·obtain⟨A,f1,f2,j,l,p⟩:=d b h;exact⟨j,f1,l,p⟩
 ·obtain⟨o,t,w,x,r⟩:=i;exact⟨o,t,w,k _ o (λz=>(d _ z).2.1 rfl) x,r⟩
 ·refine(I.aF b u e).fK (λc v a q=>k c v ?_ q) (λ_ q=>q) λ_ _ q=>q
  obtain z|z:=a
  ·rw[z];exact f b u e
  ·exact f c _ z
def AI(K:aa)(a b:Addr):It:=
  ⟨λi H => ∃c d x y, aj K H a c ∧ aj K H b d ∧ c[i]?=some x ∧ d[i]?=some y,
   λi H v e=>∃T x y,H T=none/\v=.ref T/\e=upd H T (.tup [x,y])/\(∀c,aj K H a c->c[i]?=some x)/\∀d,aj K H b d->d[i]?=some y,
   λi H=>∃c d,aj K H a c/\aj K H b d/\(c.length<=i\/d.length<=i)⟩
def SF(m a b:Addr)(i:Nat)(h:Heap):Prop:=
 IsZip h (m+4) (m+2) (m+3) .none/\IsPair h (m+2) (.ref m) (.ref<|m+1)/\(∃x y,IsPair h (m+3) x y)/\h.IsListIter m a i/\h.IsListIter (m+1) b i
def SG{h:Heap}{m b:Addr}{i:Nat}{xs ys:Array Value}(z:SF m a b i h)(d:h.IsList a xs)(f:h.IsList b ys):ZipApart (m+4) (m+2) (m+3) m (m+1) a b:=by
  obtain⟨j,B,⟨x,y,k⟩,⟨C,n,p,_⟩,⟨D,q,r,_⟩⟩:=z;have cls:∀{l:Addr} {t:Array Value} {c:Addr} {o:Obj},h.IsList l t->h.get? c=some o->o.cls ≠ .type "list"->l≠c:=λu v w e=>by
    obtain⟨ol,s,A,_⟩:=u;rw[e,v]at s;cases s;exact w A
  exact { TIz := by simp, TOz := by simp, i1z := by simp, i2z := by simp, TITO := by simp, TIi1 := by simp, TIi2 := by simp, TOi1 := by simp, TOi2 := by simp, i12 := by simp
          l1z:=cls d j (by show Value.type "zip"≠Value.type "list";decide),l1TO:=cls d k (by show Value.type "tuple"≠Value.type "list";decide),l1i1:=cls d n (by rw[p];decide),l1i2:=cls d q<|by rw[r];decide
          l2z:=cls f j (by show Value.type "zip"≠Value.type "list";decide),l2TO:=cls f k (by show Value.type "tuple"≠Value.type "list";decide),l2i1:=cls f n (by rw[p];decide),l2i2:=cls f q (by rw[r];decide)}
theorem jm{P:Program}{k:Nat}(m a b:Addr):pi P w K (.Tuple elts k tp) (AI K a b) [m,m+1,m+2,m+3,m+4] (m+4) (SF m a b) where
 mem:=by simp
 obj:=λi h st c hc=>by
  obtain⟨z1,z2,⟨x,y,z3⟩,⟨o4,e4,c4,d4⟩,⟨o5,e5,c5,d5⟩⟩:=st;simp only[Al,Ch,FW]at hc
  obtain rfl|rfl|rfl|rfl|rfl:=hc
  ·exact⟨_,e4,λv z=>by rw[d4]at z;cases z⟩
  ·exact⟨_,e5,λv z=>by rw[d5]at z;cases z⟩
  ·exact⟨_,z2,λv z=>by cases z⟩
  ·exact⟨_,z3,λv z=>by cases z⟩
  ·exact⟨_,z1,λv z=>by cases z⟩
 keep:=λi h h' st kp=>by
  obtain⟨z1,z2,⟨x,y,z3⟩,⟨o4,e4,r4⟩,⟨o5,e5,r5⟩⟩:=st;exact⟨kp _ (by simp) _ z1,kp _ (by simp) _ z2,⟨x,y,kp _ (by simp) _ z3⟩,⟨o4,kp _ (by simp) _ e4,r4⟩,⟨o5,kp _ (by simp) _ e5,r5⟩⟩
 item:=by
  intro X hP hw hK hc i O s σ H E I hf st hg;subst hP hw hK;obtain⟨xs,ys,x,y,fC,v9,hx,hy⟩:=hg;obtain⟨kG,m7,p1,qR⟩:=I.list fC;obtain⟨eO,hZ,p2,AJ⟩:=I.list v9;obtain⟨u1,cj,Jm⟩:=m7.get hx;obtain⟨u2,Jn,ru2⟩:=hZ.get hy;have D:=SG st p1.isList p2.isList;obtain⟨z1,z2,⟨x0,y0,z3⟩,z4,z5⟩:=id st;refine wpAny_pyNext_zip_item D z1 z2 z3 z4 z5 p1.isList p2.isList (by simpa using cj) (by simpa using Jn) λh' a1 a2 a3 a4 a5 a6 kp=>?_;have hT:=I.aF.fresh<|Am _;have nT:∀c∈[m,m+1,m+2,m+3,m+4],c≠s.heap.objs.size:=λc bu=>by
   have:∃o,s.heap.get? c=some o:=by
    obtain⟨o4,e4,_⟩:=z4;obtain⟨o5,e5,_⟩:=z5;simp only[Al,Ch,FW]at bu
    obtain rfl|rfl|rfl|rfl|rfl:=bu
    ·exact⟨_,e4⟩
    ·exact⟨_,e5⟩
    ·exact⟨_,z2⟩
    ·exact⟨_,z3⟩
    ·exact⟨_,z1⟩
   obtain⟨o,e⟩:=this;exact Bi<|Ap e
  have I1:be X O σ (upd H s.heap.objs.size<|.tup [x,y]) {s with heap:=s.heap.push {cls:= .type "tuple",data:= .seq #[u1,u2]}}:=
   I.laid (λb o e=>Ae _ e) (Am _) (show aB X.U X.w _ _ _ (.tup [x,y]) from⟨Z2,[u1,u2],.cons Jm<|.cons ru2 .nil,⟨_,Ao _ rfl,rfl,_,rfl⟩⟩)
  have f1:∀ c∈[m,m+1,m+2,m+3,m+4],cr X O (upd H s.heap.objs.size<|.tup [x,y]) c:=λc bu=>⟨by rw[au<|nT c bu];exact(hf c bu).1,(hf c bu).2⟩;have qu:∀ c o,c∉[m,m+1,m+2,m+3,m+4]->(s.heap.push {cls:= .type "tuple",data:= .seq #[u1,u2]}).get? c=some o->h'.get? c=some o:=λc o bu e=>by
   obtain⟨ec,eo⟩|e':=Gp e
   ·rwa[ec,eo]
   ·simp only[Al,Ch,FW,not_or]at bu;exact kp c o bu.2.2.2.2 bu.2.2.2.1 bu.1 bu.2.1 e'
  have I2:=be.bL (h':=h') (t':=s.toks) I1 f1 qu;refine⟨_,rfl,wpAny_letOwnedTupleGo_zip (s:={s with heap:=h'}) a1 λh2 b1 sb=>?_⟩;have z2':IsPair h' (m+2) (.ref m) (.ref<|m+1):=kp _ _ (by simp) (by simp) (by simp) (by simp) z2;have AK:∀c o,c∉[m+4]->h'.get? c=some o->h2.get? c=some o:=λc o bu e=>(sb.2 c<|by simpa using bu).trans e;have I3:=be.bL (h':=h2) (t':=s.toks) I2 (ch:=[m+4]) (λc bu=>f1 c<|by simp at bu;simp[bu]) AK;refine⟨.ref s.heap.objs.size,_,I3,rfl,⟨_,x,y,hT,rfl,rfl,λzs hz=>by rw[I.cZ hz fC];exact hx,λzs hz=>by rwa[I.cZ hz v9]⟩,?_,λc bu=>(f1 c bu).1⟩;have sx:∀c o,c≠m+4->h'.get? c=some o->h2.get? c=some o:=λc o bu e=>(sb.2 c bu).trans e;obtain⟨o3,e3,r3⟩:=a3;obtain⟨o4,e4,r4⟩:=a4;exact⟨b1,sx _ _ (by simp) z2',⟨u1,u2,sx _ _ (by simp) a2⟩,⟨o3,sx _ _ (by simp) e3,r3⟩,⟨o4,sx _ _ (by simp) e4,r4⟩⟩
 done:=by
  intro X hP hw hK hc i O s σ H E I hf st hg;subst hP hw hK;obtain⟨xs,ys,fC,v9,wa⟩:=hg;obtain⟨kG,m7,p1,qR⟩:=I.list fC;obtain⟨eO,hZ,p2,AJ⟩:=I.list v9;have l1:=m7.length;have l2:=hZ.length;have D:=SG st p1.isList p2.isList;obtain⟨z1,z2,⟨x0,y0,z3⟩,z4,z5⟩:=id st;refine wpAny_pyNext_zip_end (I.ok.hd hc) D z1 z2 z3 z4 z5 p1.isList p2.isList ?_ λh' kp=>⟨rfl,I.bL (t':=s.toks) (ch:=[m,m+1,m+2,m+3,m+4]) hf λc o bu e=>?_⟩
  ·obtain h|h:=wa
   ·exact .inl<|by simp;omega
   ·exact .inr<|by simp;omega
  ·simp only[Al,Ch,FW,not_or]at bu;exact kp c o bu.2.2.2.2 bu.2.2.2.1 bu.1 bu.2.1 e
 self:=λ_ _ _ _ _ st h=>wpAny_pyIter_zip st.1 h
end
def Jo(K:aa)(ta:TA):TI:=λσ H R=>ta σ H λd c=>∃a b,d=[.ref a,.ref b]/\(∃e,aj K c a e)/\(∃f,aj K c b f)/\R (AI K a b) c
theorem SH{k:Nat}{a b:Expr}{ta:TA}{p pos:Pos}(m:Gl X "zip")(n:X.mg "zip" = none)(o:PA X [a,b] ta)(r:starEach [a,b] X.env=[(false,eval a X.env),(false,eval b X.env)]:=by rfl)(i:starEach [b] X.env=[(false,eval b X.env)]:=by rfl):
  PI X (.Tuple elts k tp) (.Call (.Name "zip" p) [a,b] [] pos) (Jo X.K ta):=by
 intro O s σ H R I h;refine Call_ (oD I m n boot_zip<|IV (aN (o pos O s σ H _ I h) λT c⟨U,t,d,w,z⟩=>?_) (by rw[r,i])<|by rw[i];rfl);obtain⟨x,y,e,⟨Y,A⟩,⟨ys,B⟩,q⟩:=z;subst e;obtain⟨u,v,rfl,C,D⟩:=w.two;cases (show u=Value.ref x from C);cases (show v=Value.ref y from D);obtain⟨kG,m7,E,qR⟩:=d.list A;obtain⟨eO,hZ,G,AJ⟩:=d.list B;refine call_zip_2 E.isList G.isList λh' j J L M N a6 Q=>?_;refine wpAny_pyIter_zip j ?_;refine⟨c.heap.objs.size+4,[c.heap.objs.size,c.heap.objs.size+1,c.heap.objs.size+2,c.heap.objs.size+3,c.heap.objs.size+4],_,_,t,rfl,d.kept Q,jm c.heap.objs.size x y,⟨j,J,⟨_,_,L⟩,M,N⟩,λb l=>?_,q⟩;have f:c.heap.objs.size<=b:=by
  simp only[Al,Ch,FW]at l
  obtain rfl|rfl|rfl|rfl|rfl:=l<;>omega
 exact d.gF f<|d.aF.fresh f
def tN(b c d:Expr)(f1:Ô)(e a:Expr)(f2:Ô)(scope:Scope)(pos:Pos)(acc:Value)(env:Env):Sem Unit:=do
 let x <-eval a env
 standAt a.pos
 let x <-foldedSetIterable a env x
 let _ <-runOwn (.compStart (.ListComp b [⟨c,d,f1,0⟩,⟨e,a,f2,0⟩] scope pos) 1 (<-holding [x]<|pyIter x) acc env) env
variable{env:Env}{acc:Value}{scope:Scope}{Q:St->Hp->Prop}{wi:TI}
section
variable{elt t1 i1 t2 i2:Expr}{f1 f2:Ô}{pos:Pos}
def vZ:gt (.ListComp elt [⟨t1,i1,f1,0⟩,⟨t2,i2,f2,0⟩] scope pos) 0 t1 i1 f1 acc env (tN elt t1 i1 f1 t2 i2 f2 scope pos acc env):=⟨rfl,λ_=>rfl,λ_ _ _=>rfl,λ_ _=>rfl,λ_ _ _=>rfl,λ_ _=>rfl,λit=>by
 unfold tN;simp only[bind_assoc,pure_bind];rfl⟩
def OE:gt (.ListComp elt [⟨t1,i1,f1,0⟩,⟨t2,i2,f2,0⟩] scope pos) 1 t2 i2 f2 acc env (ww elt acc env):=⟨rfl,λ_=>rfl,λ_ _ _=>rfl,λ_ _=>rfl,λ_ _ _=>rfl,λ_ _=>rfl,λ_=>rfl⟩
def Ll(b:X.xe=λ_ _=>False)(c:X.calm=true)(d:PI X t2 i2 wi)(h:wi σ H λJ f=>iy X t2 f2 (ww elt acc X.env) J Q σ f)
  (i:∀x,foldedSetIterable i2 X.env x=pure x:=by intro _;rfl):lV X (tN elt t1 i1 f1 t2 i2 f2 scope pos acc X.env) σ H Q:=by
 refine⟨λO s I=>?_⟩;unfold tN;refine BJ<|aN (d O s σ H _ I h) λx t j=>?_;refine BJ<|FP<|BJ<|JG (i x)<|BJ<|CJ<|CT j (λu v k=>?_) λ_ _ e=>e;obtain⟨it,w,y,J,z,e,l,T,m,n,q⟩:=k;subst e;refine BJ<|wpAny_runOwn ?_;exact zj b c OE l T m n q λa o A p r=>BL ⟨a,o,p,r⟩
def q1h{Q:VK}(a:Scope)(N N':Ñ)(n:Nat)(d:PI X t1 i1 wi)
  (h:wi σ H λJ b=>∀D,b D=none->∀c C æ ç ex,iy (fO X N' scope c C æ ç ex) t1 f1 (tN elt t1 i1 f1 t2 i2 f2 scope pos (.ref D)<|compEnvC scope c C X.env) J (λ_ H'=>Q (.ref D) H') (σ++replicate n none)<|upd b D<|.lst [])
  (e:X.calm=true:=by rfl) (f:X.env.scope=a:=by rfl) (i:X.N=N:=by rfl) (j:mR a scope N N'=true:=by decide +kernel) (k:N'.length=N.length+n:=by rfl)
  (l:∀x,foldedSetIterable i1 X.env x=pure x:=by intro _;rfl):Ev X (.ListComp elt [⟨t1,i1,f1,0⟩,⟨t2,i2,f2,0⟩] scope pos) σ H Q:=
 AH (u0:=λ_=> .lst []) (λ_ _ _ h=>CZ h<|by show(0:Nat)<=sizeLine;exact Bu _) (λ_ _ _=>⟨Bu _,[],0,.nil,Ao _ rfl⟩) (λ_ _=>vZ) rfl rfl a N N' n d h e f i j k l
end
variable{E:Î}{A:Around}
section
variable{y v:V}{u r:Value}
theorem SK{H':Hp}{Q:Unit->Shared->Prop}(i:A.units+1<cLine)(I:be X O σ H s)(g:bX H a y v H')(t:fg y u)(w:fg v r)(h:∀s',be X O σ H' s'->Q () s'):
  wpAny (model X.U X.w) A (dictSet a u r) Q E s:=by
 obtain⟨Y,k,e,j,l,m⟩|⟨Y,k,b,e,j,x,l,m⟩:=g
 ·subst j m;obtain⟨z,hd,C,rel,n⟩:=vd I.aF e;have D:C.length<=sizeLine:=by rwa[<-rel.length]
  have o:(putK Y k v).length<=sizeLine:=by have:=jn Y k v;omega
  refine wpAny_dictSet_pairs (oJ t) n λB d p=>h _ ?_;have G:∃q,B.get? a=some q:=let ⟨q,_,_,f,_⟩:=d;⟨q,f⟩
  exact mK I (by rw[e];exact True.intro) p G<|FK o hd (rel.put k w) d
 ·subst j m;cases (show u=Value.ref b from t);obtain⟨z,hd,J,rel,n⟩:=Qj I.aF e;have D:J.length<=sizeLine:=by rwa[<-Paired.length rel]
  have o:(putK Y k v).length<=sizeLine:=by have:=jn Y k v;omega
  have room:(tupleKind<|dM X.U X.w).room A:=by first|exact i|exact Nat.lt_of_succ_lt i|exact QZ (Ef _) i
  refine wpAny_dictSet_heap room (sR I.aF x) n λB d p=>h _ ?_;obtain⟨q,L,M,f,N,T,U,_,h5⟩:=d;refine mK I (by rw[e];exact True.intro) p ⟨q,f⟩ ⟨o,hd,_,(rel.put k x w).keeps λc ys ec=>?_,q,L,M,f,N,T,U,h5⟩;rwa[au<|bV ec e λz=>nomatch z]
end
def m8(k v:Expr)(acc:Value)(env:Env):Sem Unit:=do
 let a <-eval k env
 let b <-holding [a]<|eval v env
 match acc with
 |.ref d=>do
  standAt {k.pos with endLine:=v.pos.endLine,endCol:=v.pos.endCol}
  holding [a,b] (dictSet d a b)
 |_=>unsupported "internal:dictcomp"
def tO(k v b c:Expr)(f1:Ô)(d a:Expr)(f2:Ô)(scope:Scope)(pos:Pos)(acc:Value)(env:Env):Sem Unit:=do
 let x <-eval a env
 standAt a.pos
 let x <-foldedSetIterable a env x
 let _ <-runOwn (.compStart (.DictComp k v [⟨b,c,f1,0⟩,⟨d,a,f2,0⟩] scope pos) 1 (<-holding [x]<|pyIter x) acc env) env
variable{D:Addr}
section
variable{k v t1 i1 t2 i2:Expr}{f1 f2:Ô}{pos:Pos}
def NL:gt (.DictComp k v [⟨t1,i1,f1,0⟩] scope pos) 0 t1 i1 f1 acc env (m8 k v acc env):=⟨rfl,λ_=>rfl,λ_ _ _=>rfl,λ_ _=>rfl,λ_ _ _=>rfl,λ_ _=>rfl,λit=>by
 unfold m8;cases acc<;>first|rfl|(simp only[bind_assoc,pure_bind];rfl)⟩
def tw:gt (.DictComp k v [⟨t1,i1,f1,0⟩,⟨t2,i2,f2,0⟩] scope pos) 0 t1 i1 f1 acc env (tO k v t1 i1 f1 t2 i2 f2 scope pos acc env):=⟨rfl,λ_=>rfl,λ_ _ _=>rfl,λ_ _=>rfl,λ_ _ _=>rfl,λ_ _=>rfl,λit=>by
 unfold tO;simp only[bind_assoc,pure_bind];rfl⟩
def IR:gt (.DictComp k v [⟨t1,i1,f1,0⟩,⟨t2,i2,f2,0⟩] scope pos) 1 t2 i2 f2 acc env (m8 k v acc env):=⟨rfl,λ_=>rfl,λ_ _ _=>rfl,λ_ _=>rfl,λ_ _ _=>rfl,λ_ _=>rfl,λit=>by
 unfold m8;cases acc<;>first|rfl|(simp only[bind_assoc,pure_bind];rfl)⟩
def SL(f:X.A.units+1<cLine)(h:Ev X k σ H λy b=>Ev X v σ b λx c=>∃a,bX c D y x a/\Q σ a):lV X (m8 k v (.ref D) X.env) σ H Q:=by
 refine⟨λO s I=>?_⟩;unfold m8;refine BJ<|aN (h.run O s I) λd i⟨y,b,j,l,m⟩=>?_;refine BJ<|CJ<|aN (m.run O i j) λe t⟨x,c,n,o,a,p,q⟩=>?_;show wpAny _ _ (standAt _ >>= λ_=>holding [d,e]<|dictSet D d e) _ _ _;exact BJ<|FP<|CJ<|SK f n p l o λu r=>⟨σ,a,r,q⟩
def mH(b:X.xe=λ_ _=>False)(c:X.calm=true)(d:PI X t2 i2 wi)(h:wi σ H λJ f=>iy X t2 f2 (m8 k v acc X.env) J Q σ f)
  (i:∀x,foldedSetIterable i2 X.env x=pure x:=by intro _;rfl):lV X (tO k v t1 i1 f1 t2 i2 f2 scope pos acc X.env) σ H Q:=by
 refine⟨λO s I=>?_⟩;unfold tO;refine BJ<|aN (d O s σ H _ I h) λx u j=>?_;refine BJ<|FP<|BJ<|JG (i x)<|BJ<|CJ<|CT j (λw y l=>?_) λ_ _ e=>e;obtain⟨it,z,A,J,B,e,m,T,n,o,q⟩:=l;subst e;refine BJ<|wpAny_runOwn ?_;exact zj b c IR m T n o q λa p C r t=>BL ⟨a,p,r,t⟩
def SR{Q:VK}(a:Scope)(N N':Ñ)(n:Nat)(d:PI X t1 i1 wi)
  (h:wi σ H λJ b=>∀D,b D=none->∀c C æ ç ex,iy (fO X N' scope c C æ ç ex) t1 f1 (m8 k v (.ref D)<|compEnvC scope c C X.env) J (λ_ H'=>Q (.ref D) H') (σ++replicate n none)<|upd b D<|.dT [])
  (e:X.calm=true:=by rfl) (f:X.env.scope=a:=by rfl) (i:X.N=N:=by rfl) (j:mR a scope N N'=true:=by decide +kernel) (l:N'.length=N.length+n:=by rfl)
  (m:∀x,foldedSetIterable i1 X.env x=pure x:=by intro _;rfl):Ev X (.DictComp k v [⟨t1,i1,f1,0⟩] scope pos) σ H Q:=
 AH (λ_ _ _ h=>CZ h) (λ_ h o=>FO h o) (λ_ _=>NL) rfl rfl a N N' n d h e f i j l m
def k54{Q:VK}(a:Scope)(N N':Ñ)(n:Nat)(d:PI X t1 i1 wi)
  (h:wi σ H λJ b=>∀D,b D=none->∀c C æ ç ex,iy (fO X N' scope c C æ ç ex) t1 f1 (tO k v t1 i1 f1 t2 i2 f2 scope pos (.ref D)<|compEnvC scope c C X.env) J (λ_ H'=>Q (.ref D) H') (σ++replicate n none)<|upd b D<|.dT [])
  (e:X.calm=true:=by rfl) (f:X.env.scope=a:=by rfl) (i:X.N=N:=by rfl) (j:mR a scope N N'=true:=by decide +kernel) (l:N'.length=N.length+n:=by rfl)
  (m:∀x,foldedSetIterable i1 X.env x=pure x:=by intro _;rfl):Ev X (.DictComp k v [⟨t1,i1,f1,0⟩,⟨t2,i2,f2,0⟩] scope pos) σ H Q:=
 AH (λ_ _ _ h=>CZ h) (λ_ h o=>FO h o) (λ_ _=>tw) rfl rfl a N N' n d h e f i j l m
end
open bK
variable{zs:Ñ}{U:Program}
def SU{z:Str}{c:Tok}{Q:Î}(S:aA U w s.heap a zs)(d:zs.length+1<1000)
  (h:∀h',Heap.SameBut a s.heap h'->aA U w h' a (added zs z)->Q .none {s with heap:=h',toks:=s.toks+1}):
  bc U w A (call (.builtin "set.add") [.ref a,.str z c]) Q E s:=by
 have e:s.TypeIs (.ref a) "set":=let ⟨o,_,_,_,f,i,_⟩:=S;⟨o,f,i.1⟩
 refine DQ F.slot_set_add e F.entry_set_add ?_<|F.args_set_add_2 _ _;unfold Builtin.«set.add» Builtin.Frozenset.oneOther;simp only[Gk,bind_assoc];unfold Builtin.Frozenset.addrOf setAdd;refine BJ<|BL ?_
 try dsimp only
 refine BJ<|BL ?_
 try dsimp only
 refine BJ<|CJ ?_;refine BJ ((PySem.strKind U w).pyHash (k:=z) (by simp[PySem.strKind,Value.isStrOf]) ?_);refine Hs S d λb h' j l=>?_;show wpAny _ _ (ret Value.none) _ _ _;exact BL ⟨_,rfl,h h' j l⟩
def CB{Q:Î}(k:Q (.ref s.heap.objs.size) {s with heap:=s.heap.push (gO w)}):bc U w A (newSet<|.type "set") Q E s:=by
 unfold newSet;refine BJ<|wp_text ?_
 dsimp only
 simp only[newObj];exact BJ<|QT<|BL k
def we(a:Expr)(acc:Value)(env:Env):Sem Unit:=do let v <- eval a env;standAt a.pos;let _ <- call (.builtin "set.add") [acc,v]
def tP(b c d:Expr)(f1:Ô)(e a:Expr)(f2:Ô)(scope:Scope)(pos:Pos)(acc:Value)(env:Env):Sem Unit:=do
 let x <-eval a env
 standAt a.pos
 let x <-foldedSetIterable a env x
 let _ <-runOwn (.compStart (.SetComp b [⟨c,d,f1,0⟩,⟨e,a,f2,0⟩] scope pos) 1 (<-holding [x]<|pyIter x) acc env) env
section
variable{elt t1 i1 t2 i2:Expr}{f1 f2:Ô}{pos:Pos}
def iv:gt (.SetComp elt [⟨t1,i1,f1,0⟩,⟨t2,i2,f2,0⟩] scope pos) 0 t1 i1 f1 acc env (tP elt t1 i1 f1 t2 i2 f2 scope pos acc env):=⟨rfl,λ_=>rfl,λ_ _ _=>rfl,λ_ _=>rfl,λ_ _ _=>rfl,λ_ _=>rfl,λit=>by
 unfold tP;simp only[bind_assoc,pure_bind];rfl⟩
def P1:gt (.SetComp elt [⟨t1,i1,f1,0⟩,⟨t2,i2,f2,0⟩] scope pos) 1 t2 i2 f2 acc env (we elt acc env):=⟨rfl,λ_=>rfl,λ_ _ _=>rfl,λ_ _=>rfl,λ_ _ _=>rfl,λ_ _=>rfl,λit=>by
 unfold we
 first|rfl|(simp only[bind_assoc,pure_bind];rfl)⟩
def NG(h:Ev X elt σ H λv a=>∃z zs,v=.str z/\a D=some (bj X.U X.w D zs)/\zs.length+1<1000/\Q σ (upd a D<|bj X.U X.w D<|added zs z)):lV X (we elt (.ref D) X.env) σ H Q:=by
 refine⟨λO s I=>?_⟩;unfold we;refine BJ<|aN (h.run O s I) λv l⟨x,a,b,f,z,zs,e,c,i,q⟩=>?_;subst e;obtain⟨m,rfl⟩:=f;refine BJ (FP<|BJ<|SU (b.set c) i λn j d=>BL ⟨σ,_,mK b (by rw[c];exact True.intro) j ?_<|tF d,q⟩);obtain⟨o,_,_,_,k,_⟩:=d;exact⟨o,k⟩
def AM(b:X.xe=λ_ _=>False)(c:X.calm=true)(d:PI X t2 i2 wi)(h:wi σ H λJ f=>iy X t2 f2 (we elt acc X.env) J Q σ f)
  (i:∀x,foldedSetIterable i2 X.env x=pure x:=by intro _;rfl):lV X (tP elt t1 i1 f1 t2 i2 f2 scope pos acc X.env) σ H Q:=by
 refine⟨λO s I=>?_⟩;unfold tP;refine BJ<|aN (d O s σ H _ I h) λx t j=>?_;refine BJ<|FP<|BJ<|JG (i x)<|BJ<|CJ<|CT j (λu v k=>?_) λ_ _ e=>e;obtain⟨it,w,y,J,z,e,l,T,m,n,q⟩:=k;subst e;refine BJ<|wpAny_runOwn ?_;exact zj b c P1 l T m n q λa o A p r=>BL ⟨a,o,p,r⟩
def q0r{Q:VK}(a:Scope)(N N':Ñ)(n:Nat)(d:PI X t1 i1 wi)
  (h:wi σ H λJ b=>∀D,b D=none->∀c C æ ç ex,iy (fO X N' scope c C æ ç ex) t1 f1 (tP elt t1 i1 f1 t2 i2 f2 scope pos (.ref D)<|compEnvC scope c C X.env) J (λ_ H'=>Q (.ref D) H') (σ++replicate n none)<|upd b D<|bj X.U X.w D [])
  (e:X.calm=true:=by rfl) (f:X.env.scope=a:=by rfl) (i:X.N=N:=by rfl) (j:mR a scope N N'=true:=by decide +kernel) (k:N'.length=N.length+n:=by rfl)
  (l:∀x,foldedSetIterable i1 X.env x=pure x:=by intro _;rfl):Ev X (.SetComp elt [⟨t1,i1,f1,0⟩,⟨t2,i2,f2,0⟩] scope pos) σ H Q:=
 AH (λ_ _ _ h=>CB h) (λ_ h _=>tF<|HZ<|Ao _ rfl) (λ_ _=>iv) rfl rfl a N N' n d h e f i j k l
end
end L2
namespace L2
open PySem PySem.Builtin PySem.Builtin.Str
end L2
namespace PySem
def wf(h:Heap)(d:Addr)(a:Array DictEntry)(b:Nat):Prop:=∃o,h.get? d=some o/\o.ExactDict/\o.data=.dict a b
variable{E:Î}{ep:Nat}{es:Array DictEntry}{Q:Option Value->Shared->Prop}{en:DictEntry}
section
variable{P:Program}{w:World}{A:Around}{s:Shared}
def BY(d:Addr)(hd:(d == sysModules)=false):MeetsIn P w (Builtin.«dict.items» ⟨[.ref d],[]⟩) (λ_ R u=>u.TypeIs (.ref d) "dict" /\
  R (.ok<|.ret<|.ref u.heap.objs.size) {u with heap:=u.heap.push {cls:= .type "dict_items",data:= .fields #[.ref d]}}):=by
 refine .of_wp λB R u⟨a,k⟩=>?_;unfold Builtin.«dict.items» Builtin.Dict.noArgs;refine BJ<|BJ<|wpAny_notOrdered_dict a ?_;show wpAny _ _ (pure d) _ _ u;refine BL ?_;show wpAny _ _ (Builtin.Dict.showsAll d >>= _) _ _ u;unfold Builtin.Dict.showsAll;rw[BK<|by rw[hd];exact Ax];exact BJ<|BL<|BJ<|CZ<|BL ⟨_,rfl,k⟩
theorem YU{v d:Addr}{Q:Î}(a:s.heap.IsItemsView v d)(c:wf s.heap d es ep)
  (k:Q (.ref s.heap.objs.size) {s with heap:=s.heap.push {cls:= .type "dict_itemiterator",data:= .fields #[.none,.bool false,.ref d,.int 0 0,.int es.size 0,.int ep 0,.none,.none]}}):
  bc P w A (pyIter<|.ref v) Q E s:=by
 obtain⟨i,e,j,f⟩:=id a;obtain⟨o,f1,f2,b⟩:=c;refine MP a.typeIs F.slot_dict_items_iter<|DQ F.slot_dict_items_iter a.typeIs F.entry_dict_items_iter ?_<|F.args_dict_items_iter_1 _;unfold Builtin.«dict_items.__iter__» Builtin.Dict_items.dictOf Builtin.Dict_items.newIterator;refine BJ<|BL<|BJ<|BJ<|JH e f rfl (BL ?_);refine BJ<|BJ<|RP f1 b<|BJ<|UW f1 b ?_;have h:Builtin.Dict_items.ownsTuple "dict_itemiterator" = true:=(by decide)
 simp only[h,DP];refine CZ (BL ⟨_,rfl,"dict_itemiterator",_,⟨_,Ao _ rfl,rfl⟩,F.slot_dict_itemiterator_next.lookup,?_⟩) ?_
 ·simpa[rawInt,Builtin.Dict_items.ownedTupleFields]using k
 ·simp only[sizeOk,Builtin.Dict_items.ownedTupleFields,Aw,Ad,As,Eu,FJ];omega
theorem bS{it d:Addr}{i:Nat}{y z:Value}(hit:IsItemIter s.heap it d i es.size ep y z)(hm:wf s.heap d es ep)(q:es[i]?=some en)
  (k : ∀ h', IsItemIterOut h' it d (i + 1) es.size ep en.key en.val s.heap.objs.size → h'.get? s.heap.objs.size = some { cls := .type "tuple", data := .seq #[en.key, en.val] } →
   (∀b o,b≠it->s.heap.get? b=some o->h'.get? b=some o)->Q (some<|.ref s.heap.objs.size) {s with heap:=h'}):bc P w A (pyNext<|.ref it) Q E s:=by
 obtain⟨c,g,f,j,os⟩:=s;obtain⟨o,f1,f2,N⟩:=hm;have ty:Shared.TypeIs ⟨c,g,f,j,os⟩ (.ref it) "dict_itemiterator":=⟨_,hit,rfl⟩;have lt:i<es.size:=by
  obtain h|h:=Dr i es.size
  ·exact h
  ·rw[El h]at q;cases q
 have ow:Builtin.Dict_items.ownsTuple "dict_itemiterator" = true:=(by decide)
 unfold pyNext;refine BJ<|JQ<|JM ty HY<|DQ HY ty QJ ?_<|PN _;refine BJ<|BL<|BJ<|BJ ?_
 first|refine BJ (HN ty<|BL ?_)|refine BJ<|JF ty<|BL ?_
 refine BJ<|QM hit rfl ?_;simp only[ow,DP];show wpAny _ _ (if(Value.ref d == Value.none)=true then _ else _) _ _ _;rw[BK (show ¬((Value.ref d == Value.none)=true)from Ax)];refine BJ<|BL<|BJ<|RP f1 N ?_;rw[BK<|by simp];refine BJ<|BL<|BJ<|UW f1 N ?_;rw[BK<|by simp];refine BL ?_;simp only[show ¬((i:Int)<0)from by omega,CV,Bm,q];refine BJ ?_
 first|refine BJ (HN ty<|BL ?_)|refine BJ<|JF ty<|BL ?_
 refine BJ<|NK ty ?_;show wpAny _ _ (setField (.ref it) 3 (rawInt<|(i:Int)+1) >>= _) _ _ ⟨c,g,f,j,os⟩;refine BJ (JT hit (by simp) λa n p=>?_);replace p:Heap.SameBut it c a:=p;replace n:IsItemIter a it d (i+1) es.size ep y z:=by
  have e:((i+1:Nat):Int)=(i:Int)+1:=(by omega)
  unfold IsItemIter;rw[e]
  simpa[rawInt]using n
 have O:Shared.TypeIs ⟨a,g,f,j,os⟩ (.ref it) "dict_itemiterator":=⟨_,n,rfl⟩;refine BJ<|CJ<|BJ<|NK O<|BJ<|NK O ?_;show wpAny _ _ (Builtin.Dict_items.pairFromOwner (.ref it) 6 en.key en.val) _ _ ⟨a,g,f,j,os⟩;unfold Builtin.Dict_items.pairFromOwner Builtin.Dict_items.ownedTupleIsFree;refine BJ<|QS ?_;have l:IsItemIter (a.push {cls:= .type "tuple",data:= .seq #[en.key,en.val]}) it d (i+1) es.size ep y z:=Ae _ n;have T:=p.1;have il:=Ap hit;have U:(a.push {cls:= .type "tuple",data:= .seq #[en.key,en.val]}).get? c.objs.size=some {cls:= .type "tuple",data:= .seq #[en.key,en.val]}:=by rw[<-T];exact Ao _ rfl
 have Y:∀ b u,b≠it->c.get? b=some u->(a.push {cls:= .type "tuple",data:= .seq #[en.key,en.val]}).get? b=some u:=λb u m e=>Ae _<|p.extBut b u m e;rw[T];generalize a.push {cls:= .type "tuple",data:= .seq #[en.key,en.val]}=m at l U Y;refine BJ<|BJ<|JH l rfl rfl (BL ?_);simp only[DP];refine BJ<|JH (s:=⟨m,g,f,j,os⟩) l rfl (x:=y) rfl (BJ<|JH (s:=⟨m,g,f,j,os⟩) l rfl (x:=z) rfl ?_);refine BJ (JT l (by simp) λr t v=>?_);replace v:Heap.SameBut it m r:=v;replace t:IsItemIter r it d (i+1) es.size ep en.key z:=t;refine BJ (JT t (by simp) λB C D=>?_);replace D:Heap.SameBut it r B:=D;replace C:IsItemIter B it d (i+1) es.size ep en.key en.val:=C;refine BJ (JT C (by simp) λG H I=>?_);replace I:Heap.SameBut it B G:=I;replace H:IsItemIterOut G it d (i+1) es.size ep en.key en.val c.objs.size:=H;refine BJ (JT H (by simp) λJ L M=>?_);replace M:Heap.SameBut it G J:=M;replace L:IsItemIterOut J it d (i+1) es.size ep en.key en.val c.objs.size:=L;have all:=((v.trans D).trans I).trans M;exact BJ<|wpAny_letGo<|BL<|BL ⟨_,rfl,BL<|k J L (all.extBut _ _ (Cw il) U) λb u kH e=>all.extBut b u kH<|Y b u kH e⟩
theorem uC{it d:Addr}{i:Nat}{y z:Value}(b:A.handled=none)(hit:IsItemIter s.heap it d i es.size ep y z)(c:wf s.heap d es ep)(e:es.size<=i)
  (k:∀h',Heap.ExtBut it s.heap h'->Q none {s with heap:=h'}):bc P w A (pyNext<|.ref it) Q E s:=by
 obtain⟨o,f1,f2,a⟩:=c;have ty:s.TypeIs (.ref it) "dict_itemiterator":=⟨_,hit,rfl⟩;have f:Builtin.Dict_items.ownsTuple "dict_itemiterator" = true:=(by decide)
 unfold pyNext;refine BJ<|JQ<|JM ty HY<|DQ HY ty QJ ?_<|PN _;refine BJ<|BL<|BJ<|BJ ?_
 first|refine BJ (HN ty<|BL ?_)|refine BJ<|JF ty<|BL ?_
 refine BJ<|QM hit rfl ?_;simp only[f,DP];show wpAny _ _ (if(Value.ref d == Value.none)=true then _ else _) _ _ s;rw[BK (show ¬((Value.ref d == Value.none)=true)from Ax)];refine BJ<|BL<|BJ<|RP f1 a ?_;rw[BK<|by simp];refine BJ<|BL<|BJ<|UW f1 a ?_;rw[BK<|by simp];refine BL ?_;simp only[show ¬((i:Int)<0)from by omega,CV,Bm,El e];refine BJ ?_
 first|refine BJ (HN ty<|BL ?_)|refine BJ<|JF ty<|BL ?_
 show wpAny _ _ (setField (.ref it) 2 .none >>= _) _ _ s;refine BJ (DX hit rfl (by simp) ?_);show wpAny _ _ (newExc (.type "StopIteration") [] >>= _) _ _ _;refine BJ ?_;simp only[newExc,newTuple];refine BJ (CZ ?_<|by size_fits);refine BJ (JG (by first|rfl|(simp only[firstArgMember];rfl)) ?_);refine CZ ?_ (by size_fits);simp only[raiseNew];refine BJ<|wpAny_handled ?_;rw[show A.in1.handled=none from b];refine BJ<|BL<|wpAny_throw ?_;exact BJ<|KH ⟨_,Ao _ rfl,rfl⟩ isSubtype_stop<|BL<|k _<|((CQ ..).extBut.push _).push _
def vF:entryFor table "dict_itemiterator.__iter__" = some Builtin.«dict_keyiterator.__iter__»:=
 QL (id':= "dict_keyiterator.__iter__") (by kernel_rfl) rfl (by decide +kernel) (by kernel_rfl)
def ox{it d:Addr}{i n:Nat}{y z:Value}{Q:Î}(e:IsItemIter s.heap it d i n ep y z)(h:Q (.ref it) s):bc P w A (pyIter<|.ref it) Q E s:=by
 have ty:s.TypeIs (.ref it) "dict_itemiterator":=⟨_,e,rfl⟩;refine MP ty QK<|DQ QK ty vF ?_<|F.args_dict_itemiterator_iter_1 _;show wpAny _ _ (ret<|.ref it) _ _ s;exact BL ⟨_,rfl,"dict_itemiterator",_,ty,F.slot_dict_itemiterator_next.lookup,h⟩
end
end PySem
namespace L2
open PySem PySem.Spec PyProof.Rows
variable{s:Shared}{H:Hp}{σ:St}{O:Ð}{X:Cx}{Y:List (List Key×V)}{d:Addr}{es:Array DictEntry}{o:Obj}{w:World}{P:Program}{tp:Pos}{kk:Nat}{elts:Ô}{K:aa}
def pb(I:be X O σ H s)(e:H d=some (.dT Y)):∃o,s.heap.get? d=some o/\be X O σ (upd H d<|.bB o<|.dT Y) s:=by
 obtain⟨z,hd,c,r,o,es,f,a,h,i,j,k⟩:=(show aB X.U X.w H s.heap d (.dT Y)from I.aF d _ e);refine⟨o,a,?_⟩;have l:KT (upd H d<|.bB o<|.dT Y) Y c:=KT.keeps r λb m q=>by
  rwa[au<|bV q e λz=>nomatch z]
 exact mK I (by rw[e];exact True.intro) ⟨rfl,λ_ _=>rfl⟩ ⟨o,a⟩ (show aB X.U X.w _ s.heap d (.bB o<|.dT Y) from⟨a,z,hd,c,l,o,es,f,a,h,i,j,k⟩)
def zd(d:Addr)(o:Obj)(Y:List<|List Key×V):It:=
  ⟨λi H => H d=some (.bB o<|.dT Y) ∧ i<Y.length,
   λi H v a=>∃T b k x,Y[i]?=some (k,x)/\H b=some (.tup<|k.map kV)/\H T=none/\v=.ref T/\a=upd H T (.tup [.ref b,x]),
   λi H=>H d=some (.bB o<|.dT Y)/\Y.length<=i⟩
def SW{h:Heap}{a:Nat}(f:cg P w H h)(e:H d=some (.bB o<|.dT Y))(hd:o.data=.dict es a):
  wf h d es a/\∃xs,KT H Y xs/\es.toList=xs.map (entryOfKey<|tupleKind<|dM P w):=by
 obtain⟨b,z,_,xs,r,i,p,q,j,k,c,l,s⟩:=(show aB P w H h d (.bB o<|.dT Y)from f d _ e);have:o=i:=Option.some.inj<|b.symm.trans j;subst this;rw[hd]at c
 injection c with m n
 subst m;subst n;exact⟨⟨o,b,k,hd⟩,xs,r,l⟩
theorem kt_len:∀{Y}{xs},KT H Y xs->Y.length=xs.length:=λr=>by
 induction r with
 |nil=>rfl
 |cons _ _ a=>simp only[As,a]
theorem kt_at:∀{Y}{xs},KT H Y xs->∀{i:Nat}{k:List Key}{x:V},Y[i]?=some (k,x)->∃b u,xs[i]?=some (k,b,u)/\H b=some (.tup<|k.map kV)/\fg x u:=λr=>by
 induction r with
 |nil=>intro i k x h;simp at h
 | @cons p q m n e t f=>
  intro i k x h;cases i with
  |zero=>
   simp only[List.getElem?_cons_zero,Option.some.injEq]at h;subst h;obtain⟨a,b,c⟩:=q;obtain⟨d,j,l⟩:=e;have d:=d;subst d;exact⟨b,c,rfl,j,l⟩
  |succ i=>exact f<|by simpa using h
theorem Hb(d it:Addr)(o:Obj)(es:Array DictEntry)(ep:Nat)(Y:List<|List Key×V)(qN:o.data=.dict es ep):
  pi P w K (.Tuple elts kk tp) (zd d o Y) [it] it (λi h=>∃y z,IsItemIter h it d i es.size ep y z) where
 mem:=by simp
 obj:=λi h st b hb=>by
  have e:b=it:=by simpa using hb
  subst e;obtain⟨y,z,e⟩:=st;exact⟨_,e,λv z=>by cases z⟩
 keep:=λi h h' st k=>let ⟨y,z,e⟩:=st;⟨y,z,k it (by simp) _ e⟩
 item:=by
  intro X hP hw hK hc i O s σ H E I hf st hg;subst hP hw hK;obtain⟨f0,f1,f2,f3,f4,f5⟩:=hf it (by simp);obtain⟨hd,hi⟩:=hg;obtain⟨pd,xs,r,qS⟩:=SW I.aF hd qN;obtain⟨y,z,st⟩:=st;have hx:Y[i]?=some (Y[i].1,Y[i].2):=Ab hi;obtain⟨b,u,fC,hb,ru⟩:=kt_at r hx;have tQ:=entry_at qS i;rw[fC]at tQ;refine bS st pd tQ λh' q1 q2 kp=>?_;have hT:=I.aF.fresh<|Am _;have nT:=Bi<|Ap st;have I1:be X O σ (upd H s.heap.objs.size<|.tup [.ref b,Y[i].2]) {s with heap:=s.heap.push {cls:= .type "tuple",data:= .seq #[Value.ref b,u]}}:=
   I.laid (λb o e=>Ae _ e) (Am _) (show aB X.U X.w _ _ _ (.tup [.ref b,Y[i].2]) from⟨Z2,[Value.ref b,u],.cons rfl (.cons ru .nil),⟨_,Ao _ rfl,rfl,_,rfl⟩⟩)
  have fp:∀c∈[it],cr X O (upd H s.heap.objs.size<|.tup [.ref b,Y[i].2]) c:=λc bu=>by
   have e:c=it:=by simpa using bu
   subst e;exact⟨by rwa[au nT],f1,f2,f3,f4,f5⟩
  have I2:=be.bL (t':=s.toks) I1 fp λc v bu e=>by
   have nc:c≠it:=by simpa using bu
   obtain⟨ec,eo⟩|e':=Gp e
   ·rwa[ec,eo]
   ·exact kp c v nc e'
  refine⟨_,rfl,wpAny_letOwnedTupleGo_items (s:={s with heap:=h'}) q1 λh2 b1 sb=>?_⟩;have I3:=be.bL (h':=h2) (t':=s.toks) I2 fp λc v bu e=>(sb.2 c<|by simpa using bu).trans e;exact⟨.ref s.heap.objs.size,_,I3,rfl,⟨_,b,Y[i].1,Y[i].2,hx,hb,hT,rfl,rfl⟩,⟨_,_,b1⟩,λc bu=>(fp c bu).1⟩
 done:=by
  intro X hP hw hK hc i O s σ H E I hf st hg;subst hP hw hK;obtain⟨hd,hi⟩:=hg;obtain⟨pd,xs,r,qS⟩:=SW I.aF hd qN;obtain⟨y,z,st⟩:=st;have hl:es.size=Y.length:=by rw[kt_len r,<-Bv,qS,Aa]
  exact uC (I.ok.hd hc) st pd (by omega) λh' eb=>⟨rfl,I.bL (t':=s.toks) hf λc v bu e=>eb c v (by simpa using bu) e⟩
 self:=λ_ _ _ _ _ st h=>let ⟨y,z,e⟩:=st;ox e h
def EU(b:TE):TI:=λσ H R=>b σ H λx a=>∃d Y,x=.ref d/\a d=some (.dT Y)/\∀o,R (zd d o Y)<|upd a d<|.bB o<|.dT Y
def SY{ap n:Pos}{l:Expr}{p:TE}(w:PE X l p)(y:attributeBase l "items" X.env (eval l X.env)=eval l X.env:=by rfl)(c:(ap.endLine == n.line)=true:=by rfl):
  PI X (.Tuple elts kk tp) (.Call (.Attribute l "items" ap) [] [] n) (EU p):=by
 intro O s σ H R I h;refine wpAny_Call_method0_late y c<|aN (w O s σ H _ I h) λv f ⟨x,z,r,A,B⟩=>?_;obtain⟨d,Y,e,hd,q⟩:=B;subst e;cases (show v=Value.ref d from A);obtain⟨_,j,_,_,o,es,C,i,k,t,_⟩:=(show aB X.U X.w z f.heap d (.dT Y)from r.aF d _ hd);have ty:f.TypeIs (.ref d) "dict":=⟨o,i,k.1⟩;refine⟨"dict","dict.items",F.plainAttrs_dict,F.slot_dict_items,F.type_dict_items,ty,λa D=>?_,JW rfl (PySem.evalArgs_none ?_)⟩
 ·cases D;exact⟨o,i,k.2.1⟩
 refine call_meetsIn F.slot_dict_items ty F.entry_dict_items (F.args_dict_items_1 _) (BY d j) ⟨ty,?_⟩;obtain⟨E,G,J⟩:=pb r hd;have:o=E:=Option.some.inj<|i.symm.trans G;subst this;have m:=J.kept (t':=f.toks) (h':=f.heap.push {cls:= .type "dict_items",data:= .fields #[.ref d]}) λb u e=>Ae _ e;refine YU ⟨_,Ao _ rfl,rfl,rfl⟩ ⟨o,Ae _ i,k,t⟩ ?_;refine⟨_,[(f.heap.push {cls:= .type "dict_items",data:= .fields #[.ref d]}).objs.size],_,_,_,rfl,m.kept λb u e=>Ae _ e,Hb d _ o es C Y t,⟨_,_,Ao _ rfl⟩,λb L=>?_,q o⟩;have e:b=(f.heap.push {cls:= .type "dict_items",data:= .fields #[.ref d]}).objs.size:=by simpa using L
 subst e;exact m.gF (Am _)<|m.aF.fresh<|Am _
variable{inner:Sem Unit}{ifs:Ô}
section
variable{tg:Expr}{after:St->Hp->Prop}
theorem CC(Pv:Nat->St->Hp->Prop)(l:Pv 0 σ H)(n:∀i a H',i<=Y.length->Pv i a H'->H' d=some (.bB o<|.dT Y))
  (r:∀i k x b T a H',Y[i]?=some (k,x)->Pv i a H'->H' b=some (.tup<|k.map kV)->H' T=none->Eg X tg (.ref T) a (upd H' T<|.tup [.ref b,x]) λf s=>Ei X ifs f s λc h=>if c=true then lV X inner f h (Pv<|i+1)else Pv (i+1) f h)
  (hd:∀a H',Pv Y.length a H'->after a H'):iy X tg ifs inner (zd d o Y) after σ H:=by
 refine⟨λi m a H'=>m=Y.length-i/\i<=Y.length/\Pv i a H',⟨_,rfl,Bu _,l⟩,?_⟩;rintro i m a H' ⟨rfl,t,p⟩;have q:=n i a H' t p
 by_cases j:i<Y.length
 ·refine .inr ⟨⟨q,j⟩,Pv<|i+1,λa H' u=>⟨Y.length-(i+1),(by omega),rfl,j,u⟩,λv B y=>?_⟩;obtain⟨T,b,k,x,w,z,A,rfl,rfl⟩:=y;exact r i k x b T a _ w p z A
 ·have e:i=Y.length:=(by omega)
  subst e;exact .inl ⟨⟨q,Am _⟩,hd a H' p⟩
end
open bK
def aq{α:Type}:List α->List α
 |[]=>[]
 |[a]=>[a]
 |a :: _ :: r=>a :: aq r
theorem qT{α:Type}:∀(xs:List α)(k:Nat),(aq xs)[k]?=xs[2*k]?
 |[],k=>by simp[aq]
 |[a],0=>rfl
 |[a],k+1=>by
  show([]:List α)[k]?=[a][2*(k+1)]?;rw[Bd<|Bu _,Bd<|by show 1<=_;omega]
 |a :: b :: r,0=>rfl
 |a :: b :: r,k+1=>by
  show(aq r)[k]?=(a :: b :: r)[2*(k+1)]?;rw[qT r k,show 2*(k+1)=2*k+1+1 by omega];rfl
theorem wg{α:Type}:∀(xs:List α),(aq xs).length=(xs.length+1)/2
 |[]=>by
  show 0=(0+1)/2;omega
 |[a]=>by
  show 1=(1+1)/2;omega
 |a :: b :: r=>by
  show(aq r).length+1=(r.length+1+1+1)/2;rw[wg r];omega
theorem ED{α:Type}(xs:List α):(aq xs).length<=xs.length:=by
 rw[wg];omega
theorem SZ:∀{xs}{c},az xs c->az (aq xs) (aq c)
 |[],c,r=>by
  have:=r.zero;subst this;exact .nil
 |[a],c,r=>by
  obtain⟨u,rfl,d⟩:=r.one;exact .cons d .nil
 |a :: b :: r,c,h=>by
  cases h with
  |cons e f=>
   cases f with
   |cons j i=>exact .cons e<|SZ i
theorem S0{α:Type}(g:Nat->Option α):∀c,(∀k,k<c->∃v,g k=some v)->((range c).filterMap g).length=c/\∀k,k<c->((range c).filterMap g)[k]?=g k
 |0,_=>⟨rfl,λk h=>absurd h<|Eh _⟩
 |c+1,h=>by
  obtain⟨a,d⟩:=S0 g c λk f=>h k (by omega);obtain⟨v,b⟩:=h c (by omega);have e:(range<|c+1).filterMap g=(range c).filterMap g++[v]:=by
   rw[Dc,List.filterMap_append,Ej,b];rfl
  rw[e];refine⟨by rw[Ad,a];rfl,λk f=>?_⟩
  by_cases i:k<c
  ·rw[Aq<|(by omega)];exact d k i
  ·have:k=c:=(by omega)
   subst this;rw[Ba (by omega),a,WL,b];rfl
theorem bO(a:Ó):slicePick a.toArray none none (some 2)=(aq a).toArray:=by
 unfold slicePick;have c:sliceBounds none none (some 2) a.toArray.size=(0,(a.length:Int),2):=rfl;rw[c]
 congr 1
 show((sliceRange 0 (a.length:Int) 2).filterMap (a.toArray[·]?))=aq a;have d:sliceRange 0 (a.length:Int) 2=(range<|(a.length+1)/2).map λk=>2*k:=by
  unfold sliceRange;have e:(if(2:Int)>0 then(if(0:Int)<(a.length:Int) then((a.length:Int)-0+2-1)/2 else 0) else(if(0:Int)>(a.length:Int) then(0-(a.length:Int)-2-1)/(-2)else 0)).toNat=(a.length+1)/2:=by
   rw[BP<|(by decide)]
   split<;>omega
  show(range _).map _=_;rw[e];exact Bo λk _=>(by omega)
 rw[d,List.filterMap_map];obtain⟨h,f⟩:=S0 (λk=>a.toArray[2*k]?) ((a.length+1)/2) λk b=>⟨a[2*k]'(by omega),by rw[<-Bw];exact Ab (l:=a)<|(by omega)⟩;apply Dv;intro k;show((range<|(a.length+1)/2).filterMap λk=>a.toArray[2*k]?)[k]?=_
 by_cases b:k<(a.length+1)/2
 ·rw[f k b,qT,<-Bw]
 ·rw[Bd (by omega),Bd<|by rw[wg];omega]
section
variable{Q:VK}
theorem q18{e:Expr}{j:Nat}{n o pos:Pos}(h:Ev X e σ H λx d=>∃a xs,x=.ref a/\aj X.K d a xs/\∀p,d p=none->Q (.ref p) (upd d p<|.lst<|aq xs)):
  Ev X (.Subscript e (.Slice none none (some<|.Constant (.int 2) j n) o) pos) σ H Q:=by
 refine⟨λO s I=>Subscript_<|aN (h.run O s I) λv u ⟨x,d,w,z,a,xs,A,B,q⟩=>?_⟩;subst A;cases (show v=Value.ref a from z);refine wpAny_Slice ?_;rw[evalPart_none];refine BL<|BL ?_;rw[evalPart_some];refine aN ((aE (Q:=λy f=>y=.int 2/\f=d) ⟨rfl,rfl⟩).run O u w) λL c ⟨y,f,i,C,D,E⟩=>?_;subst D E;obtain⟨t,rfl⟩:=C;obtain⟨M,r,G,J⟩:=i.list B;have k:=r.length;have l:be X O σ f {c with heap:=c.heap.push {cls:= .type "slice",data:= .fields #[.none,.none,.int 2 t]}}:=i.kept λb N q=>Ae _ q;have m:=G.isList.push {cls:= .type "slice",data:= .fields #[.none,.none,.int 2 t]};show ar X (subscriptTail e _ (.ref a)<|.ref c.heap.objs.size) (EP X O σ Q) X.xe {c with heap:=c.heap.push {cls:= .type "slice",data:= .fields #[.none,.none,.int 2 t]}};refine tail_any (T:= "list") (Heap.IsList.typeIs (s:={c with heap:=c.heap.push {cls:= .type "slice",data:= .fields #[.none,.none,.int 2 t]}}) m) slot_list_getitem.lookup ?_ (by with_unfolding_all rfl);refine wpAny_getItem_list_slice (s:={c with heap:=c.heap.push {cls:= .type "slice",data:= .fields #[.none,.none,.int 2 t]}}) m (Heap.IsSliceOf.new ..) .none .none (.int 2 t) (by decide) ?_ (by rw[Aw];omega);rw[bO];exact⟨.ref _,_,l.j8 (t':=c.toks) (SZ r)<|By (ED _) J,rfl,q _ l.fresh⟩
end
variable{E Q:Î}{U:Program}{zs:Ñ}
section
variable{A:Around}
def J7(k:Q (.ref s.heap.objs.size) {s with heap:=s.heap.push (gO w)}):codeAny (model U w) A (.call (.builtin "set.__new__") ⟨[.type "set"],[]⟩) (wants Q E) s:=by
 refine KR ?_;show wpAny _ A.in1 (checkBuiltinCall "set.__new__" ⟨[.type "set"],[]⟩ >>= λ_=>again<|.builtin "set.__new__" ⟨[.type "set"],[]⟩) _ _ s;refine BJ<|JG PySem.F.newCall_set_0<|BL ⟨JN VJ _,FQ PySem.F.entry_set_new ?_⟩;rw[FN VJ _];unfold Builtin.«set.__new__» Builtin.Frozenset.newClass
 dsimp only
 refine BJ<|BJ<|JG (show isType (.type "set")=pure true from rfl)<|BL ?_;simp only[Eb,Bb,CV];unfold newSet;refine BJ<|BJ<|wp_text ?_
 dsimp only
 simp only[newObj];exact BJ<|QT<|BL<|BL k
theorem k81(k:Q (.ref s.heap.objs.size) {s with heap:=s.heap.push (gO w)}):bc U w A (call (.type "set") []) Q E s:=by
 obtain⟨c,i,j⟩:=PySem.F.called_set.mro;have l:=PySem.F.called_set.made;have m:=PySem.F.called_set.sub;refine RT<|KR ?_;show wpAny _ _ (callAny (.type "set") _) _ _ _;refine BL ⟨Code.quiet_builtin _ (by decide +kernel),FQ PySem.F.entry_type_call ?_⟩;rw[Around.under_plain (weight_type_call_type "set" [] []) rfl];have n:=PySem.F.typeCall_set_0
 repeat (any_goals (first|assumption|wp_step))
 refine JK (J7 (E:=E) (Q:=λv u=>v=.ref s.heap.objs.size/\u={s with heap:=s.heap.push (gO w)}) ⟨rfl,rfl⟩) λr u a=>?_;cases r with
 |error e=>exact a
 |ok d=>
  cases d with
  |ret v=>
   obtain⟨rfl,rfl⟩:=a;have f:Shared.TypeIs {s with heap:=s.heap.push (gO w)} (.ref s.heap.objs.size) "set":=⟨_,Ao _ rfl,rfl⟩;have o:=PySem.F.called_set.init.lookup;have p:=PySem.F.called_set.init.bind<|.ref s.heap.objs.size
   repeat (any_goals (first|assumption|wp_step))
   refine JK (QD (R:=wants (λr u=>r=.none/\Q (.ref s.heap.objs.size) u) E) PySem.F.called_set.init.plain PySem.F.entry_set_init<|check_set_init f ?_) λh q b=>?_
   ·unfold Builtin.«set.__init__» noKeywords
    wp_walk
    exact⟨rfl,k⟩
   ·cases h with
    |error e=>exact b
    |ok f2=>
     cases f2 with
     |ret r=>
      obtain⟨rfl,t⟩:=b
      repeat (any_goals (first|assumption|wp_step))
     |_=>exact b.elim
  |_=>exact a.elim
def FS{a:Addr}{z:Str}{d:Tok}(S:aA U w s.heap a zs)(h:Q (.bool<|decide (z∉zs)) {s with toks:=s.toks+1}):bc U w A (compareOp .NotIn (.str z d)<|.ref a) Q E s:=by
 have b:=S.typeIs;show wpAny _ _ (do return .bool (!(<-contains (.ref a)<|.str z d))) Q E s;refine BJ ?_;unfold contains
 try with_reducible refine CJ ?_
 refine BJ<|UJ b PySem.F.slot_set_contains.lookup ?_;show wpAny _ _ (if(some (Value.builtin "set.__contains__") == some Value.none)=true then _ else _) _ E s;rw[BK<|by rw[beq_builtin_none];exact Ax];refine BJ<|wpAny_callSpecialUnlessNone?_slot b RW<|DQ RW b entry_set_contains ?_<|PySem.F.args_set_contains_2 _ _;unfold Builtin.«frozenset.__contains__» Builtin.Frozenset.oneOther;simp only[Gk,bind_assoc];unfold Builtin.Frozenset.addrOf Builtin.Frozenset.withSetAsKey setContains;refine BJ<|BL ?_
 try dsimp only
 refine BJ<|BL ?_
 try dsimp only
 refine BJ<|wpAny_tryCatch<|CJ<|BJ<|(strKind U w).pyHash (QC _ _ _ _) ?_;obtain⟨o,es,k,t,f,l,hd,T⟩:=S;refine BJ<|Q6 f hd T (λc=>?_) λj i e=>?_
 ·refine BL ?_;show wpAny _ _ (ret<|Value.bool false) _ _ _;rw[BW c]at h;exact BL ⟨_,rfl,DY<|BL h⟩
 ·refine BL ?_;show wpAny _ _ (ret<|Value.bool true) _ _ _;have c:z∈zs:=T.keys.mem_iff.mp (by rw[<-e];exact Ai.mpr ⟨_,Bp i,rfl⟩);rw[BR<|not_not_intro c]at h;exact BL ⟨_,rfl,DY<|BL h⟩
end
section
variable{Q:VK}
def q6n{p pos:Pos}(a:X.mg "set" = none)(h:∀D,H D=none->Q (.ref D) (upd H D<|bj X.U X.w D []))(c:Gl X "set":=by rfl):Ev X (.Call (.Name "set" p) [] [] pos) σ H Q:=by
 refine⟨λO s I=>Call_<|oD I c a PK<|PyProof.Rows.callWith_type0<|k81 ?_⟩;exact⟨.ref s.heap.objs.size,_,I.laid (λb o e=>Ae _ e) (Am _)<|tF<|HZ<|Ao _ rfl,rfl,h _ I.fresh⟩
def IF:cG X (compareOp .NotIn) (λx y H Q=>∃z a zs,x=.str z/\y=.ref a/\H a=some (bj X.U X.w a zs)/\Q (.bl<|decide (z∉zs)) H):=by
 intro O s σ H x y v u Q I b c h;obtain⟨z,a,zs,rfl,rfl,d,q⟩:=h;obtain⟨t,rfl⟩:=b;cases (show u=Value.ref a from c);exact FS (I.set d) ⟨.bl _,H,I.tok _,rfl,q⟩
def q5h{o e:Expr}{ap f:Pos}(h:Ev X o σ H λx i=>∃a,x=.ref a/\(∃zs,i a=some (bj X.U X.w a zs))/\Ev X e σ i λy c=>∃z zs,y=.str z/\c a=some (bj X.U X.w a zs)/\zs.length+1<1000/\Q .non (upd c a<|bj X.U X.w a<|added zs z))
  (t:attributeBase o "add" X.env (eval o X.env)=eval o X.env:=by rfl)
  (w:((backTo f<|starEach [e] X.env).all (λx=>!x.1) && (backToKw f<|keywordEach [] X.env).all (λx=>x.1.isSome) && decide ([e].length+([]:List Keyword).length+(if([]:List Keyword).isEmpty then 0 else 1)<30))=true:=by rfl)
  (d:(ap.endLine == f.line)=true:=by rfl) (A:starEach [e] X.env=(false,eval e X.env) :: starEach [] X.env:=by rfl) (B:gf e=false:=by rfl):Ev X (.Call (.Attribute o "add" ap) [e] [] f) σ H Q:=by
 refine⟨λO s I=>wpAny_Call_method_late t w d rfl (aN (h.run O s I) λv C ⟨x,i,k,D,a,E,⟨zs,G⟩,J⟩=>?_)⟩;subst E;cases (show v=Value.ref a from D);have S:=k.set G;refine⟨"set","set.add",PySem.F.plainAttrs_set,PySem.F.slot_set_add,PySem.F.type_set_add,S.typeIs,λb L=>?_,?_⟩
 ·cases L;obtain⟨o,_,_,_,j,M,_⟩:=S;exact⟨o,j,M.2.1⟩
 have N:Ea X [e] σ i (λl c=>∃z zs,l=[.str z]/\c a=some (bj X.U X.w a zs)/\zs.length+1<1000/\Q .non (upd c a<|bj X.U X.w a<|added zs z)):=ai (J.mono λy c⟨z,zs,T,q⟩=>ax ⟨z,zs,by rw[T],q⟩) B;have m:=N.run f O C k;rw[A]at m ⊢;refine JW rfl (PX ?_);refine aN m λus s2⟨vs,c,n,U,z,l,Y,p,hl,q⟩=>?_;subst Y;obtain⟨u,rfl,ru⟩:=kw U;obtain⟨tk,rfl⟩:=ru;refine SU (n.set p) hl λh' sb r=>⟨.non,_,mK n (by rw[p];exact True.intro) sb ?_<|tF r,rfl,q⟩;obtain⟨o,_,_,_,j,_⟩:=r;exact⟨o,j⟩
end
end L2
namespace Nt
open PySem L2
def dW(c:Int)(n:fo)(e:ff):ff:=(e.1,(((e.2:Int)+c)%((row n e.1).length:Int)).toNat)
variable{e:ff}{n:fo}{c:Int}
theorem wj(h:e∈ends n):(((dW c n e).2:Nat):Int)=((e.2:Int)+c)%((row n e.1).length:Int):=by
 obtain⟨z,a⟩:=af.mp h;have:=iE a;exact Int.toNat_of_nonneg<|Bs _<|(by omega)
theorem S9(h:e∈ends n):dW c n e∈ends n:=by
 obtain⟨z,a⟩:=af.mp h;have b:=iE a;have d:=wj (c:=c) h;have f:((e.2:Int)+c)%((row n e.1).length:Int)<((row n e.1).length:Int):=Ce _ (by omega);exact af.mpr<|zJ<|by show(dW c n e).2<(row n e.1).length;omega
theorem o6(h:e∈ends n):dW (-c) n (dW c n e)=e:=by
 have b:=wj (c:=c) h;have a:=wj (c:=-c)<|S9 (c:=c) h;obtain⟨z,d⟩:=af.mp h;have k:=iE d;have f:(dW c n e).1=e.1:=rfl;rw[f,b]at a;have i:(((e.2:Int)+c)%((row n e.1).length:Int)+-c)%((row n e.1).length:Int)=(e.2:Int):=by
  have:(((e.2:Int)+c)%((row n e.1).length:Int)+-c)%((row n e.1).length:Int)=((e.2:Int)+c+-c)%((row n e.1).length:Int):=by
   rw[Int.add_emod,Int.emod_emod,<-Int.add_emod]
  rw[this,show(e.2:Int)+c+-c=(e.2:Int) by omega];exact Int.emod_eq_of_lt (by omega)<|(by omega)
 rw[i]at a;have j:(dW (-c) n<|dW c n e).2=e.2:=(by omega)
 exact JC rfl j
def Ta{a b:ff}(d:a∈ends n)(e:b∈ends n)(h:dW c n a=dW c n b):a=b:=by
 rw[<-o6 d,<-o6 e,h]
theorem AO(h:e∈ends n):left n e=dW 1 n e:=by
 have a:=wj (c:=1) h;refine JC rfl ?_;show(e.2+1)%(row n e.1).length=(dW 1 n e).2;have:(((e.2+1)%(row n e.1).length:Nat):Int)=((e.2:Int)+1)%((row n e.1).length:Int):=by simp
 omega
def go(c:Int)(n:fo)(e:ff):ff:=dW c n<|other n e
def gB(T:aw n)(h:e∈ends n):go c n e∈ends n:=S9<|dD T h
def go_inj(T:aw n){a b:ff}(d:a∈ends n)(e:b∈ends n)(h:go c n a=go c n b):a=b:=R1 T d e<|Ta (dD T d) (dD T e) h
def Tc(T:aw n)(h:e∈ends n):step n e=go 1 n e:=AO<|dD T h
def two(n:fo)(e:ff):ff:=go (-1) n<|go 1 n e
def m9(T:aw n)(h:e∈ends n):two n e∈ends n:=gB T<|gB T h
def wm(T:aw n){a b:ff}(c:a∈ends n)(d:b∈ends n)(h:two n a=two n b):a=b:=go_inj T c d<|go_inj T (gB T c) (gB T d) h
def wk(n:fo)(e:ff):Nat->List ff
 |0=>[]
 |k+1=>wk n e k++[it (two n) k e,go 1 n<|it (two n) k e]
theorem qU(n:fo)(e:ff):∀k,(wk n e k).length=2*k
 |0=>rfl
 |k+1=>by
  show(wk n e k++_).length=_;rw[Ad,qU n e k];show 2*k+2=_;omega
theorem qV(n:fo)(e:ff):∀k i,i<k->(wk n e k)[2*i]?=some (it (two n) i e)
 |0,i,h=>absurd h<|Eh _
 |k+1,i,h=>by
  show(wk n e k++[it (two n) k e,go 1 n<|it (two n) k e])[2*i]?=_;have l:=qU n e k
  by_cases a:i<k
  ·rw[Aq<|(by omega)];exact qV n e k i a
  ·have:i=k:=(by omega)
   subst this;rw[Ba (by omega),l,WL];rfl
theorem AQ(n:fo)(e:ff):∀k i,i<k->(wk n e k)[2*i+1]?=some (go 1 n<|it (two n) i e)
 |0,i,h=>absurd h<|Eh _
 |k+1,i,h=>by
  show(wk n e k++[it (two n) k e,go 1 n<|it (two n) k e])[2*i+1]?=_;have l:=qU n e k
  by_cases a:i<k
  ·rw[Aq<|(by omega)];exact AQ n e k i a
  ·have:i=k:=(by omega)
   subst this;rw[Ba (by omega),l,show 2*i+1-2*i=1 by omega];rfl
theorem MX(n:fo)(e:ff)(k:Nat):aq (wk n e k)=(range k).map λi=>it (two n) i e:=by
 apply Dv;intro i;rw[qT,Ah]
 by_cases h:i<k
 ·rw[qV n e k i h,Ek h];rfl
 ·rw[Bd (by rw[qU];omega),Bd<|by rw[Cy];omega];rfl
theorem Jp{n:fo}(T:aw n){e:ff}(h:e∈ends n):∀k,∀c∈wk n e k,c∈ends n
 |0,c,b=>by cases b
 |k+1,c,b=>by
  have d:=kz (λa f=>m9 T f) h k
  obtain b|b:=An.mp b
  ·exact Jp T h k c b
  ·obtain rfl|b:=Al.mp b
   ·exact d
   ·rw[Af.mp b];exact gB T d
structure jw(n:fo)(e:ff)(k:Nat):Prop where
 pos:0<k
 back:it (two n) k e=e
 first:∀i,0<i->i<k->it (two n) i e≠e
def jw.unique{k l:Nat}(a:jw n e k)(b:jw n e l):k=l:=by
 obtain h|h|h:=RQ k l
 ·exact absurd a.back<|b.first k a.pos h
 ·exact h
 ·exact absurd b.back<|a.first l b.pos h
noncomputable def wn(n:fo)(e:ff):Nat:=by classical exact if h:∃k,jw n e k then h.choose else 0
def wo{k:Nat}(h:jw n e k):wn n e=k:=by
 have a:∃k,jw n e k:=⟨k,h⟩;unfold wn;rw[dif_pos a];exact a.choose_spec.unique h
noncomputable def walker(n:fo)(e:ff):List ff:=wk n e<|wn n e
structure kI(n:fo)(ws:List ff):Prop where
 ends:∀c∈ws,c∈Nt.ends n
 ne0:0<ws.length
 even:ws.length%2=0
 few:ws.length<=2*(Nt.ends n).length
 at':∀k,k<ws.length->∃c,ws[k]?=some c/\ws[(k+1)%ws.length]?=some (go (1-2*((k:Int)%2)) n c)
theorem Tk(T:aw n)(h:e∈Nt.ends n){k:Nat}(p:jw n e k)(m:k<=(Nt.ends n).length):kI n (wk n e k):=by
 have l:=qU n e k;have o:=p.pos;refine⟨Jp T h k,(by omega),(by omega),(by omega),λj a=>?_⟩;rw[l]at a ⊢
 obtain b|b:=Nat.mod_two_eq_zero_or_one j
 ·obtain⟨i,rfl⟩:∃i,j=2*i:=⟨j/2,(by omega)⟩;refine⟨_,qV n e k i (by omega),?_⟩;rw[Cf (by omega),AQ n e k i<|(by omega)];have:(1:Int)-2*(((2*i:Nat):Int)%2)=1:=(by omega)
  rw[this]
 ·obtain⟨i,rfl⟩:∃i,j=2*i+1:=⟨j/2,(by omega)⟩;refine⟨_,AQ n e k i (by omega),?_⟩;have c:(1:Int)-2*(((2*i+1:Nat):Int)%2)=-1:=(by omega)
  rw[c];show _=some (two n<|it (two n) i e)
  by_cases d:i+1<k
  ·rw[Cf (by omega),show 2*i+1+1=2*(i+1) by omega];exact qV n e k (i+1) d
  ·have:i+1=k:=(by omega)
   rw[show 2*i+1+1=2*k by omega,Em];have f:two n (it (two n) i e)=it (two n) k e:=by rw[<-this];rfl
   rw[f,p.back];exact qV n e k 0<|(by omega)
def ay(n:fo)(e:ff):Str:=(aJ n e).getD ⟨#[]⟩
def dJ{z:Str}(h:aJ n e=some z):ay n e=z:=by unfold ay;rw[h];rfl
noncomputable def eW(n:fo):List ff->Ñ->List (List ff)
 |[],_=>[]
 |e :: r,a=>if ay n e∈a then eW n r a else walker n e :: eW n r (a++(aq<|walker n e).map (ay n))
theorem tR(T:aw n)(h:e∈ends n):∃k,jw n e k/\k<=(ends n).length:=by
 obtain⟨k,s,z,t⟩:=Ip (λa d=>m9 T d) (λa d b u=>wm T d u) h;have f:∀m,∀k,k<=m->0<k->it (two n) k e=e->∃j,j<=k/\jw n e j:=by
  intro m
  induction m with
  |zero=>intro k v q;omega
  |succ m w=>
   intro k v q x
   by_cases c:∃i,0<i/\i<k/\it (two n) i e=e
   ·obtain⟨i,l,r,o⟩:=c;obtain⟨j,y,p⟩:=w i (by omega) l o;exact⟨j,(by omega),p⟩
   ·exact⟨k,Am _,q,x,λi l r o=>c ⟨i,l,r,o⟩⟩
 obtain⟨j,y,p⟩:=f k k (Am _) s t;exact⟨j,p,(by omega)⟩
def A0(T:aw n)(h:e∈ends n):kI n (walker n e):=by
 obtain⟨k,p,a⟩:=tR T h;unfold walker;rw[wo p];exact Tk T h p a
theorem ng{n:fo}(T:aw n):∀f b,(∀e∈f,e∈ends n)->∀w∈eW n f b,kI n w
 |[],_,_,w,c=>by cases c
 |e :: r,b,h,w,c=>by
  unfold eW at c
  split at c
  ·exact ng T r b (λa d=>h a<|Ak _ d) w c
  ·obtain rfl|c:=Al.mp c
   ·exact A0 T<|h e<|Ag ..
   ·exact ng T r _ (λa d=>h a<|Ak _ d) w c
theorem wq(n:fo):∀b a,(eW n b a).length<=b.length
 |[],_=>Am _
 |e :: r,a=>by
  unfold eW
  split
  ·have:=wq n r a;show _<=r.length+1;omega
  ·have:=wq n r<|a++(aq<|walker n e).map (ay n);show _+1<=r.length+1;omega
end Nt
namespace Nt
variable{α β:Type}
def ie(f:α->α):List α->α->α->Prop
 |[],a,b=>a=b
 |x :: l,a,b=>x=a/\ie f l (f x) b
theorem b9{f:α->α}:∀{l k}{a b},ie f (l++k) a b↔∃c,ie f l a c/\ie f k c b
 |[],k,a,b=>⟨λh=>⟨a,rfl,h⟩,λ⟨c,e,h⟩=>by cases e;exact h⟩
 |x :: l,k,a,b=>by
  show(x=a/\ie f (l++k) (f x) b)↔∃c,(x=a/\ie f l (f x) c)/\ie f k c b;rw[b9];exact⟨λ⟨e,c,d,i⟩=>⟨c,⟨e,d⟩,i⟩,λ⟨c,⟨e,d⟩,i⟩=>⟨e,c,d,i⟩⟩
theorem Jq{f:α->α}{f':β->β}{g:α->β}:∀{l}{a b},(∀x∈l,f' (g x)=g (f x))->ie f l a b->ie f' (l.map g) (g a) (g b)
 |[],_,_,_,h=>BZ g h
 |x :: l,a,b,c,h=>⟨BZ g h.1,by rw[c x Ag];exact Jq (λy d=>c y<|Ak _ d) h.2⟩
theorem AT{f:α->α}:∀{l}{x a b y},ie f (x :: l) a b->y∈x :: l->f y∈l\/f y=b
 |[],x,a,b,y,h,c=>by
  rw[Af]at c;subst c;exact .inr h.2
 |z :: l,x,a,b,y,h,c=>by
  obtain rfl|c:=Al.mp c
  ·exact .inl<|by rw[<-h.2.1];exact Ag
  ·obtain q|q:=AT h.2 c
   ·exact .inl<|Ak _ q
   ·exact .inr q
theorem Jr{f:α->α}{l:List α}{a y:α}(h:ie f l a a)(c:a∈l)(b:y∈l):f y∈l:=by
 cases l with
 |nil=>cases b
 |cons x l=>
  obtain q|q:=AT h b
  ·exact Ak _ q
  ·rwa[q]
theorem AU{f:α->α}{f':β->β}{g:α->β}{c:α}{h:β}:∀{l}{x},(∀y∈x :: l,f y=c->f' (g y)=h)->(∀y∈x :: l,f y≠c->f' (g y)=g (f y))->c∉l->ie f (x :: l) x c->ie f' ((x :: l).map g) (g x) h
 |[],x,a,_,_,p=>⟨rfl,a x Ag p.2⟩
 |y :: l,x,a,d,i,p=>by
  have e:=p.2.1;have ne:f x≠c:=λq=>i (by rw[<-q,<-e];exact Ag);refine⟨rfl,?_⟩;rw[d x Ag ne,<-e];exact AU (λz b=>a z<|Ak _ b) (λz b=>d z<|Ak _ b) (λq=>i<|Ak _ q)<|⟨rfl,p.2.2⟩
structure mf(f:α->α)(D:List α)(Ls:List<|List α):Prop where
 kJ:∀l∈Ls,∃a,a∈l/\ie f l a a
 all:Ls.flatten.Perm D
 nd:D.Nodup
def mf.sub{f:α->α}{D:List α}{Ls:List (List α)}(d:mf f D Ls){l:List α}(a:l∈Ls){x:α}(b:x∈l):x∈D:=
 d.all.mem_iff.mp (Fu.mpr ⟨l,a,b⟩)
def mf.pick{f:α->α}{D:List α}{Ls:List (List α)}(d:mf f D Ls){c:α}(o:c∈D):∃l i,Ls.length=i.length+1/\mf f D ((c :: l):: i):=by
 obtain⟨l,j,r⟩:=Fu.mp<|d.all.mem_iff.mpr o;obtain⟨A,B,rfl⟩:=Fz j;obtain⟨p,q,rfl⟩:=Fz r;obtain⟨a,u,h⟩:=d.kJ _ j;obtain⟨m,s,n⟩:=b9.mp h;have e:c=m:=n.1;subst e;refine⟨q++p,A++B,by simp[Nat.add_assoc],λk b=>?_,?_,d.nd⟩
 ·obtain rfl|b:=Al.mp b
  ·exact⟨c,Ag,b9 (l:=c :: q).mpr ⟨a,n,s⟩⟩
  ·refine d.kJ k ?_
   obtain q|q:=An.mp b
   ·exact Az _ q
   ·exact Av _<|Ak _ q
 ·refine List.Perm.trans ?_ d.all;simp only[Dl,Fv,Ft];have t:(c :: (q++p)).Perm (p++c :: q):=by
   rw[<-Ft];exact Ci
  refine((t.append_right _).trans ?_);rw[<-Au,<-Au];exact(Ci).append_right _
def mf.apart{f:α->α}{D:List α}{l:List α}{b:List (List α)}(d:mf f D<|l :: b):l.Nodup/\∀m∈b,∀x∈l,x∉m:=by
 have h:=d.all.nodup_iff.mpr d.nd;rw[Dl,Cj]at h;exact⟨h.1,λm c x e a=>h.2.2 x e x (Fu.mpr ⟨m,c,a⟩) rfl⟩
theorem AV{g:α->β}:∀(Ls:List<|List α),(Ls.map<|List.map g).flatten=Ls.flatten.map g
 |[]=>rfl
 |l :: Ls=>by rw[Bn,Dl,AV Ls,Dl,Aj]
def mf.rest{f:α->α}{f':β->β}{g:α->β}{D:List α}{l:List α}{c:List (List α)}(d:mf f D<|l :: c)(i:∀x∈D,f x∉l->f' (g x)=g (f x)):∀m∈c.map (List.map g),∃a,a∈m/\ie f' m a a:=by
 intro m j;obtain⟨k,b,rfl⟩:=Ai.mp j;obtain⟨a,e,p⟩:=d.kJ k<|Ak _ b;refine⟨g a,Ai.mpr ⟨a,e,rfl⟩,Jq (λx h=>i x (d.sub (Ak _ b) h) λq=>?_) p⟩;exact d.apart.2 k b _ q<|Jr p e h
def mf.grow{f:α->α}{f':β->β}{g:α->β}{D:List α}{c:α}{l:List α}{j:List (List α)}(d:mf f D<|(c :: l):: j){new:List β}{h:β}(n:ie f' new h<|g c)(o:∀x∈D,f x=c->f' (g x)=h)(m:∀x∈D,f x≠c->f' (g x)=g (f x))(nd:(D.map g++new).Nodup):
  mf f' (D.map g++new) (((c :: l).map g++new):: j.map (List.map g)):=by
 have ap:=d.apart;have r:c∉l:=(Bk.mp ap.1).1;refine⟨λk b=>?_,?_,nd⟩
 ·obtain rfl|b:=Al.mp b
  ·obtain⟨a,t,p⟩:=d.kJ _ Ag;have e:c=a:=p.1;subst e;exact⟨g c,Az _ Ag,b9.mpr ⟨h,AU (λy i=>o y<|d.sub Ag i) (λy i=>m y<|d.sub Ag i) r p,n⟩⟩
  ·exact d.rest (λx s q=>m x s λe=>q<|by rw[e];exact Ag) k b
 ·rw[Dl,AV];have:=d.all.map g;rw[Dl,Aj]at this;refine List.Perm.trans ?_<|this.append_right new;rw[Au,Au];exact(Ci).append_left _
theorem mf.split{f:α->α}{f':β->β}{g:α->β}{D:List α}{c j:α}{l:List α}{r:List (List α)}(d:mf f D<|(c :: l):: r)(hd:j∈l){e1 e2:β}(T:f' e1=g j)(U:f' e2=g c)(Y:∀x∈D,f x=c->f' (g x)=e1)(s:∀x∈D,f x=j->f' (g x)=e2)(t:∀x∈D,f x≠c->f x≠j->f' (g x)=g (f x))(nd:(D.map g++[e1,e2]).Nodup):
  ∃Ls,Ls.length=r.length+2/\mf f' (D.map g++[e1,e2]) Ls/\∃l∈Ls,e2∈l/\e1∉l:=by
 have ap:=d.apart;obtain⟨p,q,rfl⟩:=Fz hd;have u:=Bk.mp ap.1;have L:=Cj.mp u.2;have v:=Bk.mp L.2.1;have w:j∉p:=λx=>L.2.2 j x j Ag rfl;have E:c∉p:=λx=>u.1<|Az _ x;have G:c∉q:=λx=>u.1<|Av _<|Ak _ x;obtain⟨a,ha,M⟩:=d.kJ _ Ag;have e:c=a:=M.1;subst e;obtain⟨m,N,H⟩:=(b9 (l:=c :: p)).mp M;have e:j=m:=H.1;subst e;have n:∀ y∈c :: p,y∈D:=λy i=>d.sub Ag (by
  obtain rfl|i:=Al.mp i
  ·exact Ag
  ·exact Ak _<|Az _ i)
 have O:∀y∈j :: q,y∈D:=λy i=>d.sub Ag<|Ak _<|Av _ i;have Q:=Cj.mp nd;have I:e1≠e2:=λe=>by
  have:=Q.2.1;rw[e]at this;simp at this
 refine⟨((c :: p).map g++[e2]):: ((j :: q).map g++[e1]):: r.map (List.map g),by simp,⟨λk o=>?_,?_,nd⟩,_,Ag,Av _<|Af.mpr rfl,λh=>?_⟩
 ·obtain rfl|o:=Al.mp o
  ·refine⟨g c,Az _ Ag,b9.mpr ⟨e2,AU (λy i=>s y<|n y i) (λy i ne=>t y (n y i) (λJ=>?_) ne) w N,rfl,U⟩⟩
   obtain z|z:=AT N i
   ·exact E<|by rwa[<-J]
   ·exact ne z
  ·obtain rfl|o:=Al.mp o
   ·refine⟨g j,Az _ Ag,b9.mpr ⟨e1,AU (λy i=>Y y<|O y i) (λy i ne=>t y (O y i) ne λJ=>?_) G H,rfl,T⟩⟩
    obtain z|z:=AT H i
    ·exact v.1<|by rwa[<-J]
    ·exact ne z
   ·exact d.rest (λx hx q=>t x hx (λe=>q<|by rw[e];exact Ag) λe=>q<|by rw[e];exact Ak _<|Av _ Ag) k o
 ·simp only[Dl,AV];have:=d.all.map g;rw[Dl,Aj,<-Ft,Aj]at this;refine List.Perm.trans ?_<|this.append_right [e1,e2];generalize (c :: p).map g=A;generalize (j :: q).map g=B;generalize r.flatten.map g=C
  letI:DecidableEq β:=λa b=>Classical.propDecidable<|a=b
  rw[List.perm_iff_count];intro z;simp only[Fm,Dq,List.count_nil];omega
 ·obtain h|h:=An.mp h
  ·obtain⟨y,i,e⟩:=Ai.mp h;exact Q.2.2 e1 (Ai.mpr ⟨y,n y i,e⟩) e1 Ag rfl
  ·exact I<|Af.mp h
def mf.more{f:β->β}{D:List β}{Ls:List (List β)}(d:mf f D Ls){b:β}(a:f b=b)(nd:(D++[b]).Nodup):mf f (D++[b]) (Ls++[[b]]):=by
 refine⟨λl c=>?_,?_,nd⟩
 ·obtain h|h:=An.mp c
  ·exact d.kJ l h
  ·rw[Af]at h;subst h;exact⟨b,Ag,rfl,a⟩
 ·rw[Fv];exact d.all.append_right _
def mf.carry{f:α->α}{f':β->β}{g:α->β}{D:List α}{b:List β}{Ls:List (List α)}(d:mf f D Ls)(e:∀x∈D,f' (g x)=g (f x))(h:(D.map g).Perm b)(nd:b.Nodup):mf f' b (Ls.map<|List.map g):=by
 refine⟨λm i=>?_,?_,nd⟩
 ·obtain⟨k,c,rfl⟩:=Ai.mp i;obtain⟨a,j,p⟩:=d.kJ k c;exact⟨g a,Ai.mpr ⟨a,j,rfl⟩,Jq (λx l=>e x<|d.sub c l) p⟩
 ·rw[AV];exact(d.all.map g).trans h
open PySem
theorem wv{α:Type}[DecidableEq α]:∀{a b:List α},a.Nodup->(∀z∈a,z∈b)->b.length<=a.length->a.Perm b
 |[],b,_,_,c=>by
  have:b=[]:=Cd.mp<|Nat.le_zero.mp c;rw[this]
 |x :: a,b,nd,sub,c=>by
  have d:=Bk.mp nd;have h:=sub x Ag;have f:=List.perm_cons_erase h;refine List.Perm.trans ((wv d.2 (λz i=>?_) ?_).cons x) f.symm
  ·exact(Fq λe=>d.1<|by rwa[<-e]).mpr<|sub z<|Ak _ i
  ·have:=f.length_eq;rw[As]at this c;omega
variable{z:Str}{n:fo}
def kK(T:aw n){a b:ff}(d:aJ n a=some z)(i:aJ n b=some z)(ne:a≠b):other n a=b:=by
 obtain⟨j,_,k⟩:=dk T d;obtain⟨p,q,e,_,_⟩:=qB T d;have f:=aK.mpr d;have h:=aK.mpr i;have c:=aK.mpr j;rw[e]at f h c;simp only[Al,Ch,FW]at f h c
 obtain rfl|rfl:=f<;>obtain rfl|rfl:=h<;>obtain c|c:=c<;>first|exact c|exact absurd rfl ne|exact absurd c k
def sh(c e:ff):ff:=if e.1=c.1/\c.2<=e.2 then(e.1,e.2+1)else e
def nh(c e:ff):(sh c e).1=e.1:=by unfold sh;split<;>rfl
variable{c:ff}
theorem o7{a b:ff}(h:sh c a=sh c b):a=b:=by
 have e:a.1=b.1:=by rw[<-nh c a,h,nh]
 have d:=BZ Prod.snd h;unfold sh at d;refine JC e ?_
 by_cases x:a.1=c.1/\c.2<=a.2
 ·rw[BP x]at d
  by_cases y:b.1=c.1/\c.2<=b.2
  ·rw[BP y]at d;exact Nat.succ.inj d
  ·rw[BK y]at d;have d:a.2+1=b.2:=d;exact absurd ⟨e ▸ x.1,(by omega)⟩ y
 ·rw[BK x]at d
  by_cases y:b.1=c.1/\c.2<=b.2
  ·rw[BP y]at d;have d:a.2=b.2+1:=d;exact absurd ⟨e ▸ y.1,(by omega)⟩ x
  ·rwa[BK y]at d
theorem o8(c e:ff):sh c e≠c:=by
 intro h;have b:e.1=c.1:=by rw[<-nh c e,h]
 have a:=BZ Prod.snd h;unfold sh at a
 by_cases x:e.1=c.1/\c.2<=e.2
 ·rw[BP x]at a;have a:e.2+1=c.2:=a;omega
 ·rw[BK x]at a;exact x ⟨b,(by omega)⟩
variable{e:ff}
theorem tS(a:c.1<n.length)(b:c.2<=(row n c.1).length)(i:Nat):(row (ins n c z) i).length=if c.1=i then(row n i).length+1 else(row n i).length:=by
 rw[tK n c z i a]
 by_cases h:c.1=i
 ·subst h;rw[BP rfl,BP rfl,Ad,As,Bh,Dd];omega
 ·rw[BK h,BK h]
theorem Ju(a:c.1<n.length)(b:c.2<=(row n c.1).length):aJ (ins n c z) c=some z:=by
 unfold aJ;rw[tK n c z c.1 a,BP rfl,Ba (by rw[Bh];omega),Bh,show c.2-min c.2 (row n c.1).length=0 by omega];rfl
theorem tT(a:c.1<n.length)(b:c.2<=(row n c.1).length)(e:ff):aJ (ins n c z) (sh c e)=aJ n e:=by
 unfold aJ;rw[nh,tK n c z e.1 a];unfold sh
 by_cases h:c.1=e.1
 ·rw[BP h]
  by_cases k:c.2<=e.2
  ·rw[BP ⟨h.symm,k⟩,Ba (by rw[Bh];show _<=e.2+1;omega),Bh];show(z :: (row n e.1).drop c.2)[e.2+1-min c.2 (row n e.1).length]?=_;rw[<-h,show e.2+1-min c.2 (row n c.1).length=(e.2-c.2)+1 by omega,Gb,RG,show c.2+(e.2-c.2)=e.2 by omega]
  ·rw[BK λq=>k q.2,Aq (by rw[Bh,<-h];omega),Ee<|(by omega)]
 ·rw[BK h,BK λq=>h q.1.symm]
theorem o9(a:c.1<n.length)(b:c.2<(row n c.1).length):left (ins n c z) c=sh c c:=by
 unfold left sh;rw[tS a<|Bz b,BP rfl,BP ⟨rfl,Am _⟩,Cf<|(by omega)]
theorem jc(b:c.1<n.length)(a:c.2<(row n c.1).length)(p:e.2<(row n e.1).length):left (ins n c z) (sh c e)=if left n e=c then c else sh c (left n e):=by
 by_cases h:c.1=e.1
 ·have r:(left n e).1=e.1:=rfl;have d:(left n e).2=(e.2+1)%(row n e.1).length:=rfl;have q:(left n e=c)↔(e.2+1)%(row n e.1).length=c.2:=⟨λx=>by rw[<-d,x],λx=>JC h.symm x⟩;have L:(left (ins n c z) (sh c e))=(e.1,((sh c e).2+1)%((row n e.1).length+1)):=by
   unfold left;rw[nh,tS b<|Bz a,BP h]
  rw[L];rw[h]at a;have S:(sh c e).2=if c.2<=e.2 then e.2+1 else e.2:=by
   unfold sh
   by_cases k:c.2<=e.2
   ·rw[BP ⟨h.symm,k⟩,BP k]
   ·rw[BK λq=>k q.2,BK k]
  have f:sh c (left n e)=(e.1,if c.2<=(e.2+1)%(row n e.1).length then(e.2+1)%(row n e.1).length+1 else(e.2+1)%(row n e.1).length):=by
   unfold sh
   by_cases k:c.2<=(e.2+1)%(row n e.1).length
   ·rw[BP ⟨h.symm,k⟩,BP k];rfl
   ·rw[BK λq=>k q.2,BK k];rfl
  rw[S,f];generalize (row n e.1).length=m at *
  by_cases k:e.2+1<m
  ·rw[Cf k]at q ⊢
   by_cases j:e.2+1=c.2
   ·rw[BP<|q.mpr j,BK (by omega),Cf<|(by omega)];exact JC h.symm j
   ·rw[BK λx=>j<|q.mp x]
    by_cases i:c.2<=e.2
    ·rw[BP i,BP (by omega),Cf<|(by omega)]
    ·rw[BK i,BK (by omega),Cf<|(by omega)]
  ·have em:e.2+1=m:=(by omega)
   rw[em,Em]at q ⊢;rw[BP (by omega),Em]
   by_cases j:0=c.2
   ·rw[BP<|q.mpr j];exact JC h.symm j
   ·rw[BK λx=>j<|q.mp x,BK<|(by omega)]
 ·have ne:left n e≠c:=λx=>h (by rw[<-x];rfl);rw[BK ne];have l:sh c e=e:=by unfold sh;rw[BK λq=>h q.1.symm]
  have o:sh c (left n e)=left n e:=by unfold sh;rw[BK λq=>h q.1.symm]
  rw[l,o];unfold left;rw[tS b<|Bz a,BK h]
def Pl(n:fo):Prop:=(ag n=[]/\n.length=1)\/∃Ls,mf (step n) (ends n) Ls/\2*(n.length+Ls.length)=(ag n).length+4
structure fk(n m:fo)(g:ff->ff)(e1 e2:ff)(z:Str):Prop where
 dq:∀e∈ends n,aJ m (g e)=aJ n e
 t1:aJ m e1=some z
 t2:aJ m e2=some z
 inj:∀a b,g a=g b->a=b
 n1:∀a∈ends n,g a≠e1
 n2:∀a∈ends n,g a≠e2
 ne:e1≠e2
 len:(ag m).length=(ag n).length+2
variable{m:fo}{k1 k2:ff}
section
variable{g:ff->ff}{e1 e2:ff}
def fk.nd(p:fk n m g e1 e2 z):((ends n).map g++[e1,e2]).Nodup:=by
 rw[Cj];refine⟨?_,?_,?_⟩
 ·exact(Cs.mpr<|(tH n).imp λ{a b}h e=>h<|p.inj a b e)
 ·simp[p.ne]
 ·rintro a f b c rfl;obtain⟨x,d,rfl⟩:=Ai.mp f;simp only[Al,Ch,FW]at c
  obtain h|h:=c
  ·exact p.n1 x d h
  ·exact p.n2 x d h
def fk.perm(p:fk n m g e1 e2 z):((ends n).map g++[e1,e2]).Perm (ends m):=by
 refine wv p.nd (λa c=>?_)<|by rw[jv,p.len,Ad,Aa,jv];exact Am _
 obtain h|h:=An.mp c
 ·obtain⟨x,b,rfl⟩:=Ai.mp h;obtain⟨y,d⟩:=af.mp b;exact af.mpr ⟨y,by rwa[p.dq x b]⟩
 ·simp only[Al,Ch,FW]at h
  obtain rfl|rfl:=h
  ·exact af.mpr ⟨z,p.t1⟩
  ·exact af.mpr ⟨z,p.t2⟩
def fk.iC(p:fk n m g e1 e2 z)(T:aw n)(b:aw m)(a:e∈ends n):other m (g e)=g (other n e):=by
 obtain⟨y,c⟩:=af.mp a;obtain⟨d,_,f⟩:=dk T c;exact kK b (by rwa[p.dq e a]) (by rwa[p.dq _<|af.mpr ⟨y,d⟩]) λh=>f (p.inj _ _ h).symm
def fk.o1(p:fk n m g e1 e2 z)(a:aw m):other m e1=e2:=kK a p.t1 p.t2 p.ne
def fk.o2(p:fk n m g e1 e2 z)(a:aw m):other m e2=e1:=kK a p.t2 p.t1 p.ne.symm
def mf.perm{α:Type}{f:α->α}{D a:List α}{Ls:List (List α)}(d:mf f D Ls)(h:D.Perm a):mf f a Ls:=⟨d.kJ,d.all.trans h,h.nodup_iff.mp d.nd⟩
def Tg{α:Type}{f:α->α}{l:List α}(h:∀x∈l,f x∈l){a:α}(b:a∈l):∀k,it f k a∈l:=λk=>kz h b k
def mf.one{α:Type}{f:α->α}{D:List α}{a b:α}{l:List α}{i:List (List α)}(d:mf f D<|(a :: l):: i)(q:b∈D)(h:(∃k,it f k a=b)\/∃k,it f k b=a)(ne:b≠a):b∈l:=by
 have m:∀k∈(a :: l):: i,∀x∈k,f x∈k:=λk r x s=>by
  obtain⟨c,t,p⟩:=d.kJ k r;exact Jr p t s
 have u:b∈a :: l:=by
  obtain⟨k,rfl⟩|⟨k,e⟩:=h
  ·exact Tg (m _ Ag) Ag k
  ·obtain⟨j,n,o⟩:=Fu.mp<|d.all.mem_iff.mpr q
   obtain rfl|v:=Al.mp n
   ·exact o
   ·have:=Tg (m j n) o k;rw[e]at this;exact absurd this<|d.apart.2 j v a Ag
 obtain h|h:=Al.mp u
 ·exact absurd h ne
 ·exact h
theorem tx(p:fk n m g e1 e2 z)(T:aw n)(f:aw m)(t:m.length=n.length)(h:k1∈ends n)(i:k2∈ends n)(ne:k2≠k1)(same:(∃k,it (step n) k k1=k2)\/∃k,it (step n) k k2=k1)
  (u:left m e1=g k1) (v:left m e2=g k2) (lf:∀e∈ends n,left m (g e)=if left n e=k1 then e1 else if left n e=k2 then e2 else g (left n e)) (P:Pl n):Pl m:=by
 have st:∀x∈ends n,step m (g x)=if step n x=k1 then e1 else if step n x=k2 then e2 else g (step n x):=λx c=>by
  unfold step;rw[p.iC T f c];exact lf _<|dD T c
 obtain⟨e,_⟩|⟨Ls,d,w⟩:=P
 ·obtain⟨y,j⟩:=af.mp h;have:=eG j;rw[e]at this;cases this
 ·obtain⟨l,A,B,d⟩:=d.pick h;have o:=d.one i same ne;obtain⟨q,r,s,_⟩:=d.split (f':=step m) (g:=g) o (e1:=e1) (e2:=e2) (by unfold step;rwa[p.o1 f]) (by unfold step;rwa[p.o2 f])
   (λx c e=>by rw[st x c,BP e]) (λx c e=>by rw[st x c,BK (by rw[e];exact ne),BP e]) (λx c a b=>by rw[st x c,BK a,BK b]) p.nd
  refine .inr ⟨q,s.perm p.perm,?_⟩;have:=p.len;omega
theorem ml(p:fk n m g e1 e2 z)(T:aw n)(f:aw m)(r:m.length=n.length)(i:c∈ends n)
  (s:left m e1=g c) (t:left m e2=e1) (lf:∀e∈ends n,left m (g e)=if left n e=c then e2 else g (left n e)) (P:Pl n):Pl m:=by
 have st:∀x∈ends n,step m (g x)=if step n x=c then e2 else g (step n x):=λx a=>by
  unfold step;rw[p.iC T f a];exact lf _<|dD T a
 obtain⟨e,_⟩|⟨Ls,d,u⟩:=P
 ·obtain⟨y,k⟩:=af.mp i;have:=eG k;rw[e]at this;cases this
 ·obtain⟨l,v,w,d⟩:=d.pick i;have nd:=p.nd;have j:((ends n).map g++[e2]++[e1]).Nodup:=by
   rw[Au];exact((List.Perm.swap e1 e2 []).append_left _).nodup_iff.mpr nd
  have o:=d.grow (f':=step m) (g:=g) (new:=[e2]) (h:=e2) ⟨rfl,by unfold step;rwa[p.o2 f]⟩ (λx a e=>by rw[st x a,BP e]) (λx a e=>by rw[st x a,BK e]) (Cj.mp j).1;have q:=o.more (b:=e1) (by unfold step;rwa[p.o1 f]) j;have pm:((ends n).map g++[e2]++[e1]).Perm (ends m):=by
   refine List.Perm.trans ?_ p.perm;rw[Au];exact(List.Perm.swap e1 e2 []).append_left _
  refine .inr ⟨_,q.perm pm,?_⟩;have:=p.len;simp only[Ad,As,Aa,Eu];omega
theorem uy(p:fk n m g e1 e2 z)(T:aw n)(b:aw m)(o:m.length=n.length+1)(f:c∈ends n)
  (q:left m e1=g c) (r:left m e2=e2) (lf:∀e∈ends n,left m (g e)=if left n e=c then e1 else g (left n e)) (P:Pl n):Pl m:=by
 have st:∀x∈ends n,step m (g x)=if step n x=c then e1 else g (step n x):=λx a=>by
  unfold step;rw[p.iC T b a];exact lf _<|dD T a
 obtain⟨e,_⟩|⟨Ls,d,s⟩:=P
 ·obtain⟨y,h⟩:=af.mp f;have:=eG h;rw[e]at this;cases this
 ·obtain⟨l,t,u,d⟩:=d.pick f;have i:step m e1=e2:=by unfold step;rwa[p.o1 b]
  have j:step m e2=g c:=by unfold step;rwa[p.o2 b]
  have k:=d.grow (f':=step m) (new:=[e1,e2]) ⟨rfl,by rw[i];exact⟨rfl,j⟩⟩ (λx a e=>by rw[st x a,BP e]) (λx a e=>by rw[st x a,BK e]) p.nd;refine .inr ⟨_,k.perm p.perm,?_⟩;have:=p.len;simp only[As,Aa];omega
end
def fH(h:e∈ends n):e.1<n.length/\e.2<(row n e.1).length:=by
 obtain⟨z,a⟩:=af.mp h;exact⟨cS a,iE a⟩
variable{i:Nat}{a:fo}{x:Str×List Str}{pt:Str}
theorem Tl(c:k1.1<n.length/\k1.2<=(row n k1.1).length)(f:k2.1<n.length/\k2.2<=(row n k2.1).length):fk n (ins (ins n k1 z) k2 z) (λe=>sh k2<|sh k1 e) (sh k2 k1) k2 z:=by
 have d:k2.1<(ins n k1 z).length:=by rw[ib];exact f.1
 have i:k2.2<=(row (ins n k1 z) k2.1).length:=by
  rw[tS c.1 c.2]
  split
  ·have:=f.2;omega
  ·exact f.2
 refine⟨λe _=>?_,?_,Ju d i,λa b h=>o7<|o7 h,λa _ h=>o8 k1 a<|o7 h,λa _=>o8 k2 _,o8 k2 k1,?_⟩
 ·show aJ _ (sh k2<|sh k1 e)=_;rw[tT d i,tT c.1 c.2]
 ·rw[tT d i];exact Ju c.1 c.2
 ·rw[(l' _ k2 z d).length_eq,As,(l' _ k1 z c.1).length_eq,As]
theorem gT(T:aw n)(r:aw<|ins (ins n k1 z) k2 z)(o:k1∈ends n)(s:k2∈ends n)(ord:k2=k1\/sh k1 k2=k2)(same:(∃k,it (step n) k k1=k2)\/∃k,it (step n) k k2=k1)(P:Pl n):Pl (ins (ins n k1 z) k2 z):=by
 have a:=fH o;have j:=fH s;have p:=Tl (z:=z) ⟨a.1,Bz a.2⟩ ⟨j.1,Bz j.2⟩;have f:k2.1<(ins n k1 z).length:=by rw[ib];exact j.1
 have t:∀i,(row n i).length<=(row (ins n k1 z) i).length:=λi=>by
  rw[tS a.1<|Bz a.2]
  split<;>omega
 have h:=Bf j.2<|t _;have u:=Bf a.2<|t _;have v:(ins (ins n k1 z) k2 z).length=n.length:=by rw[ib,ib]
 have w:∀e∈ends n,(sh k1 e).2<(row (ins n k1 z) (sh k1 e).1).length:=λe b=>by
  obtain⟨y,B⟩:=af.mp b;exact iE (z:=y)<|by rwa[tT a.1<|Bz a.2]
 have A:left (ins n k1 z) k1=sh k1 k1:=o9 a.1 a.2
 by_cases e:k2=k1
 ·subst e;refine ml p T r v o ?_ (o9 f h) (λe b=>?_) P
  ·rw[jc f h u,A,BK<|o8 _ _]
  ·show left _ (sh k2<|sh k2 e)=_;rw[jc f h<|w e b,jc a.1 a.2 (fH b).2]
   by_cases q:left n e=k2
   ·rw[BP q,BP rfl,BP q]
   ·rw[BK q,BK<|o8 _ _,BK q]
 ·have l:sh k1 k2=k2:=ord.resolve_left e;refine tx p T r v o s e same ?_ ?_ (λd b=>?_) P
  ·rw[jc f h u,A,BK λq=>e<|o7 (c:=k1)<|by rw[l,q]]
  ·show left _ k2=sh k2 (sh k1 k2);rw[l];exact o9 f h
  ·show left _ (sh k2<|sh k1 d)=if left n d=k1 then sh k2 k1 else if left n d=k2 then k2 else sh k2 (sh k1<|left n d);rw[jc f h<|w d b,jc a.1 a.2 (fH b).2]
   by_cases q:left n d=k1
   ·rw[BP q,BP q,BK λx=>e x.symm]
   ·rw[BK q,BK q]
    by_cases m:left n d=k2
    ·rw[BP m,m,l,BP rfl]
    ·rw[BK m,BK λx=>m<|o7 (c:=k1)<|by rw[x,l]]
def pc{b:fo}(h:i<a.length):row (a++b) i=row a i:=by
 unfold row;rw[Aq h]
def AW:row (a++[x]) a.length=x.2:=by
 unfold row;rw[Ba<|Am _];simp
def To(d:c.1<n.length/\c.2<=(row n c.1).length):fk n (ins n c z++[(pt,[z])]) (sh c) c (n.length,0) z:=by
 have f:∀e:ff,e.1<n.length->aJ (ins n c z++[(pt,[z])]) e=aJ (ins n c z) e:=λe i=>by
  unfold aJ;rw[pc<|by rwa[ib]]
 refine⟨λe i=>?_,?_,?_,λa b h=>o7 h,λa _=>o8 c a,λa j h=>?_,λh=>?_,?_⟩
 ·rw[f _ (by rw[nh];exact(fH i).1),tT d.1 d.2]
 ·rw[f _ d.1,Ju d.1 d.2]
 ·unfold aJ;have:=AW (a:=ins n c z) (x:=(pt,[z]));rw[ib]at this;show(row _ n.length)[0]?=_;rw[this];rfl
 ·have:=(fH j).1;rw[<-nh c a,h]at this;exact absurd this<|Cq _
 ·have:=d.1;rw[h]at this;exact absurd this<|Cq _
 ·unfold ag;rw[Dj,Ad];have:=(l' _ c z d.1).length_eq;unfold ag at this;rw[this];rfl
def um(T:aw n)(i:aw<|ins n c z++[(pt,[z])])(f:c∈ends n)(P:Pl n):Pl (ins n c z++[(pt,[z])]):=by
 have b:=fH f;have p:=To (z:=z) (pt:=pt) ⟨b.1,Bz b.2⟩;have h:∀e:ff,e.1<n.length->left (ins n c z++[(pt,[z])]) e=left (ins n c z) e:=λe d=>by
  unfold left;rw[pc<|by rwa[ib]]
 refine uy p T i (by rw[Ad,ib];rfl) f ?_ ?_ (λe d=>?_) P
 ·rw[h _ b.1];exact o9 b.1 b.2
 ·unfold left;have:=AW (a:=ins n c z) (x:=(pt,[z]));rw[ib]at this;show(n.length,(0+1)%(row _ n.length).length)=_;rw[this];exact BZ (Prod.mk _)<|Em 1
 ·rw[h _<|by rw[nh];exact(fH d).1];exact jc b.1 b.2 (fH d).2
def Tr{e1 e2:ff}(f:aw m)(b:ends m=[e1,e2])(i:aJ m e1=some z)(j:aJ m e2=some z)(ne:e1≠e2)
  (h:(m.length=2/\left m e1=e1/\left m e2=e2)\/(m.length=1/\left m e1=e2/\left m e2=e1)):Pl m:=by
 have k:=kK f i j ne;have n:=kK f j i ne.symm;have a:(ag m).length=2:=by rw[<-jv,b];rfl
 have nd:[e1,e2].Nodup:=by simp[ne]
 obtain⟨c,d,e⟩|⟨c,d,e⟩:=h
 ·refine .inr ⟨[[e1,e2]],?_,by rw[c,a];rfl⟩;rw[b];refine⟨λl a=>?_,List.Perm.refl _,nd⟩;rw[Af]at a;subst a;refine⟨e1,Ag,rfl,?_⟩;unfold step;rw[k,e];exact⟨rfl,by show left m (other m e2)=e1;rw[n,d]⟩
 ·refine .inr ⟨[[e1],[e2]],?_,by rw[c,a];rfl⟩;rw[b];refine⟨λl a=>?_,List.Perm.refl _,nd⟩;simp only[Al,Ch,FW]at a
  obtain rfl|rfl:=a
  ·exact⟨e1,Ag,rfl,by show left m (other m e1)=e1;rw[k,e]⟩
  ·exact⟨e2,Ag,rfl,by show left m (other m e2)=e2;rw[n,d]⟩
def l0{nm:Str}(a:aw [(nm,[z]),(pt,[z])]):Pl [(nm,[z]),(pt,[z])]:=
 Tr (e1:=(0,0)) (e2:=(1,0)) a rfl rfl rfl (by decide) (.inl ⟨rfl,by simp[left,row],by simp[left,row]⟩)
def L3{nm:Str}(a:aw [(nm,[z,z])]):Pl [(nm,[z,z])]:=
 Tr (e1:=(0,0)) (e2:=(0,1)) a rfl rfl rfl (by decide) (.inr ⟨rfl,by simp[left,row],by simp[left,row]⟩)
def mZ{g:ff->ff}(T:aw n)(q:aw m)(p:m.length=n.length)(i:(ag m).length=(ag n).length)(j:∀e∈ends n,aJ m (g e)=aJ n e)(inj:∀a∈ends n,∀b∈ends n,g a=g b->a=b)
  (lf:∀e∈ends n,left m (g e)=g (left n e)) (P:Pl n):Pl m:=by
 obtain⟨e,h⟩|⟨Ls,d,v⟩:=P
 ·exact .inl ⟨Cd.mp (by rw[i,e];rfl),by rw[p,h]⟩
 ·have nd:((ends n).map g).Nodup:=by
   have:∀(l:List ff),(∀x∈l,x∈ends n)->l.Nodup->(l.map g).Nodup:=by
    intro l
    induction l with
    |nil=>intro _ _;exact Cn
    |cons x l r=>
     intro k h;have h:=Bk.mp h;rw[Bn];refine Bk.mpr ⟨λc=>?_,r (λy f=>k y<|Ak _ f) h.2⟩;obtain⟨y,f,e⟩:=Ai.mp c;have:=inj y (k y<|Ak _ f) x (k x Ag) e;exact h.1<|this ▸ f
   exact this _ (λx c=>c)<|tH n
  have pm:((ends n).map g).Perm (ends m):=by
   refine wv nd (λa s=>?_) (by rw[Aa,jv,jv,i];exact Am _);obtain⟨x,c,rfl⟩:=Ai.mp s;obtain⟨y,f⟩:=af.mp c;exact af.mpr ⟨y,by rwa[j x c]⟩
  refine .inr ⟨_,d.carry (f':=step m) (g:=g) (λx c=>?_) pm<|tH m,by rwa[Aa,p,i]⟩;obtain⟨y,f⟩:=af.mp c;obtain⟨t,_,u⟩:=dk T f;have o:other n x∈ends n:=af.mpr ⟨y,t⟩;have:other m (g x)=g (other n x):=kK q (by rwa[j x c]) (by rwa[j _ o]) λh=>u (inj _ c _ o h).symm;unfold step;rw[this];exact lf _ o
def pf(i len q:Nat):Nat:=if i<=q then q-i else q+len-i
def eX(N j i len:Nat)(e:ff):ff:=if e.1<j then e else if e.1=j then(N-1,pf i len e.2) else(e.1-1,e.2)
variable{j:Nat}
theorem Ts(d:j<a.length)(r:Nat)(e:r<a.length):row (a.eraseIdx j++[x]) (if r<j then r else if r=j then a.length-1 else r-1)=if r=j then x.2 else row a r:=by
 have le:(a.eraseIdx j).length=a.length-1:=by rw[Dg,BP d]
 by_cases c:r<j
 ·rw[BP c,BK (by omega),pc<|by rw[le];omega];unfold row;rw[Ge,BP c]
 ·rw[BK c]
  by_cases b:r=j
  ·rw[BP b,BP b,<-le,AW]
  ·rw[BK b,BK b,pc<|by rw[le];omega];unfold row;rw[Ge,BK (by omega),show r-1+1=r by omega]
theorem Lu{len q:Nat}(a:i<len)(b:q<len):(pf i len q+1)%len=pf i len ((q+1)%len):=by
 unfold pf
 by_cases k:q+1<len
 ·rw[Cf k]
  by_cases h:i<=q
  ·rw[BP h,BP (by omega),Cf<|(by omega)];omega
  ·rw[BK h]
   by_cases c:q+1=i
   ·rw[BP (by omega),show q+len-i+1=len by omega,Em];omega
   ·rw[BK (by omega),Cf<|(by omega)];omega
 ·have e:q+1=len:=(by omega)
  rw[e,Em,BP<|(by omega)]
  by_cases h:i=0
  ·rw[BP (by omega),show q-i+1=len by omega,Em];omega
  ·rw[BK (by omega),Cf<|(by omega)];omega
theorem Sf{l:Ñ}{q:Nat}(a:i<l.length)(b:q<l.length):(l.drop i++l.take i)[pf i l.length q]?=l[q]?:=by
 unfold pf
 by_cases h:i<=q
 ·rw[BP h,Aq (by rw[Dd];omega),RG,show i+(q-i)=q by omega]
 ·rw[BK h,Ba (by rw[Dd];omega),Dd,Ee (by omega),show q+l.length-i-(l.length-i)=q by omega]
theorem Tv{x:Str}(t:j<a.length)(w:i<max 1 (row a j).length):∃g:ff->ff,(∀e∈ends a,aJ (a.eraseIdx j++[(x,(row a j).drop i++(row a j).take i)]) (g e)=aJ a e)/\(∀b∈ends a,∀c∈ends a,g b=g c->b=c) /\
  ∀e∈ends a,left (a.eraseIdx j++[(x,(row a j).drop i++(row a j).take i)]) (g e)=g (left a e):=by
 have fst:∀e:ff,(eX a.length j i (row a j).length e).1=if e.1<j then e.1 else if e.1=j then a.length-1 else e.1-1:=λe=>by
  unfold eX
  by_cases h:e.1<j
  ·rw[BP h,BP h]
  ·rw[BK h,BK h]
   by_cases d:e.1=j
   ·rw[BP d,BP d]
   ·rw[BK d,BK d]
 have snd:∀e:ff,(eX a.length j i (row a j).length e).2=if e.1=j then pf i (row a j).length e.2 else e.2:=λe=>by
  unfold eX
  by_cases h:e.1<j
  ·rw[BP h,BK<|(by omega)]
  ·rw[BK h]
   by_cases d:e.1=j
   ·rw[BP d,BP d]
   ·rw[BK d,BK d]
 have n:∀e:ff,e.1<a.length->row (a.eraseIdx j++[(x,(row a j).drop i++(row a j).take i)]) (eX a.length j i (row a j).length e).1=if e.1=j then(row a j).drop i++(row a j).take i else row a e.1:=λe k=>by
  rw[fst,Ts t e.1 k]
 refine⟨eX a.length j i (row a j).length,λe k=>?_,λb y c z h=>?_,λe k=>?_⟩
 ·have r:=fH k;unfold aJ;rw[n e r.1,snd]
  by_cases h:e.1=j
  ·rw[BP h,BP h,<-h,Sf (by have:=w;rw[<-h]at this;omega) r.2]
  ·rw[BK h,BK h]
 ·have l:=fH y;have m:=fH z;have f:=BZ Prod.fst h;have d:=BZ Prod.snd h;rw[fst,fst]at f;rw[snd,snd]at d
  by_cases p:b.1=j
  ·by_cases q:c.1=j
   ·rw[BP p,BP q]at d;refine JC (by rw[p,q]) ?_;have l:=l.2;have m:=m.2;rw[p]at l;rw[q]at m;unfold pf at d
    by_cases u:i<=b.2
    ·rw[BP u]at d
     by_cases v:i<=c.2
     ·rw[BP v]at d;omega
     ·rw[BK v]at d;omega
    ·rw[BK u]at d
     by_cases v:i<=c.2
     ·rw[BP v]at d;omega
     ·rw[BK v]at d;omega
   ·exfalso
    rw[BK (by omega),BP p]at f;have:=m.1
    by_cases u:c.1<j
    ·rw[BP u]at f;omega
    ·rw[BK u,BK q]at f;omega
  ·by_cases q:c.1=j
   ·exfalso
    have:=l.1;rw[BK (show ¬ c.1<j by omega),BP q]at f
    by_cases u:b.1<j
    ·rw[BP u]at f;omega
    ·rw[BK u,BK p]at f;omega
   ·rw[BK p,BK q]at d;refine JC ?_ d;rw[BK p,BK q]at f
    by_cases u:b.1<j
    ·rw[BP u]at f
     by_cases v:c.1<j
     ·rwa[BP v]at f
     ·rw[BK v]at f;omega
    ·rw[BK u]at f
     by_cases v:c.1<j
     ·rw[BP v]at f;omega
     ·rw[BK v]at f;omega
 ·have r:=fH k;have o:(left a e).1=e.1:=rfl;have L2:(left a e).2=(e.2+1)%(row a e.1).length:=rfl;refine JC ?_ ?_
  ·show(eX a.length j i (row a j).length e).1=(eX a.length j i (row a j).length<|left a e).1;rw[fst,fst,o]
  ·show((eX a.length j i (row a j).length e).2+1)%(row _ (eX a.length j i (row a j).length e).1).length=(eX a.length j i (row a j).length<|left a e).2;rw[n e r.1,snd,snd,o,L2]
   by_cases h:e.1=j
   ·rw[BP h,BP h,BP h,Ad,Dd,Bh];have s:=r.2;rw[h]at s ⊢;rw[show(row a j).length-i+min i (row a j).length=(row a j).length by omega];exact Lu (by omega) s
   ·rw[BK h,BK h,BK h]
theorem ND{x:Str}(b:j<a.length)(c:i<max 1 (row a j).length)(T:aw a)(d:aw<|a.eraseIdx j++[(x,(row a j).drop i++(row a j).take i)])
  (e:(ag<|a.eraseIdx j++[(x,(row a j).drop i++(row a j).take i)]).length=(ag a).length) (P:Pl a):Pl (a.eraseIdx j++[(x,(row a j).drop i++(row a j).take i)]):=by
 obtain⟨g,f,h,k⟩:=Tv b c;exact mZ T d (by rw[Ad,Dg,BP b,Cz];omega) e f h k P
def AX(b:(ag m).Perm<|z :: z :: ag n)(T:aw n)(c:z∉ag n):aw m:=by
 intro y a;rw[b.count_eq,Dq,Dq]
 by_cases e:z=y
 ·subst e;rw[List.count_eq_zero.mpr c];simp
 ·have a:=b.mem_iff.mp a
  obtain h|a:=Al.mp a
  ·exact absurd h.symm e
  ·obtain h|a:=Al.mp a
   ·exact absurd h.symm e
   ·rw[T y a];have:(z == y)=false:=by simpa using e
    rw[this];rfl
theorem tU{nm:Str}(h:fB [(nm,[])] c):c=(0,0):=by
 obtain⟨b,a⟩:=h;have b:c.1<1:=b;have e:c.1=0:=(by omega)
 have a:=a;rw[e]at a;have a:c.2<1:=a;exact JC e<|by show c.2=0;omega
def AY(F:Full n):(∃nm,n=[(nm,[])])\/row n 0≠[]:=by
 obtain h|⟨a,b⟩:=F
 ·exact .inl h
 ·exact .inr<|b 0<|Du.mpr a
def Na(T:aw n)(F:Full n)(d:z∉ag n)(a:fB n c)(e:(ag<|ins n c z++[(pt,[z])]).Perm<|z :: z :: ag n)(P:Pl n):Pl (ins n c z++[(pt,[z])]):=by
 have b:=AX e T d
 obtain⟨nm,rfl⟩|f:=AY F
 ·have:=tU a;subst this;exact l0 b
 ·exact um T b (F.cT f a) P
def Nr(T:aw n)(F:Full n)(e:z∉ag n)(a:fB n k1)(b:fB n k2)(f:(ag<|ins (ins n k1 z) k2 z).Perm<|z :: z :: ag n)(ord:k2=k1\/sh k1 k2=k2)(same:(∃k,it (step n) k k1=k2)\/∃k,it (step n) k k2=k1)(P:Pl n):Pl (ins (ins n k1 z) k2 z):=by
 have c:=AX f T e
 obtain⟨nm,rfl⟩|d:=AY F
 ·have:=tU a;subst this;have:=tU b;subst this;exact L3 c
 ·exact gT T c (F.cT d a) (F.cT d b) ord same P
theorem q1n{a b:ff}(h:bD.lexLt ((a.1:Int),(a.2:Int)) ((b.1:Int),(b.2:Int))=true):sh b a=a:=by
 unfold bD.lexLt at h;unfold sh;refine BK λq=>?_;rw[BP<|by rw[q.1]]at h;have:=BX h;omega
theorem wc{a b:ff}(h:bD.lexLt ((a.1:Int),(a.2:Int)) ((b.1:Int),(b.2:Int))=false):b=a\/sh a b=b:=by
 unfold bD.lexLt at h
 by_cases e:(a.1:Int)=(b.1:Int)
 ·rw[BP e]at h;have h:=GJ h
  by_cases c:a.2=b.2
  ·exact .inl<|JC (by omega) c.symm
  ·refine .inr<|BK λq=>?_;omega
 ·exact .inr<|BK λq=>e<|by rw[q.1]
def Tx(a b:fo):ag (a++b)=ag a++ag b:=by
 unfold ag;rw[Dj]
theorem hJ{a b:fo}{x:Str}(d:j<n.length)(l:i<max 1 (row n j).length)(T0:aw b)(pt:(ag n++ag a).Perm<|ag b)
  (c:(ag (n.eraseIdx j)++ag (a++[(x,(row n j).drop i++(row n j).take i)])).Perm<|ag b) (P:Pl<|n++a):Pl (n.eraseIdx j++(a++[(x,(row n j).drop i++(row n j).take i)])):=by
 have e:∀m:fo,(ag m).Perm (ag b)->aw m:=λm p y h=>by rw[p.count_eq];exact T0 y<|p.mem_iff.mp h
 rw[<-Tx]at pt c;have f:row (n++a) j=row n j:=pc d;have k:n.eraseIdx j++(a++[(x,(row n j).drop i++(row n j).take i)])=(n++a).eraseIdx j++[(x,(row (n++a) j).drop i++(row (n++a) j).take i)]:=by
  rw[NQ d,Au,f]
 rw[k]at c ⊢;exact ND (by rw[Ad];omega) (by rwa[f]) (e _ pt) (e _ c) (by rw[c.length_eq,pt.length_eq]) P
end Nt
namespace Nt
variable{e c:ff}{n:fo}
def ky{a:List ff}(f:fY n e a)(h:c∈a):∃k,it (step n) k e=c:=by
 obtain⟨i,b,d⟩:=Co.mp h;have:=f.at' i b;rw[Ab b,d]at this;exact⟨i,(Option.some.inj this).symm⟩
open PySem
def aC:List Bool->Bool
 |[]=>false
 |b :: l=>b ^^ aC l
theorem ni:∀a b,aC (a++b)=(aC a ^^ aC b)
 |[],b=>by simp[aC]
 |x :: a,b=>by
  show(x ^^ aC (a++b))=((x ^^ aC a) ^^ aC b);rw[ni a b,Bool.xor_assoc]
theorem Jv{a b:List Bool}(h:a.Perm b):aC a=aC b:=by
 induction h with
 |nil=>rfl
 |cons x _ c=>show(x ^^ _)=(x ^^ _);rw[c]
 |swap x y l=>show(y ^^ (x ^^ aC l))=(x ^^ (y ^^ aC l));cases x<;>cases y<;>simp
 |trans _ _ d e=>exact d.trans e
theorem kL{α:Type}(f g:α->Bool):∀l:List α,aC (l.map λx=>f x ^^ g x)=(aC (l.map f) ^^ aC (l.map g))
 |[]=>rfl
 |x :: l=>by
  show((f x ^^ g x) ^^ aC (l.map λx=>f x ^^ g x))=((f x ^^ aC (l.map f)) ^^ (g x ^^ aC (l.map g)));rw[kL f g l];cases f x<;>cases g x<;>cases aC (l.map f)<;>cases aC (l.map g)<;>rfl
def fm(n:fo)(s:Str->Bool):Prop:=∀r,aC ((row n r).map s)=false
structure a9(n:fo)(s:Str->Bool)(χ:ff->Bool):Prop where
 go:∀e∈ends n,χ (step n e)=χ e
 dq:∀e z,aJ n e=some z->s z=(χ e ^^ χ (other n e))
def RS(n:fo):Prop:=∀s:Str->Bool,fm n s->∃a,a9 n s a
theorem Tz(n:fo)(r:Nat)(s:Str->Bool)(g:ff->Bool)(h:∀p z,(row n r)[p]?=some z->s z=g (r,p)):(row n r).map s=(range (row n r).length).map λp=>g (r,p):=by
 apply Dv;intro p;rw[Ah,Ah]
 by_cases a:p<(row n r).length
 ·rw[Ab a,Ek a];exact BZ some<|h p _<|Ab a
 ·rw[Bd (by omega),Bd<|by simp;omega];rfl
theorem Jw(f:Nat->Bool)(m:Nat):aC ((range m).map λp=>f<|(p+1)%m)=aC ((range m).map f):=by
 cases m with
 |zero=>rfl
 |succ k=>
  have e:(range<|k+1).map (λp=>f<|(p+1)%(k+1))=((range k).map λp=>f<|p+1)++[f 0]:=by
   rw[Dc,Aj]
   congr 1
   ·refine Bo λp a=>?_;have:=Bc.mp a;show f ((p+1)%(k+1))=f (p+1);rw[Cf<|(by omega)]
   ·simp
  rw[e,List.range_succ_eq_map,Bn,Cg,ni];show _=(f 0 ^^ aC ((range k).map<|f ∘ Nat.succ));show(aC ((range k).map λp=>f<|p+1) ^^ (f 0 ^^ false))=(f 0 ^^ aC ((range k).map λp=>f<|p+1));cases f 0<;>cases aC ((range k).map λp=>f<|p+1)<;>rfl
variable{χ:ff->Bool}{s:Str->Bool}
def a9.even(T:aw n)(h:a9 n s χ):fm n s:=by
 intro r;rw[Tz n r s (λe=>χ e ^^ χ (other n e)) λp z a=>h.dq (r,p) z a];rw[kL (λp=>χ (r,p)) λp=>χ<|other n (r,p)];have e:((range (row n r).length).map λp=>χ<|other n (r,p))=(range (row n r).length).map λp=>χ (r,(p+1)%(row n r).length):=by
  refine Bo λp b=>?_;have b:=Bc.mp b;obtain⟨z,a⟩:=zJ (e:=(r,p)) b;obtain⟨c,d,_⟩:=dk T a;have:=h.go (other n (r,p))<|af.mpr ⟨z,c⟩;rw[<-this];show χ (left n (other n<|other n (r,p)))=_;rw[d];rfl
 rw[e,Jw λp=>χ (r,p)];cases aC ((range (row n r).length).map λp=>χ (r,p))<;>rfl
variable{ψ:ff->Bool}
def a9.xor{t:Str->Bool}(h:a9 n s χ)(g:a9 n t ψ):a9 n (λz=>s z ^^ t z) (λe=>χ e ^^ ψ e):=by
 refine⟨λe a=>?_,λe z b=>?_⟩
 ·rw[h.go e a,g.go e a]
 ·show(s z ^^ t z)=((χ e ^^ ψ e) ^^ (χ (other n e) ^^ ψ (other n e)));rw[h.dq e z b,g.dq e z b];cases χ e<;>cases ψ e<;>cases χ (other n e)<;>cases ψ (other n e)<;>rfl
def fm.xor{t:Str->Bool}(h:fm n s)(g:fm n t):fm n (λz=>s z ^^ t z):=λr=>by
 rw[kL s t,h r,g r];rfl
variable{z:Str}{k1 k2:ff}
section
variable{m:fo}{g:ff->ff}{e1 e2:ff}
def fk.mark(p:fk n m g e1 e2 z)(χ:ff->Bool)(a:Bool):∃b:ff->Bool,(∀e∈ends n,b (g e)=χ e)/\b e1=a/\b e2=a:=by
 refine⟨λx=>if x=e1 then a else if x=e2 then a else match (ends n).find? (λe=>decide (g e=x))with|some e=>χ e|none=>false,λe d=>?_,?_,?_⟩
 ·show(if g e=e1 then a else if g e=e2 then a else match (ends n).find? (λc=>decide (g c=g e))with|some e=>χ e|none=>false)=χ e;rw[BK<|p.n1 e d,BK<|p.n2 e d];cases h:(ends n).find? (λc=>decide (g c=g e)) with
  |none=>exact absurd (BW (rfl:g e=g e))<|by simpa using Fy.mp h e d
  |some c=>
   have f:=Gu h;have f:=BX f;rw[p.inj _ _ f]
 ·simp
 ·simp
def fk.kN(p:fk n m g e1 e2 z)(T:aw n)(o:aw m)(h:a9 n s χ)(u:s z=false){a:Bool}
  (st:∀x∈ends n,step m (g x)=g (step n x)\/((step m (g x)=e1\/step m (g x)=e2)/\χ (step n x)=a))
  (w:step m e1=e1\/step m e1=e2\/∃k∈ends n,step m e1=g k/\χ k=a) (A:step m e2=e1\/step m e2=e2\/∃k∈ends n,step m e2=g k/\χ k=a):∃d,a9 m s d:=by
 obtain⟨d,i,j,l⟩:=p.mark χ a;have v:∀x∈ends m,(∃e∈ends n,x=g e)\/x=e1\/x=e2:=λx r=>by
  have:=p.perm.mem_iff.mpr r
  obtain q|q:=An.mp this
  ·obtain⟨e,b,rfl⟩:=Ai.mp q;exact .inl ⟨e,b,rfl⟩
  ·simp only[Al,Ch,FW]at q;exact .inr q
 refine⟨d,λx r=>?_,λx y c=>?_⟩
 ·obtain⟨e,b,rfl⟩|rfl|rfl:=v x r
  ·rw[i e b]
   obtain q|⟨q,f⟩:=st e b
   ·rw[q,i _<|tI T b,h.go e b]
   ·rw[h.go e b]at f
    obtain q|q:=q
    ·rw[q,j,f]
    ·rw[q,l,f]
  ·obtain q|q|⟨k,t,q,f⟩:=w
   ·rw[q]
   ·rw[q,j,l]
   ·rw[q,i k t,j,f]
  ·obtain q|q|⟨k,t,q,f⟩:=A
   ·rw[q,j,l]
   ·rw[q]
   ·rw[q,i k t,l,f]
 ·obtain⟨e,b,rfl⟩|rfl|rfl:=v x (af.mpr ⟨y,c⟩)
  ·rw[p.dq e b]at c;obtain⟨B,_,_⟩:=dk T c;rw[p.iC T o b,i e b,i _<|af.mpr ⟨y,B⟩];exact h.dq e y c
  ·rw[p.t1]at c;cases c;rw[p.o1 o,j,l,u];cases a<;>rfl
  ·rw[p.t2]at c;cases c;rw[p.o2 o,j,l,u];cases a<;>rfl
def TB(d:aw m)(f:∀e∈ends m,ψ (step m e)=ψ e)(p:aJ m e1=some z)(r:other m e1=e2)(ne:ψ e1≠ψ e2)(k:∀s,fm m s->s z=false->∃χ,a9 m s χ):RS m:=by
 intro s l
 by_cases b:s z=false
 ·exact k s l b
 ·have b:s z=true:=by cases h:s z with|true=>rfl|false=>exact absurd h b
  let t:Str->Bool:=λy=>match (ends m).find? (λe=>decide (aJ m e=some y))with|some e=>ψ e ^^ ψ (other m e)|none=>false
  have i:a9 m t ψ:=by
   refine⟨f,λe y a=>?_⟩;show(match (ends m).find? (λe=>decide (aJ m e=some y))with|some e=>ψ e ^^ ψ (other m e)|none=>false)=_;cases n:(ends m).find? (λe=>decide (aJ m e=some y)) with
   |none=>exact absurd (BW a)<|by simpa using Fy.mp n e (af.mpr ⟨y,a⟩)
   |some c=>
    have u:=Gu n;have o:=BX u
    by_cases q:c=e
    ·rw[q]
    ·have v:=kK d o a q;have w:=kK d a o<|CG q;show(ψ c ^^ ψ (other m c))=_;rw[v,w];cases ψ e<;>cases ψ c<;>rfl
  have x:t z=true:=by
   rw[i.dq e1 z p,r];cases A:ψ e1<;>cases B:ψ e2<;>simp_all
  obtain⟨χ,j⟩:=k (λy=>s y ^^ t y) (l.xor<|i.even d) (by show(s z ^^ t z)=false;rw[b,x];rfl);have:=j.xor i;refine⟨λe=>χ e ^^ ψ e,this.go,λe y a=>?_⟩;rw[<-this.dq e y a];show s y=((s y ^^ t y) ^^ t y);cases s y<;>cases t y<;>rfl
def Jx(a:c.1<n.length)(b:s z=false)(r:Nat):aC ((row (ins n c z) r).map s)=aC ((row n r).map s):=by
 rw[tK n c z r a]
 by_cases h:c.1=r
 ·rw[BP h,Aj,Bn,ni];show(aC (((row n r).take c.2).map s) ^^ (s z ^^ aC (((row n r).drop c.2).map s)))=_;rw[b,Gf,<-ni,<-Aj,Db]
 ·rw[BK h]
def mf.mark{α:Type}[DecidableEq α]{f:α->α}{D:List α}{Ls:List (List α)}(d:mf f D Ls){l:List α}(i:l∈Ls):∀x∈D,(f x∈l↔x∈l):=by
 intro x b;obtain⟨A,B,rfl⟩:=Fz i;have e:mf f D (l :: (A++B)):=⟨λk a=>d.kJ k (by
  obtain rfl|a:=Al.mp a
  ·exact i
  ·obtain q|q:=An.mp a
   ·exact Az _ q
   ·exact Av _<|Ak _ q),by
  refine List.Perm.trans ?_ d.all;rw[Dl,Fv,Fv,Dl,<-Au,<-Au];exact(Ci).append_right _,d.nd⟩
 have j:∀k∈l :: (A++B),∀x∈k,f x∈k:=λk a x b=>by
  obtain⟨c,n,p⟩:=e.kJ k a;exact Jr p n b
 by_cases h:x∈l
 ·exact⟨λ_=>h,λ_=>j l Ag x h⟩
 ·refine⟨λq=>?_,λq=>absurd q h⟩
  exfalso
  obtain⟨k,a,m⟩:=Fu.mp<|e.all.mem_iff.mpr b
  obtain rfl|o:=Al.mp a
  ·exact h m
  ·exact e.apart.2 k o _ q<|j k a x m
theorem Jy{s:Str->Bool}{χ:ff->Bool}(T:aw n)(h:a9 n s χ){a:ff}(b:a∈ends n):∀k,χ (it (step n) k a)=χ a
 |0=>rfl
 |k+1=>by
  show χ (step n<|it (step n) k a)=_;rw[h.go _<|kz (λx c=>tI T c) b k,Jy T h b k]
def ej(p:fk n m g e1 e2 z)(T:aw n)(h:aw m)(i:k1∈ends n)(j:k2∈ends n)(ne:k2≠k1)(same:(∃k,it (step n) k k1=k2)\/∃k,it (step n) k k2=k1)
  (J:left m e1=g k1) (L:left m e2=g k2) (lf:∀e∈ends n,left m (g e)=if left n e=k1 then e1 else if left n e=k2 then e2 else g (left n e))
  {Ls:List (List ff)} (d:mf (step n) (ends n) Ls) (y:∀s,fm m s->s z=false->fm n s) (R:RS n):RS m:=by
 have st:∀x∈ends n,step m (g x)=if step n x=k1 then e1 else if step n x=k2 then e2 else g (step n x):=λx c=>by
  unfold step;rw[p.iC T h c];exact lf _<|dD T c
 have r:step m e1=g k2:=by unfold step;rwa[p.o1 h]
 have t:step m e2=g k1:=by unfold step;rwa[p.o2 h]
 obtain⟨l,M,N,d⟩:=d.pick i;have A:=d.one j same ne;obtain⟨O,B,C,w,D,E,G⟩:=d.split A r t
  (λx c e=>by rw[st x c,BP e]) (λx c e=>by rw[st x c,BK (by rw[e];exact ne),BP e]) (λx c a b=>by rw[st x c,BK a,BK b]) p.nd
 have H:=C.perm p.perm;refine TB h (ψ:=λx=>decide (x∈w)) (λx c=>decide_eq_decide.mpr<|H.mark D x c) p.t1 (p.o1 h) (by show decide (e1∈w)≠decide (e2∈w);rw[BR G,BW E];decide) λs I u=>?_;obtain⟨χ,f⟩:=R s<|y s I u;have v:χ k2=χ k1:=by
  obtain⟨k,e⟩|⟨k,e⟩:=same
  ·rw[<-e];exact Jy T f i k
  ·rw[<-e];exact(Jy T f j k).symm
 refine p.kN T h f u (λx c=>?_) (.inr<|.inr ⟨k2,j,r,v⟩)<|.inr<|.inr ⟨k1,i,t,rfl⟩;rw[st x c]
 by_cases o:step n x=k1
 ·rw[BP o];exact .inr ⟨.inl rfl,by rw[o]⟩
 ·rw[BK o]
  by_cases q:step n x=k2
  ·rw[BP q];exact .inr ⟨.inr rfl,by rw[q,v]⟩
  ·rw[BK q];exact .inl rfl
def xg(p:fk n m g e1 e2 z)(T:aw n)(a:aw m)(j:c∈ends n)(t:left m e1=g c)(u:left m e2=e1)(lf:∀e∈ends n,left m (g e)=if left n e=c then e2 else g (left n e))
  (k:∀s,fm m s->s z=false->fm n s) (R:RS n):RS m:=by
 have st:∀x∈ends n,step m (g x)=if step n x=c then e2 else g (step n x):=λx b=>by
  unfold step;rw[p.iC T a b];exact lf _<|dD T b
 have d:step m e1=e1:=by unfold step;rwa[p.o1 a]
 have l:step m e2=g c:=by unfold step;rwa[p.o2 a]
 have o:=af.mpr ⟨z,p.t1⟩;refine TB a (ψ:=λx=>decide (x=e1)) (λx b=>?_) p.t1 (p.o1 a) (by show decide (e1=e1)≠decide (e2=e1);rw[BW rfl,BR p.ne.symm];decide) λs r i=>?_
 ·by_cases q:x=e1
  ·rw[q,d]
  ·show decide (step m x=e1)=decide (x=e1);rw[BR q];exact BR λe=>q<|R3 a b o<|by rw[e,d]
 obtain⟨χ,f⟩:=R s<|k s r i;refine p.kN T a f i (λx b=>?_) (.inl d)<|.inr<|.inr ⟨c,j,l,rfl⟩;rw[st x b]
 by_cases h:step n x=c
 ·rw[BP h];exact .inr ⟨.inr rfl,by rw[h]⟩
 ·rw[BK h];exact .inl rfl
def DO(p:fk n m g e1 e2 z)(T:aw n)(a:aw m)(j:c∈ends n)(q:left m e1=g c)(r:left m e2=e2)(lf:∀e∈ends n,left m (g e)=if left n e=c then e1 else g (left n e))
  (b:∀s,fm m s->s z=false) (k:∀s,fm m s->s z=false->fm n s) (R:RS n):RS m:=by
 have st:∀x∈ends n,step m (g x)=if step n x=c then e1 else g (step n x):=λx d=>by
  unfold step;rw[p.iC T a d];exact lf _<|dD T d
 have l:step m e1=e2:=by unfold step;rwa[p.o1 a]
 have o:step m e2=g c:=by unfold step;rwa[p.o2 a]
 intro s i;have b:=b s i;obtain⟨χ,f⟩:=R s<|k s i b;refine p.kN T a f b (λx d=>?_) (.inr<|.inl l)<|.inr<|.inr ⟨c,j,o,rfl⟩;rw[st x d]
 by_cases h:step n x=c
 ·rw[BP h];exact .inr ⟨.inl rfl,by rw[h]⟩
 ·rw[BK h];exact .inl rfl
end
variable{pt:Str}
theorem IS(T:aw n)(u:aw<|ins (ins n k1 z) k2 z)(m:k1∈ends n)(v:k2∈ends n)(ord:k2=k1\/sh k1 k2=k2)(same:(∃k,it (step n) k k1=k2)\/∃k,it (step n) k k2=k1)(P:Pl n)(R:RS n):RS (ins (ins n k1 z) k2 z):=by
 have a:=fH m;have o:=fH v;have p:=Tl (z:=z) ⟨a.1,Bz a.2⟩ ⟨o.1,Bz o.2⟩;have b:k2.1<(ins n k1 z).length:=by rw[ib];exact o.1
 have w:∀i,(row n i).length<=(row (ins n k1 z) i).length:=λi=>by
  rw[tS a.1<|Bz a.2]
  split<;>omega
 have j:=Bf o.2<|w _;have A:=Bf a.2<|w _;have B:∀e∈ends n,(sh k1 e).2<(row (ins n k1 z) (sh k1 e).1).length:=λe f=>by
  obtain⟨y,C⟩:=af.mp f;exact iE<|by rwa[tT a.1<|Bz a.2]
 have D:left (ins n k1 z) k1=sh k1 k1:=o9 a.1 a.2;have E:∀s,fm (ins (ins n k1 z) k2 z) s->s z=false->fm n s:=λs l G r=>by
  rw[<-Jx a.1 G r,<-Jx b G r];exact l r
 by_cases e:k2=k1
 ·subst e;refine xg p T u m ?_ (o9 b j) (λe f=>?_) E R
  ·rw[jc b j A,D,BK<|o8 _ _]
  ·show left _ (sh k2<|sh k2 e)=_;rw[jc b j<|B e f,jc a.1 a.2 (fH f).2]
   by_cases q:left n e=k2
   ·rw[BP q,BP rfl,BP q]
   ·rw[BK q,BK<|o8 _ _,BK q]
 ·have l:sh k1 k2=k2:=ord.resolve_left e
  obtain⟨H,_⟩|⟨Ls,d,_⟩:=P
  ·obtain⟨y,C⟩:=af.mp m;have:=eG C;rw[H]at this;cases this
  refine ej p T u m v e same ?_ ?_ (λh f=>?_) d E R
  ·rw[jc b j A,D,BK λq=>e<|o7 (c:=k1)<|by rw[l,q]]
  ·show left _ k2=sh k2 (sh k1 k2);rw[l];exact o9 b j
  ·show left _ (sh k2<|sh k1 h)=if left n h=k1 then sh k2 k1 else if left n h=k2 then k2 else sh k2 (sh k1<|left n h);rw[jc b j<|B h f,jc a.1 a.2 (fH f).2]
   by_cases q:left n h=k1
   ·rw[BP q,BP q,BK λx=>e x.symm]
   ·rw[BK q,BK q]
    by_cases t:left n h=k2
    ·rw[BP t,t,l,BP rfl]
    ·rw[BK t,BK λx=>t<|o7 (c:=k1)<|by rw[x,l]]
theorem cx(T:aw n)(l:aw<|ins n c z++[(pt,[z])])(j:c∈ends n)(R:RS n):RS (ins n c z++[(pt,[z])]):=by
 have b:=fH j;have p:=To (z:=z) (pt:=pt) ⟨b.1,Bz b.2⟩;have k:∀e:ff,e.1<n.length->left (ins n c z++[(pt,[z])]) e=left (ins n c z) e:=λe d=>by
  unfold left;rw[pc<|by rwa[ib]]
 have f:=AW (a:=ins n c z) (x:=(pt,[z]));rw[ib]at f;refine DO p T l j ?_ ?_ (λe d=>?_) (λs i=>?_) (λs i m r=>?_) R
 ·rw[k _ b.1];exact o9 b.1 b.2
 ·unfold left;show(n.length,(0+1)%(row _ n.length).length)=_;rw[f];exact BZ (Prod.mk _)<|Em 1
 ·rw[k _<|by rw[nh];exact(fH d).1];exact jc b.1 b.2 (fH d).2
 ·have:=i n.length;rw[f]at this;have:(s z ^^ false)=false:=this
  simpa using this
 ·by_cases h:r<n.length
  ·have:=i r;rwa[pc (by rwa[ib]),Jx b.1 m r]at this
  ·have:row n r=[]:=by
    unfold row;rw[Bd<|(by omega)];rfl
   rw[this];rfl
def Hi{nm:Str}:RS [(nm,[])]:=λs _=>⟨λ_=>false,λe b=>rfl,λe y a=>by
 have:=eG a;cases this⟩
def MQ{nm:Str}(c:aw [(nm,[z]),(pt,[z])]):RS [(nm,[z]),(pt,[z])]:=λs a=>⟨λ_=>false,λe d=>rfl,λe y b=>by
 have h:=eG b;have:y=z:=by simpa[ag]using h
 rw[this];have:=a 0;have:(s z ^^ false)=false:=this
 simpa using this⟩
def SV{nm:Str}(b:aw [(nm,[z,z])]):RS [(nm,[z,z])]:=λs _=>by
 have c:aJ [(nm,[z,z])] (0,0)=some z:=rfl;have d:aJ [(nm,[z,z])] (0,1)=some z:=rfl;have f:=kK b c d (by decide);have i:=kK b d c (by decide);have j:ends [(nm,[z,z])]=[(0,0),(0,1)]:=rfl;refine⟨λe=>decide (e=(0,0)) && s z,λe a=>?_,λe y k=>?_⟩
 ·rw[j]at a;simp only[Al,Ch,FW]at a
  obtain rfl|rfl:=a
  ·show(decide (left [(nm,[z,z])] (other [(nm,[z,z])] (0,0))=(0,0)) && s z)=_;rw[f];simp[left,row]
  ·show(decide (left [(nm,[z,z])] (other [(nm,[z,z])] (0,1))=(0,0)) && s z)=_;rw[i];simp[left,row]
 ·have h:=eG k;have l:y=z:=by simpa[ag]using h
  have a:=af.mpr ⟨y,k⟩;rw[j]at a;simp only[Al,Ch,FW]at a;rw[l]
  obtain rfl|rfl:=a
  ·rw[f];simp
  ·rw[i];simp
def Fl(n:fo):Prop:=Pl n/\RS n
def MW{nm:Str}:Fl [(nm,[])]:=⟨.inl ⟨rfl,rfl⟩,Hi⟩
def b6(T:aw n)(F:Full n)(b:z∉ag n)(a:fB n c)(d:(ag<|ins n c z++[(pt,[z])]).Perm<|z :: z :: ag n)(P:Fl n):Fl (ins n c z++[(pt,[z])]):=by
 refine⟨Na T F b a d P.1,?_⟩;have e:=AX d T b
 obtain⟨nm,rfl⟩|f:=AY F
 ·have:=tU a;subst this;exact MQ e
 ·exact cx T e (F.cT f a) P.2
def js(T:aw n)(F:Full n)(c:z∉ag n)(a:fB n k1)(b:fB n k2)(d:(ag<|ins (ins n k1 z) k2 z).Perm<|z :: z :: ag n)(ord:k2=k1\/sh k1 k2=k2)(same:(∃k,it (step n) k k1=k2)\/∃k,it (step n) k k2=k1)(P:Fl n):Fl (ins (ins n k1 z) k2 z):=by
 refine⟨Nr T F c a b d ord same P.1,?_⟩;have e:=AX d T c
 obtain⟨nm,rfl⟩|f:=AY F
 ·have:=tU a;subst this;have:=tU b;subst this;exact SV e
 ·exact IS T e (F.cT f a) (F.cT f b) ord same P.1 P.2
def ba{m:fo}{g:ff->ff}(T:aw n)(A:aw m)(B:(ag m).length=(ag n).length)(r:∀e∈ends n,aJ m (g e)=aJ n e)(inj:∀a∈ends n,∀b∈ends n,g a=g b->a=b)
  (lf:∀e∈ends n,left m (g e)=g (left n e)) (C:∀s,fm m s->fm n s) (R:RS n):RS m:=by
 have v:∀x∈ends m,∃e∈ends n,x=g e:=by
  have nd:((ends n).map g).Nodup:=by
   have:∀(l:List ff),(∀x∈l,x∈ends n)->l.Nodup->(l.map g).Nodup:=by
    intro l
    induction l with
    |nil=>intro _ _;exact Cn
    |cons x l D=>
     intro j h;have h:=Bk.mp h;rw[Bn];refine Bk.mpr ⟨λf=>?_,D (λy d=>j y<|Ak _ d) h.2⟩;obtain⟨y,d,e⟩:=Ai.mp f;have:=inj y (j y<|Ak _ d) x (j x Ag) e;exact h.1<|this ▸ d
   exact this _ (λx f=>f)<|tH n
  have pm:((ends n).map g).Perm (ends m):=by
   refine wv nd (λa E=>?_) (by rw[Aa,jv,jv,B];exact Am _);obtain⟨x,f,rfl⟩:=Ai.mp E;obtain⟨y,d⟩:=af.mp f;exact af.mpr ⟨y,by rwa[r x f]⟩
  intro x f;obtain⟨e,c,q⟩:=Ai.mp<|pm.mem_iff.mpr f;exact⟨e,c,q.symm⟩
 intro s j;obtain⟨χ,k⟩:=R s<|C s j
 let o:ff->Bool:=λx=>match (ends n).find? (λe=>decide (g e=x))with|some e=>χ e|none=>false
 have i:∀e∈ends n,o (g e)=χ e:=λe c=>by
  show(match (ends n).find? (λp=>decide (g p=g e))with|some e=>χ e|none=>false)=χ e;cases t:(ends n).find? (λp=>decide (g p=g e)) with
  |none=>exact absurd (BW (rfl:g e=g e))<|by simpa using Fy.mp t e c
  |some p=>
   have u:=Gu t;have u:g p=g e:=BX u;rw[inj _ (List.mem_of_find?_eq_some t) _ c u]
 have w:∀e∈ends n,other m (g e)=g (other n e):=λe c=>by
  obtain⟨y,d⟩:=af.mp c;obtain⟨i,_,G⟩:=dk T d;have z:other n e∈ends n:=af.mpr ⟨y,i⟩;exact kK A (by rwa[r e c]) (by rwa[r _ z]) λh=>G (inj _ c _ z h).symm
 refine⟨o,λx f=>?_,λx y d=>?_⟩
 ·obtain⟨e,c,rfl⟩:=v x f;have:step m (g e)=g (step n e):=by
   unfold step;rw[w e c];exact lf _<|dD T c
  rw[this,i _<|tI T c,i e c,k.go e c]
 ·obtain⟨e,c,rfl⟩:=v x<|af.mpr ⟨y,d⟩;rw[r e c]at d;rw[w e c,i e c,i _<|dD T c];exact k.dq e y d
variable{x:Str}{i:Nat}
theorem Ix{a:fo}{j:Nat}(b:j<a.length)(c:i<max 1 (row a j).length)(T:aw a)(d:aw<|a.eraseIdx j++[(x,(row a j).drop i++(row a j).take i)])
  (f:(ag<|a.eraseIdx j++[(x,(row a j).drop i++(row a j).take i)]).length=(ag a).length) (R:RS a):RS (a.eraseIdx j++[(x,(row a j).drop i++(row a j).take i)]):=by
 obtain⟨g,h,k,l⟩:=Tv b c;refine ba T d f h k l (λs m r=>?_) R
 by_cases n:r<a.length
 ·have:=m (if r<j then r else if r=j then a.length-1 else r-1);rw[Ts b r n]at this
  by_cases e:r=j
  ·rw[BP e]at this;rw[<-this,e];refine Jv<|List.Perm.map s ?_;show(row a j).Perm ((row a j).drop i++(row a j).take i);refine List.Perm.trans ?_ Ci;rw[Db]
  ·rwa[BK e]at this
 ·have:row a r=[]:=by
   unfold row;rw[Bd<|(by omega)];rfl
  rw[this];rfl
theorem AN{a c:fo}{j:Nat}(d:j<n.length)(h:i<max 1 (row n j).length)(T0:aw c)(pt:(ag n++ag a).Perm<|ag c)
  (b:(ag (n.eraseIdx j)++ag (a++[(x,(row n j).drop i++(row n j).take i)])).Perm<|ag c) (P:Fl<|n++a):Fl (n.eraseIdx j++(a++[(x,(row n j).drop i++(row n j).take i)])):=by
 refine⟨hJ d h T0 pt b P.1,?_⟩;have e:∀m:fo,(ag m).Perm (ag c)->aw m:=λm p y k=>by rw[p.count_eq];exact T0 y<|p.mem_iff.mp k
 rw[<-Tx]at pt b;have f:row (n++a) j=row n j:=pc d;have l:n.eraseIdx j++(a++[(x,(row n j).drop i++(row n j).take i)])=(n++a).eraseIdx j++[(x,(row (n++a) j).drop i++(row (n++a) j).take i)]:=by
  rw[NQ d,Au,f]
 rw[l]at b ⊢;exact Ix (by rw[Ad];omega) (by rwa[f]) (e _ pt) (e _ b) (by rw[b.length_eq,pt.length_eq]) P.2
open L2
def aH(n:fo)(r:Nat):Str:=((n[r]?).map (·.1)).getD ⟨#[]⟩
def gW{r:Nat}(h:r<n.length):aH n r=n[r].1:=by unfold aH;rw[Ab h];rfl
abbrev Lk:=Str×Str×Str
def ph(n:fo)(x:Lk):Prop:=∃a b,pos n x.1=[a,b]/\x.2.1=aH n a.1/\x.2.2=aH n b.1
structure jd(n:fo)(done:List<|Str×ff)(kM:List<|Key×V)(ls:List Lk):Prop where
 m0:∀z,b8 done z=[]->ao kM (Sum.inr z)=none
 m1:∀z a rest,b8 done z=a :: rest->ao kM (Sum.inr z)=some (.str<|aH n a.1)
 mem:∀x:Lk,x∈ls↔∃a b rest,b8 done x.1=a :: b :: rest/\x.2.1=aH n a.1/\x.2.2=aH n b.1
 de:(ls.map (·.1)).Nodup
 eY:kM.length<=done.length
 nj:ls.length<=done.length
def jd.start(n:fo):jd n [] [] []:=⟨λ_ _=>rfl,λz a c h=>(by cases h),λx=>⟨λh=>(by cases h),λ⟨a,b,c,h,_⟩=>(by cases h)⟩,Cn,Am _,Am _⟩
variable{kM:List (Key×V)}{done:List (Str×ff)}
theorem jd.new{i:List Lk}(I:jd n done kM i)(f:b8 done z=[]):jd n (done++[(z,e)]) (putK kM (Sum.inr z)<|.str<|aH n e.1) i:=by
 refine⟨λy d=>?_,λy a c d=>?_,λx=>?_,I.de,?_,?_⟩
 ·rw[dI]at d;obtain⟨k,j⟩:=Fh.mp d;have l:¬ z=y:=λq=>by rw[BP q]at j;cases j
  rw[dC,BK λq=>l (Sum.inr.inj q).symm];exact I.m0 y k
 ·rw[dI]at d
  by_cases q:z=y
  ·subst q;rw[f,BP rfl]at d;cases d;rw[dC,BP rfl]
  ·rw[BK q,Be]at d;rw[dC,BK λp=>q (Sum.inr.inj p).symm];exact I.m1 y a c d
 ·rw[I.mem x]
  by_cases q:z=x.1
  ·constructor
   ·rintro ⟨a,b,c,h,_⟩;rw[<-q,f]at h;cases h
   ·rintro ⟨a,b,c,h,_⟩;rw[dI,<-q,f,BP rfl]at h;cases h
  ·constructor
   ·rintro ⟨a,b,c,h,r⟩;exact⟨a,b,c,by rwa[dI,BK q,Be],r⟩
   ·rintro ⟨a,b,c,h,r⟩;rw[dI,BK q,Be]at h;exact⟨a,b,c,h,r⟩
 ·have:=jn kM (Sum.inr z)<|.str<|aH n e.1;have:=I.eY;rw[Ad,Cz];omega
 ·have:=I.nj;rw[Ad,Cz];omega
theorem jd.old{j:List Lk}(I:jd n done kM j){a:ff}(i:b8 done z=[a]):jd n (done++[(z,e)]) kM (j++[(z,aH n a.1,aH n e.1)]):=by
 have k:b8 (done++[(z,e)]) z=[a,e]:=by rw[dI,i,BP rfl];rfl
 have l:z∉j.map (·.1):=λh=>by
  obtain⟨x,t,m⟩:=Ai.mp h;obtain⟨b,c,d,s,_⟩:=(I.mem x).mp t;have m:=m;rw[m,i]at s;cases s
 refine⟨λy f=>?_,λy b d f=>?_,λx=>?_,?_,?_,?_⟩
 ·rw[dI]at f;exact I.m0 y (Fh.mp f).1
 ·by_cases q:z=y
  ·subst q;rw[k]at f;cases f;exact I.m1 z a [] i
  ·rw[dI,BK q,Be]at f;exact I.m1 y b d f
 ·rw[An,Af,I.mem x]
  by_cases q:z=x.1
  ·constructor
   ·rintro (⟨b,c,d,h,_⟩|h)
    ·rw[<-q,i]at h;cases h
    ·subst h;exact⟨a,e,[],k,rfl,rfl⟩
   ·rintro ⟨b,c,d,h,o,p⟩;rw[<-q,k]at h;cases h;obtain⟨u,v,w⟩:=x;have q:=q;have o:=o;have p:=p;subst q o p;exact .inr rfl
  ·constructor
   ·rintro (⟨b,c,d,h,r⟩|h)
    ·exact⟨b,c,d,by rwa[dI,BK q,Be],r⟩
    ·subst h;exact absurd rfl q
   ·rintro ⟨b,c,d,h,r⟩;rw[dI,BK q,Be]at h;exact .inl ⟨b,c,d,h,r⟩
 ·rw[Aj];exact lQ I.de l
 ·have:=I.eY;rw[Ad,Cz];omega
 ·have:=I.nj;rw[Ad,Ad];show _+1<=_+1;omega
theorem jd.whole(T:aw n){e:List Lk}(I:jd n (bt n) kM e)(x:Lk):x∈e↔ph n x:=by
 rw[I.mem x]
 constructor
 ·rintro ⟨a,b,c,h,r⟩;have d:pos n x.1=a :: b :: c:=h;have i:=aK.mp (by rw[d];exact Ag ..);have f:=qA n x.1;rw[d,T x.1<|eG i]at f;have:c=[]:=by
   have:c.length+1+1=2:=f;exact Cd.mp<|(by omega)
  rw[this]at d;exact⟨a,b,d,r⟩
 ·rintro ⟨a,b,h,r⟩;exact⟨a,b,[],h,r⟩
inductive Way(ls:List<|Str×Str×Bool)(f:Str):Str->Bool->Prop where
 |here:Way ls f f false
 |there {x y:Str} {b o:Bool}:Way ls f x b->(x,y,o)∈ls->Way ls f y (b != o)
 |back {x y:Str} {b o:Bool}:Way ls f x b->(y,x,o)∈ls->Way ls f y (b != o)
def du(n:fo)(ss:Ñ):Bool:=n.all λr=>(r.2.filter λz=>ss.contains z).length%2 == 0
def iH(T:aw n){x:ff}(h:aJ n e=some z):aJ n x=some z↔x=e\/x=other n e:=by
 obtain⟨k,p,l⟩:=dk T h;refine⟨λj=>?_,λj=>?_⟩
 ·obtain⟨a,b,o,q,c⟩:=qB T h;have f:=aK.mpr j;have i:=aK.mpr k;rw[o]at f i;simp only[Al,Ch,FW]at f i
  obtain c|c:=c
  ·obtain m|m:=f
   ·exact .inl<|m.trans c.symm
   ·obtain d|d:=i
    ·exact absurd (d.trans c.symm) l
    ·exact .inr<|m.trans d.symm
  ·obtain m|m:=f
   ·obtain d|d:=i
    ·exact .inr<|m.trans d.symm
    ·exact absurd (d.trans c.symm) l
   ·exact .inl<|m.trans c.symm
 ·obtain rfl|rfl:=j
  ·exact h
  ·exact k
abbrev Bl:=Str×Str×Bool
def has(Y:List<|Key×V)(x:Str):Prop:=∃v,ao Y (Sum.inr x)=some v
def dL(a:List Bl)(x y:Str)(o:Bool):Prop:=(x,y,o)∈a\/(y,x,o)∈a
def qX(a:List Bl):Ñ:=a.flatMap λl=>[l.1,l.2.1]
def tV{κ:Type}[DecidableEq κ](Y:List<|κ×V)(k:κ)(v:V):(putK Y k v).map (·.1)=if k∈Y.map (·.1)then Y.map (·.1)else Y.map (·.1)++[k]:=by
 have e:(Y.any λc=>decide (c.1=k))=decide (k∈Y.map (·.1)):=by
  rw[Cr,Fc,CK,Ai];exact⟨λ⟨p,a,b⟩=>⟨p,a,BX b⟩,λ⟨p,a,b⟩=>⟨p,a,BW b⟩⟩
 unfold putK;rw[e]
 by_cases h:k∈Y.map (·.1)
 ·rw[BP<|BW h,BP h,Cg];refine Bo λp _=>?_;show(if p.1=k then(p.1,v)else p).1=p.1
  split<;>rfl
 ·rw[BK (by simpa using h),BK h,Aj];rfl
structure b5(ls:List Bl)(f:Str)(hr:Option Str)(Y:List<|Key×V)(wt:Ñ):Prop where
 de:(Y.map (·.1)).Nodup
 txt:∀k∈Y.map (·.1),∃x,k=Sum.inr x/\x∈f :: qX ls
 val:∀x v,ao Y (Sum.inr x)=some v->∃b,v=.bl b/\Way ls f x b
 fst:has Y f
 tW:∀x∈wt,has Y x
 AZ:∀x,some x=hr->has Y x
 cls:∀x,has Y x->x∈wt\/some x=hr\/∀y o,dL ls x y o->has Y y
variable{wt:Ñ}{Y:List (Key×V)}{hr:Option Str}{f:Str}{ls:List Bl}
def b5.je(I:b5 ls f hr Y wt){g:Str}(j:ao Y (Sum.inr g)=none):Sum.inr g∉Y.map (·.1):=by
 intro k;obtain⟨p,h,e⟩:=Ai.mp k;have:∃i:Nat,Y[i]?=some p:=Bj h;obtain⟨i,n⟩:=this;have:∀{l:List (Key×V)},(∃q∈l,q.1=Sum.inr g)->ao l (Sum.inr g)≠none:=λ{l}=>by
  induction l with
  |nil=>rintro ⟨q,a,_⟩;cases a
  |cons c r m=>
   rintro ⟨q,a,e⟩ b
   by_cases d:c.1=Sum.inr g
   ·rw[gJ d]at b;cases b
   ·rw[gK d]at b
    obtain rfl|a:=Al.mp a
    ·exact d e
    ·exact m ⟨q,a,e⟩ b
 exact this ⟨p,h,e⟩ j
def b5.whole(I:b5 ls f none Y []):∀x b,Way ls f x b->∃a,ao Y (Sum.inr x)=some (.bl a):=by
 have j:∀x b,Way ls f x b->has Y x:=λx b w=>by
  induction w with
  |here=>exact I.fst
  |there w c h=>
   obtain d|d|d:=I.cls _ h
   ·cases d
   ·cases d
   ·exact d _ _<|.inl c
  |back w c h=>
   obtain d|d|d:=I.cls _ h
   ·cases d
   ·cases d
   ·exact d _ _<|.inr c
 intro x b w;obtain⟨v,i⟩:=j x b w;obtain⟨a,e,_⟩:=I.val x v i;exact⟨a,by rw[i,e]⟩
theorem wA(a:(Y.map (·.1)).Nodup){k:Key}{v:V}:(k,v)∈Y↔ao Y k=some v:=by
 induction Y with
 |nil=>exact⟨λh=>(by cases h),λh=>(by cases h)⟩
 |cons c r d=>
  rw[Bn,Bk]at a;obtain⟨f,i⟩:=c
  by_cases b:f=k
  ·subst b;rw[gJ rfl]
   constructor
   ·intro h
    obtain e|e:=Al.mp h
    ·cases e;rfl
    ·exact absurd (Ai.mpr ⟨_,e,rfl⟩) a.1
   ·intro h;cases h;exact Ag ..
  ·rw[gK b,<-d a.2]
   constructor
   ·intro h
    obtain e|e:=Al.mp h
    ·cases e;exact absurd rfl b
    ·exact e
   ·exact Ak _
open PyProof.Rows (sortedS)
def ce(n:fo):Prop:=∀P:Str->Prop,(∃r∈n,P r.1)->(∀r∈n,∀s∈n,∀t,t∈r.2->t∈s.2->P r.1->P s.1)->∀r∈n,P r.1
def TD{m:fo}(d:∀r∈n,∃s∈m,s.1=r.1/\∀t∈r.2,t∈s.2)(e:∀s∈m,∃r∈n,r.1=s.1)(h:ce n):ce m:=by
 rintro P ⟨s,f,G⟩ i j k;obtain⟨r,hr,l⟩:=e s f;obtain⟨o,p,c⟩:=e j k;rw[<-c];refine h P ⟨r,hr,by rwa[l]⟩ (λa q b u t v w H=>?_) o p;obtain⟨x,y,z,A⟩:=d a q;obtain⟨B,C,D,E⟩:=d b u;rw[<-D];exact i x y B C t (A t v) (E t w)<|by rwa[z]
def ET(r:Str×List Str):ce [r]:=by
 rintro P ⟨s,a,c⟩ _ x b;rw[Af]at a b;rwa[b,<-a]
def Jz(n:fo)(c:ff)(z:Str)(i:Nat):(ins n c z)[i]?=(n[i]?).map λr=>if c.1=i then(r.1,r.2.take c.2++z :: r.2.drop c.2)else r:=by
 unfold ins;rw[Fs]
 by_cases h:c.1=i
 ·simp[h]
 ·simp[h]
def JA(h:ce n):ce (ins n c z):=by
 refine TD (λr hr=>?_) (λs d=>?_) h
 ·obtain⟨i,a⟩:=Bj hr;have e:=Jz n c z i;rw[a]at e;refine⟨_,At e,?_,λt b=>?_⟩
  ·split<;>rfl
  ·split
   ·show t∈r.2.take c.2++z :: r.2.drop c.2;rw[<-Db c.2 r.2]at b
    obtain q|q:=An.mp b
    ·exact Az _ q
    ·exact Av _<|Ak _ q
   ·exact b
 ·obtain⟨i,a⟩:=Bj d;rw[Jz,Ar]at a;obtain⟨r,hr,e⟩:=a;refine⟨r,At hr,?_⟩;rw[<-e]
  split<;>rfl
def q5p(a:c.1<n.length):∃r∈ins n c z,z∈r.2:=by
 have e:=Jz n c z c.1;rw[Ab a]at e;refine⟨_,At e,?_⟩;show z∈(if c.1=c.1 then((n[c.1].1,n[c.1].2.take c.2++z :: n[c.1].2.drop c.2):Str×List Str)else n[c.1]).2;rw[BP rfl];exact Av _<|Ag ..
def g6(h:ce n)(j:∃r∈n,z∈r.2):ce (n++[(pt,[z])]):=by
 obtain⟨r,hr,e⟩:=j;rintro P ⟨s,k,f⟩ d x l;have i:((pt,[z]):Str×List Str)∈n++[(pt,[z])]:=Av _<|Af.mpr rfl;have c:∀{y},y∈n->y∈n++[(pt,[z])]:=λm=>Az _ m;have all:∀y∈n,P y.1:=by
  refine h P ?_ λa o b p t u v w=>d a (c o) b (c p) t u v w
  obtain q|q:=An.mp k
  ·exact⟨s,q,f⟩
  ·rw[Af]at q;subst q;exact⟨r,hr,d _ i r (c hr) z (Af.mpr rfl) e f⟩
 obtain q|q:=An.mp l
 ·exact all x q
 ·rw[Af]at q;subst q;exact d r (c hr) _ i z e (Af.mpr rfl)<|all r hr
def cD(zs:Ñ):Prop:=zs.Pairwise λa b=>a.cps.toList<b.cps.toList
theorem tX:∀{zs},sortedS zs=true->zs.Nodup->cD zs
 |[],_,_=>List.Pairwise.nil
 |z :: r,h,a=>by
  rw[Bk]at a;refine List.Pairwise.cons (λx b=>?_)<|tX (bK.fz h) a.2;have c:=bK.eQ r z h x b
  obtain q|q:=Gq.mp c
  ·exact q
  ·exact absurd b<|by rw[<-bK.fX q];exact a.1
variable{zs:Ñ}
def tY(h:cD zs):zs.Nodup:=h.imp λq e=>by rw[e]at q;exact Gg _ q
theorem A1:∀{a b},cD a->cD b->(∀x,x∈a↔x∈b)->a=b
 |[],[],_,_,_=>rfl
 |[],y :: b,_,_,h=>by have:=(h y).mpr<|Ag ..;cases this
 |x :: a,[],_,_,h=>by have:=(h x).mp<|Ag ..;cases this
 |x :: a,y :: b,c,d,h=>by
  unfold cD at c d;rw[Do]at c d;have i:x=y:=by
   obtain e|e:=Al.mp ((h x).mp<|Ag ..)
   ·exact e
   ·obtain j|j:=Al.mp ((h y).mpr<|Ag ..)
    ·exact j.symm
    ·exact absurd (Gm (c.1 y j)<|d.1 x e)<|Gg _
  subst i;have k:∀(l:Ñ),(∀z∈l,x.cps.toList<z.cps.toList)->x∉l:=λl m n=>Gg _<|m x n;have:a=b:=A1 c.2 d.2 λz=>by
   constructor
   ·intro f
    obtain e|e:=Al.mp ((h z).mp<|Ak _ f)
    ·exact absurd (e ▸ f)<|k a c.1
    ·exact e
   ·intro f
    obtain e|e:=Al.mp ((h z).mpr<|Ak _ f)
    ·exact absurd (e ▸ f)<|k b d.1
    ·exact e
  rw[this]
def ig(n:fo)(ps:Ñ)(z:Str):Prop:=∃e,aJ n e=some z/\aH n e.1∈ps/\aH n (other n e).1∉ps
variable{ps:Ñ}
def wB(h:ig n ps z):z∈ag n:=by
 obtain⟨e,a,_⟩:=h;exact eG a
def kS(T:aw n)(c:aJ n e=some z):ig n ps z↔(decide (aH n e.1∈ps) != decide (aH n (other n e).1∈ps))=true:=by
 have o:=dk T c
 constructor
 ·rintro ⟨x,d,b,a⟩
  obtain q|q:=(iH T c).mp d
  ·subst q;simp[b,a]
  ·subst q;rw[o.2.1]at a;simp[b,a]
 ·intro h
  by_cases b:aH n e.1∈ps
  ·by_cases a:aH n (other n e).1∈ps
   ·simp[b,a]at h
   ·exact⟨e,c,b,a⟩
  ·by_cases a:aH n (other n e).1∈ps
   ·exact⟨other n e,o.1,a,by rwa[o.2.1]⟩
   ·simp[b,a]at h
def TH(T:aw n){x:Lk}(h:ph n x):∃e,aJ n e=some x.1/\x.2.1=aH n e.1/\x.2.2=aH n (other n e).1:=by
 obtain⟨a,b,c,i,j⟩:=h;have f:=aK.mp (by rw[c];exact Ag ..);have k:aJ n b=some x.1:=aK.mp (by rw[c];simp);have d:=R0 n x.1;rw[c]at d;have l:b≠a:=λq=>by rw[q]at d;simp at d
 obtain q|q:=(iH T f).mp k
 ·exact absurd q l
 ·exact⟨a,f,i,by rw[j,q]⟩
def TK(T:aw n)(h:aJ n e=some z):ph n (z,aH n e.1,aH n (other n e).1)\/ph n (z,aH n (other n e).1,aH n e.1):=by
 obtain⟨a,b,c,d,f⟩:=qB T h;have i:=aK.mp (by rw[c];exact Ag ..);have j:aJ n b=some z:=aK.mp<|by rw[c];simp
 obtain q|q:=f
 ·subst q;refine .inl ⟨e,b,c,rfl,?_⟩
  obtain q|q:=(iH T h).mp j
  ·exact absurd q.symm d
  ·show aH n (other n e).1=aH n b.1;rw[q]
 ·subst q;refine .inr ⟨a,e,c,?_,rfl⟩
  obtain q|q:=(iH T h).mp i
  ·exact absurd q d
  ·show aH n (other n e).1=aH n a.1;rw[q]
def JE(T:aw n){x:Lk}(h:ph n x):ig n ps x.1↔(decide (x.2.1∈ps) != decide (x.2.2∈ps))=true:=by
 obtain⟨e,a,b,c⟩:=TH T h;rw[b,c];exact kS T a
def bn(n:fo):Str:=aH n 0
structure bg(n:fo)(ss sd:Ñ):Prop where
 fI:cD sd
 mem:∀x∈sd,x∈n.map (·.1)
 fst:bn n∉sd
 cut:∀z,z∈ss↔ig n sd z
structure no(n:fo)(ss:Ñ)(ls:List Bl):Prop where
 to:∀e z,aJ n e=some z->dL ls (aH n e.1) (aH n (other n e).1) (decide (z∈ss))
 JI:∀l∈ls,∃e z,aJ n e=some z/\l=(aH n e.1,aH n (other n e).1,decide (z∈ss))
variable{b:Bool}{ss:Ñ}
theorem TL(T:aw n){a:Ñ}(t:no n ss ls)(i:∀z,z∈ss↔ig n a z)(w:Way ls f x b):decide (x∈a)=(decide (f∈a) != b):=by
 have step:∀{x y:Str}{o:Bool},(x,y,o)∈ls->o=(decide (x∈a) != decide (y∈a)):=λ{x y o}h=>by
  obtain⟨e,z,j,c⟩:=t.JI _ h;have k:x=aH n e.1:=BZ (·.1) c;have l:y=aH n (other n e).1:=BZ (·.2.1) c;have m:o=decide (z∈ss):=BZ (·.2.2) c;rw[k,l,m,Cr,CK,i z];exact kS T j
 induction w with
 |here=>simp
 | @there x y b o w h d=>
  rw[step h,d];cases decide (f∈a)<;>cases b<;>cases decide (y∈a)<;>rfl
 | @back x y b o w h d=>
  rw[step h,d];cases decide (f∈a)<;>cases b<;>cases decide (y∈a)<;>rfl
def A2(T:aw n){a:Ñ}(t:no n ss ls)(h:bg n ss a)(w:Way ls (bn n) x b):decide (x∈a)=b:=by
 rw[TL T t h.cut w,BR h.fst];simp
def iI(h:i<n.length):aH n i∈n.map (·.1):=by
 rw[gW h];exact Ai.mpr ⟨_,Bp h,rfl⟩
def Mc(T:aw n)(h:ce n)(c:0<n.length)(t:no n ss ls):∀x∈n.map (·.1),∃b,Way ls (bn n) x b:=by
 intro x l;obtain⟨r,hr,rfl⟩:=Ai.mp l;refine h (λx=>∃b,Way ls (bn n) x b) ⟨n[0],Bp c,false,?_⟩ (λr hr s m z o zs⟨b,w⟩=>?_) r hr
 ·have:bn n=n[0].1:=gW c;rw[<-this];exact .here
 ·obtain⟨i,d,rfl⟩:=Co.mp hr;obtain⟨j,f,rfl⟩:=Co.mp m;obtain⟨p,v⟩:=Bj o;obtain⟨q,y⟩:=Bj zs;have k:aJ n (i,p)=some z:=by show(row n i)[p]?=_;rwa[ic d]
  have u:aJ n (j,q)=some z:=by show(row n j)[q]?=_;rwa[ic f]
  obtain e|e:=(iH T k).mp u
  ·have:j=i:=BZ (·.1) e;subst this;exact⟨b,w⟩
  ·have a:=t.to _ _ k;rw[<-e]at a;rw[show aH n ((i,p):ff).1=n[i].1 from gW d,show aH n ((j,q):ff).1=n[j].1 from gW f]at a
   obtain a|a:=a
   ·exact⟨_,.there w a⟩
   ·exact⟨_,.back w a⟩
noncomputable def dE(n:fo)(ss:Ñ):List Bl:=(ends n).map λe=>(aH n e.1,aH n (other n e).1,decide ((aJ n e).getD ⟨#[]⟩∈ss))
def wC:no n ss (dE n ss):=by
 refine⟨λe z h=> .inl (Ai.mpr ⟨e,af.mpr ⟨z,h⟩,by rw[h];rfl⟩),λl b=>?_⟩;obtain⟨e,c,q⟩:=Ai.mp b;obtain⟨z,a⟩:=af.mp c;exact⟨e,z,a,by rw[<-q,a];rfl⟩
def WP(T:aw n){ls:List Lk}(h:∀x,x∈ls↔ph n x):no n ss (ls.map λx=>(x.2.1,x.2.2,decide (x.1∈ss))):=by
 refine⟨λe z a=>?_,λl b=>?_⟩
 ·obtain q|q:=TK T a
  ·exact .inl<|Ai.mpr ⟨_,(h _).mpr q,rfl⟩
  ·exact .inr<|Ai.mpr ⟨_,(h _).mpr q,rfl⟩
 ·obtain⟨x,c,q⟩:=Ai.mp b;obtain⟨e,a,d,f⟩:=TH T<|(h x).mp c;exact⟨e,x.1,a,by rw[<-q,d,f]⟩
def Mn(T:aw n){a:Ñ}(t:no n ss ls)(f:cD a)(h:∀x∈a,x∈n.map (·.1))(c:∀z,z∈ss↔ig n a z)(w:Way ls (bn n) (bn n) b)(i:bn n∈a↔b=true):bg n ss a:=by
 refine⟨f,h,λd=>?_,c⟩;have e:=TL T t c w;rw[i.mp d,BW d]at e;cases e
def pj(T:aw n)(h:aJ n e=some z):(other n e).1<n.length:=cS (dk T h).1
def k8g(T:aw n){b:Ñ}(h:∀x∈n.map (·.1),x∈b↔x∉ps)(z:Str):ig n ps z↔ig n b z:=by
 have k:∀{e:ff},aJ n e=some z->(ig n ps z↔ig n b z):=λ{e}a=>by
  rw[kS T a,kS T a];have d:=h _<|iI<|cS a;have f:=h _<|iI<|pj T a
  by_cases i:aH n e.1∈ps<;>by_cases j:aH n (other n e).1∈ps<;>simp[d,f,i,j]
 constructor
 ·intro c;obtain⟨e,a,_⟩:=c;exact(k a).mp ⟨e,a,by assumption⟩
 ·intro c;obtain⟨e,a,_⟩:=c;exact(k a).mpr ⟨e,a,by assumption⟩
variable{H:Hp}{X:Cx}
def FF{k:Nat}(y z:Str):jR X H k (.str y) (.str z) (decide (y=z)):=by
 have:=qv (X:=X) (H:=H) (k:=k) (x:= .str y) (y:= .str z) rfl rfl;have e:cC (.str y) (.str z)=decide (y=z):=by
  show(y == z)=_;rw[Cr,CK];simp
 rwa[e]at this
theorem JJ(ys zs:Ñ)(h:ys.length=zs.length):(range ys.length).all (λj=>decide (ys[j]?=zs[j]?))=decide (ys=zs):=by
 rw[Cr,De,CK]
 constructor
 ·intro q;refine Dv λj=>?_
  by_cases a:j<ys.length
  ·exact BX<|q j<|Bc.mpr a
  ·rw[Bd (by omega),Bd<|(by omega)]
 ·rintro rfl j _;exact BW rfl
def tL{a b:Addr}{ys:Ñ}(d:H a=some (Ls ys))(f:H b=some (Ls zs)):lX X H 1 (.ref a) (.ref b) (decide (ys=zs)):=by
 by_cases c:ys.length=zs.length
 ·have q:=Ij (λj=>decide (ys[j]?=zs[j]?)) (aj.of d) (aj.of f) (by rw[Aa,Aa,c]) λj x y i l=>by
   rw[Ah,Ar]at i l;obtain⟨u,m,rfl⟩:=i;obtain⟨v,n,rfl⟩:=l;have:=FF (X:=X) (H:=H) (k:=0) u v;have e:decide (ys[j]?=zs[j]?)=decide (u=v):=by
    rw[m,n,Cr,CK,CK];exact⟨Option.some.inj,λh=>by rw[h]⟩
   rwa[e]
  rwa[Aa,JJ ys zs c]at q
 ·have e:decide (ys=zs)=false:=BR λq=>c (by rw[q]);rw[e];exact zk (aj.of d) (aj.of f)<|by rwa[Aa,Aa]
theorem TR(T:aw n)(t:no n ss ls)(d:0<n.length)(w:Way ls (bn n) x b):x∈n.map (·.1):=by
 have k:∀{x y:Str}{o:Bool},(x,y,o)∈ls->x∈n.map (·.1)/\y∈n.map (·.1):=λ{x y o}h=>by
  obtain⟨e,z,a,c⟩:=t.JI _ h;have f:x=aH n e.1:=BZ (·.1) c;have i:y=aH n (other n e).1:=BZ (·.2.1) c;rw[f,i];exact⟨iI<|cS a,iI<|pj T a⟩
 cases w with
 |here=>exact iI d
 |there w h=>exact(k h).2
 |back w h=>exact(k h).1
def nU(T:aw n)(t:no n ss ls)(d:0<n.length)(I:b5 ls (bn n) none Y []):Y.length<=n.length:=by
 have:=aI I.de λk c=>by
  obtain⟨x,rfl,_⟩:=I.txt k c;have:∃v,ao Y (Sum.inr x)=some v:=by
   cases a:ao Y (Sum.inr x) with
   |some v=>exact⟨v,rfl⟩
   |none=>exact absurd c<|I.je a
  obtain⟨v,a⟩:=this;obtain⟨b,_,w⟩:=I.val x v a;exact Ai.mpr ⟨x,TR T t d w,rfl⟩
 rwa[Aa,Aa,Aa]at this
def Sr(T:aw n)(p:ce n)(j:0<n.length){c:Ñ}(t:no n ss ls)(I:b5 ls (bn n) none Y [])(k:cD c)(d:∀x,x∈c↔ao Y (Sum.inr x)=some (.bl true)):
  ((∀z,z∈ss↔ig n c z)->bg n ss c)/\∀f,bg n ss f->f=c:=by
 constructor
 ·intro r;obtain⟨b,l⟩:=I.whole (bn n) false .here;obtain⟨m,e,w⟩:=I.val _ _ l;cases e;refine Mn T t k (λx a=>?_) r w ?_
  ·obtain⟨m,e,w⟩:=I.val _ _<|(d x).mp a;exact TR T t j w
  ·rw[d,l];exact⟨λq=>V.bl.inj<|Option.some.inj q,λq=>by rw[q]⟩
 ·intro f h;refine A1 h.fI k λx=>?_;rw[d]
  constructor
  ·intro a;obtain⟨b,w⟩:=Mc T p j t x<|h.mem x a;obtain⟨m,o⟩:=I.whole x b w;obtain⟨s,e,i⟩:=I.val _ _ o;cases e;have:=A2 T t h i;rw[BW a]at this;rw[o,<-this]
  ·intro a;obtain⟨s,e,i⟩:=I.val _ _ a;cases e;exact BX<|A2 T t h i
open PyProof.Rows (sortedS)
theorem PP{k:Key}(a:ao Y k=none):k∉Y.map (·.1):=by
 induction Y with
 |nil=>intro h;cases h
 |cons c r d=>
  intro h
  by_cases b:c.1=k
  ·rw[gJ b]at a;cases a
  ·rw[gK b]at a
   obtain q|q:=Al.mp h
   ·exact b q.symm
   ·exact d a q
theorem x1l{a b:Nat}(h:a≠b):¬(Sum.inl (a:Int):Key)=Sum.inl (b:Int):=λq=>h<|by have:=Sum.inl.inj q;omega
def tZ(c:(n.map (·.1)).Nodup){j:Nat}(a:i<n.length)(b:j<n.length)(h:aH n i=aH n j):i=j:=by
 rw[gW a,gW b]at h;have:=(Ay.mp c);rw[Cc]at this
 obtain q|q|q:=RQ i j
 ·exact absurd (by rwa[Dy,Dy])<|this i j (by simpa using a) (by simpa using b) q
 ·exact q
 ·exact absurd (by rw[Dy,Dy];exact h.symm)<|this j i (by simpa using b) (by simpa using a) q
open PyProof.Rows (sortedS)
theorem TU(a b c:Ñ)(h:∀z,z∈c↔(if z∈a then z∉b else z∈b)):∀zs:Ñ,(zs.filter λz=>c.contains z).length%2=((zs.filter λz=>a.contains z).length+(zs.filter λz=>b.contains z).length)%2
 |[]=>rfl
 |z :: r=>by
  have k:=TU a b c h r;have j:=h z;have d:=λl=>(Cu (as:=l) (a:=z));simp only[Cv]
  by_cases e:z∈a<;>by_cases i:z∈b
  ·have f:=λq=>by have:=j.mp q;rw[BP e]at this;exact this i
   rw[BP<|(d a).mpr e,BP<|(d b).mpr i,BK λq=>f<|(d c).mp q,As,As];omega
  ·have f:=j.mpr (by rwa[BP e]);rw[BP<|(d a).mpr e,BK λq=>i<|(d b).mp q,BP<|(d c).mpr f,As,As];omega
  ·have f:=j.mpr (by rwa[BK e]);rw[BK λq=>e<|(d a).mp q,BP<|(d b).mpr i,BP<|(d c).mpr f,As,As];omega
  ·have f:=λq=>by have:=j.mp q;rw[BK e]at this;exact i this
   rwa[BK λq=>e<|(d a).mp q,BK λq=>i<|(d b).mp q,BK λq=>f<|(d c).mp q]
def eZ:du n ss=true↔∀r∈n,(r.2.filter λz=>ss.contains z).length%2=0:=by
 unfold du;rw[De];exact⟨λh r hr=>by simpa using h r hr,λh r hr=>by simpa using h r hr⟩
theorem K4{a b c:Ñ}(d:du n a=true)(e:du n b=true)(h:∀z,z∈c↔(if z∈a then z∉b else z∈b)):du n c=true:=by
 rw[eZ]at d e ⊢;intro r hr;have f:=d r hr;have i:=e r hr;rw[TU a b c h];omega
theorem T1{a:Ñ}(c:a.Nodup):∀l:Ñ,(l.filter λz=>a.contains z).length=(a.map λz=>l.count z).sum
 |[]=>by
  have:∀a:Ñ,(a.map λz=>([]:Ñ).count z).sum=0:=λa=>by
   induction a with
   |nil=>rfl
   |cons x r b=>rw[Bn,Gn,b];rfl
  rw[this];rfl
 |y :: l=>by
  have b:=T1 c l;have key:∀a:Ñ,(a.map λz=>(y :: l).count z).sum=(a.map λz=>l.count z).sum+a.count y:=λa=>by
   induction a with
   |nil=>rfl
   |cons x r b=>
    rw[Bn,Gn,b,Bn,Gn,Dq,Dq]
    by_cases h:y=x
    ·rw[BP (by simp[h]),BP<|by simp[h]];omega
    ·rw[BK (by simpa using h),BK<|by simpa using λq=>h<|Eq.symm q];omega
  rw[key,Cv,<-b,c.count]
  by_cases h:y∈a
  ·rw[BP<|Cu.mpr h,BP h,As]
  ·rw[BK λq=>h<|Cu.mp q,BK h];rfl
theorem T4(T:aw n)(b:ss.Nodup)(c:∀z∈ss,z∈ag n):2*ss.length<=(ag n).length:=by
 have h:=T1 b<|ag n;have e:∀l:Ñ,(∀z∈l,z∈ag n)->(l.map λz=>(ag n).count z).sum=2*l.length:=λl=>by
  induction l with
  |nil=>intro _;rfl
  |cons x r d=>
   intro a;rw[Bn,Gn,d λz f=>a z<|Ak _ f,T x<|a x<|Ag ..,As];omega
 rw[e ss c]at h;rw[<-h];exact Cp _ _
structure f7(n:fo)(cs:Ñ):Prop where
 fI:cD cs
 cut:∃ps,∀z,z∈cs↔ig n ps z
def j9(T:aw n){a b c:Ñ}(u:f7 n a)(v:f7 n b)(w:cD c)(h:∀z,z∈c↔(if z∈a then z∉b else z∈b)):f7 n c:=by
 obtain⟨i,p⟩:=u.cut;obtain⟨j,s⟩:=v.cut;have t:∀x,x∈n.map (·.1)->(decide (x∈(n.map (·.1)).filter λx=>decide (x∈i) != decide (x∈j))=(decide (x∈i) != decide (x∈j))):=λx y=>by
  rw[Cr,CK,Bg];exact⟨λq=>q.2,λq=>⟨y,q⟩⟩
 refine⟨w,(n.map (·.1)).filter λx=>decide (x∈i) != decide (x∈j),λz=>?_⟩;rw[h z]
 by_cases o:z∈ag n
 ·obtain⟨e,m⟩:∃e,e∈pos n z:=by
   cases A:pos n z with
   |nil=>exact absurd A<|eV.mp o
   |cons a r=>exact⟨a,Ag ..⟩
  have m:=aK.mp m;rw[kS T m,t _<|iI<|cS m,t _<|iI<|pj T m];have d:=(p z).trans<|kS T m;have f:=(s z).trans<|kS T m
  by_cases k:z∈a<;>by_cases l:z∈b
  ·have d:=d.mp k;have f:=f.mp l;rw[BP k];refine⟨λq=>absurd l q,λq=>?_⟩
   revert d f q
   cases decide (aH n e.1∈i)<;>cases decide (aH n e.1∈j)<;>cases decide (aH n (other n e).1∈i)<;>cases decide (aH n (other n e).1∈j)<;>simp
  ·have d:=d.mp k;have f:=λq=>l<|f.mpr q;rw[BP k];refine⟨λ_=>?_,λ_=>l⟩
   revert d f
   cases decide (aH n e.1∈i)<;>cases decide (aH n e.1∈j)<;>cases decide (aH n (other n e).1∈i)<;>cases decide (aH n (other n e).1∈j)<;>simp
  ·have d:=λq=>k<|d.mpr q;have f:=f.mp l;rw[BK k];refine⟨λ_=>?_,λ_=>l⟩
   revert d f
   cases decide (aH n e.1∈i)<;>cases decide (aH n e.1∈j)<;>cases decide (aH n (other n e).1∈i)<;>cases decide (aH n (other n e).1∈j)<;>simp
  ·have d:=λq=>k<|d.mpr q;have f:=λq=>l<|f.mpr q;rw[BK k];refine⟨λq=>absurd q l,λq=>?_⟩
   revert d f q
   cases decide (aH n e.1∈i)<;>cases decide (aH n e.1∈j)<;>cases decide (aH n (other n e).1∈i)<;>cases decide (aH n (other n e).1∈j)<;>simp
 ·have B:=λq=>o<|wB<|(p z).mp q;have C:=λq=>o<|wB<|(s z).mp q;rw[BK B];exact⟨λq=>absurd q C,λq=>absurd (wB q) o⟩
def No{y:Str}(h:x≠y):x.cps.toList<y.cps.toList\/y.cps.toList<x.cps.toList:=by
 by_cases q:x.cps.toList<y.cps.toList
 ·exact .inl q
 ·obtain q|q:=Gq.mp (List.not_lt.mp q)
  ·exact .inr q
  ·exact absurd (bK.fX q).symm h
theorem T5(x:Str):∀c:Ñ,cD c->∃b,cD b/\∀y,y∈b↔y=x\/y∈c
 |[],_=>⟨[x],TJ _ _,λy=>by simp⟩
 |z :: r,h=>by
  have h:=Do.mp h
  by_cases e:x=z
  ·subst e;exact⟨x :: r,Do.mpr h,λy=>by simp⟩
  ·obtain q|q:=No e
   ·refine⟨x :: z :: r,Do.mpr ⟨λy a=>?_,Do.mpr h⟩,λy=>Al⟩
    obtain rfl|a:=Al.mp a
    ·exact q
    ·exact Gm q<|h.1 y a
   ·obtain⟨b,f,d⟩:=T5 x r h.2;refine⟨z :: b,Do.mpr ⟨λy a=>?_,f⟩,λy=>?_⟩
    ·obtain rfl|a:=(d y).mp a
     ·exact q
     ·exact h.1 y a
    ·rw[Al,d y,Al];exact⟨λk=>by obtain k|k|k:=k<;>simp[k],λk=>by obtain k|k|k:=k<;>simp[k]⟩
theorem A3:∀l:Ñ,∃a,cD a/\∀x,x∈a↔x∈l
 |[]=>⟨[],List.Pairwise.nil,λ_=>WM⟩
 |x :: r=>by
  obtain⟨a,c,d⟩:=A3 r;obtain⟨e,f,b⟩:=T5 x a c;exact⟨e,f,λy=>by rw[b y,d y,Al]⟩
variable{cs:Ñ}
def WF(T:aw n)(t:0<n.length)(h:f7 n cs):∃b,bg n cs b:=by
 obtain⟨ps,i⟩:=h.cut
 by_cases j:bn n∈ps
 ·obtain⟨b,f,a⟩:=A3 ((n.map (·.1)).filter λx=>!decide (x∈ps));have a:∀x,x∈b↔x∈n.map (·.1)/\x∉ps:=λx=>by
   rw[a x,Bg,RM,JL]
  refine⟨b,f,λx d=>((a x).mp d).1,λq=>((a _).mp q).2 j,λz=>(i z).trans<|k8g T (λx d=>?_) z⟩;rw[a x];exact⟨λq=>q.2,λq=>⟨d,q⟩⟩
 ·obtain⟨b,f,a⟩:=A3 ((n.map (·.1)).filter λx=>decide (x∈ps));have a:∀x,x∈b↔x∈n.map (·.1)/\x∈ps:=λx=>by
   rw[a x,Bg,CK]
  refine⟨b,f,λx d=>((a x).mp d).1,λq=>j ((a _).mp q).2,λz=>(i z).trans ?_⟩;have k:∀{e:ff},aJ n e=some z->(ig n ps z↔ig n b z):=λ{e}c=>by
   rw[kS T c,kS T c];have l:=a<|aH n e.1;have m:=a<|aH n (other n e).1;have o:=iI<|cS c;have p:=iI<|pj T c;have r:decide (aH n e.1∈b)=decide (aH n e.1∈ps):=by rw[Cr,CK,CK,l];exact⟨λq=>q.2,λq=>⟨o,q⟩⟩
   have s:decide (aH n (other n e).1∈b)=decide (aH n (other n e).1∈ps):=by rw[Cr,CK,CK,m];exact⟨λq=>q.2,λq=>⟨p,q⟩⟩
   rw[r,s]
  constructor
  ·intro q;obtain⟨e,c,_⟩:=id q;exact(k c).mp q
  ·intro q;obtain⟨e,c,_⟩:=id q;exact(k c).mpr q
def HF(n:fo):Prop:=ce n/\Fl n
def BU{nm:Str}:HF [(nm,[])]:=⟨ET _,MW⟩
def nL(T:aw n)(F:Full n)(b:z∉ag n)(a:fB n c)(d:(ag<|ins n c z++[(pt,[z])]).Perm<|z :: z :: ag n)(P:HF n):HF (ins n c z++[(pt,[z])]):=
 ⟨g6 (JA P.1)<|q5p a.1,b6 T F b a d P.2⟩
def We(T:aw n)(F:Full n)(a:z∉ag n)(b:fB n k1)(c:fB n k2)(d:(ag<|ins (ins n k1 z) k2 z).Perm<|z :: z :: ag n)(ord:k2=k1\/sh k1 k2=k2)(same:(∃k,it (step n) k k1=k2)\/∃k,it (step n) k k2=k1)(P:HF n):HF (ins (ins n k1 z) k2 z):=
 ⟨JA<|JA P.1,js T F a b c d ord same P.2⟩
def hA{b d:fo}{j:Nat}(c:j<n.length)(e:i<max 1 (row n j).length)(T0:aw d)(pt:(ag n++ag b).Perm<|ag d)
  (f:(ag (n.eraseIdx j)++ag (b++[(n[j].1,(row n j).drop i++(row n j).take i)])).Perm<|ag d) (P:HF<|n++b):HF (n.eraseIdx j++(b++[(n[j].1,(row n j).drop i++(row n j).take i)])):=by
 refine⟨TD (λr hr=>?_) (λx a=>?_) P.1,AN c e T0 pt f P.2⟩
 ·obtain a|a:=An.mp hr
  ·obtain q|q:=(bK.bM n j c).symm.mem_iff.mp a |> Al.mp
   ·refine⟨(n[j].1,(row n j).drop i++(row n j).take i),Av _<|Av _<|Af.mpr rfl,by rw[q],λt k=>?_⟩;refine(Jh (row n j) i).mem_iff.mpr ?_;rwa[ic c,<-q]
   ·exact⟨r,Az _ q,rfl,λt h=>h⟩
  ·exact⟨r,Av _<|Az _ a,rfl,λt h=>h⟩
 ·obtain a|a:=An.mp a
  ·exact⟨x,Az _<|Fa a,rfl⟩
  ·obtain a|a:=An.mp a
   ·exact⟨x,Av _ a,rfl⟩
   ·rw[Af]at a;exact⟨n[j],Az _<|Bp c,by rw[a]⟩
theorem JO(s:Str->Bool):∀l:Ñ,aC (l.map s)=decide ((l.filter s).length%2=1)
 |[]=>rfl
 |x :: l=>by
  show(s x ^^ aC (l.map s))=_;rw[JO s l,Cv];cases h:s x
  ·rw[BK (by decide),Gf]
  ·rw[BP rfl,As,Bool.true_xor,<-decide_not];exact decide_eq_decide.mpr<|(by omega)
theorem q8v(h:du n ss=true):fm n (λz=>ss.contains z):=λr=>by
 rw[JO]
 by_cases hr:r<n.length
 ·have:=eZ.mp h n[r]<|Bp hr;rw[ic hr];exact BR<|(by omega)
 ·have:row n r=[]:=by
   unfold row;rw[Bd<|(by omega)];rfl
  rw[this];rfl
theorem Nd(h:fm n s)(a:∀z∈ag n,ss.contains z=s z):du n ss=true:=eZ.mpr λr hr=>by
 obtain⟨i,b,rfl⟩:=Co.mp hr;have:=h i;rw[JO,ic b]at this;have e:=List.filter_congr λz c=>a z<|Di.mpr ⟨n[i],hr,c⟩;rw[e];have:=GJ this;omega
theorem qY{α:Type}:∀l:List α,aC (l.map λ_=>false)=false
 |[]=>rfl
 |_ :: l=>by show(false ^^ aC _)=false;rw[qY l];rfl
theorem JP(x:Nat)(e:ff):∀m,aC ((range m).map λp=>decide ((x,p)=e))=decide (x=e.1/\e.2<m)
 |0=>by simp[aC]
 |m+1=>by
  rw[Dc,Aj,ni,JP x e m];show(decide (x=e.1/\e.2<m) ^^ (decide ((x,m)=e) ^^ false))=_;rw[Gh];obtain⟨a,b⟩:=e
  by_cases h:x=a
  ·by_cases c:b=m
   ·subst h;subst c;simp
   ·have d:((x,m)=(a,b))=False:=by simp[h];omega
    rw[BR (p:=(x,m)=(a,b)) (by rw[d];exact id),Gh];exact decide_eq_decide.mpr ⟨λq=>⟨q.1,by have:=q.2;omega⟩,λq=>⟨q.1,by have:=q.2;show b<m;omega⟩⟩
  ·rw[BR λq=>h q.1,BR λq=>h<|BZ Prod.fst q,BR λq=>h q.1];rfl
def T6(T:aw n){t:Str}(h:aJ n e=some t)(x:Nat):aC ((row n x).map λy=>decide (y=t))=(decide (x=e.1) ^^ decide (x=(other n e).1)):=by
 have o:=dk T h;rw[Tz n x (λy=>decide (y=t)) (λa=>decide (a=e) ^^ decide (a=other n e)) λp z b=>?_]
 ·rw[kL (λp=>decide ((x,p)=e)) λp=>decide ((x,p)=other n e),JP,JP];have f:=iE h;have i:=iE o.1
  congr 1
  ·exact decide_eq_decide.mpr ⟨λq=>q.1,λq=>⟨q,by rwa[q]⟩⟩
  ·exact decide_eq_decide.mpr ⟨λq=>q.1,λq=>⟨q,by rwa[q]⟩⟩
 ·have b:aJ n (x,p)=some z:=b
  by_cases q:z=t
  ·subst q
   obtain k|k:=(iH T h).mp b
   ·rw[k,BW rfl,BW rfl,BR<|CG o.2.2];rfl
   ·rw[k,BW rfl,BW rfl,BR o.2.2];rfl
  ·have c:((x,p):ff)≠e:=λk=>by rw[k,h]at b;exact q (Option.some.inj b).symm
   have d:((x,p):ff)≠other n e:=λk=>by rw[k,o.1]at b;exact q (Option.some.inj b).symm
   rw[BR q,BR c,BR d];rfl
end Nt
namespace Q1
open PySem L2 Nt bD
def JS:Sp:=λh H Q _=>∃R as n b z e,h=[.ref R,.int b,.str z,.str e]/\al H R as n/\aw n/\Full n/\z∉ag n/\n.length<=100/\(ag n).length<=100 /\
 ∀i f c d,al d R f c->qM H d (R :: as.map (·.2))->(∀a∈f,a∈as\/H a.2=none)->(ag c).Perm (z :: z :: ag n)->(c.map (·.1)=n.map (·.1)\/c.map (·.1)=n.map (·.1)++[e])->Full c->(HF n->HF c)->Q (.int i) d
variable{Z:Heap}{mg:Ò}{K:aa}{w:World}{P:Program}{ts:List Addr}{fd:FuncData}{f d:Addr}{xs:List V}{H H':Hp}{i:Nat}
abbrev NP:Ñ:=["_law_rows","_law_big_here","_law_tie","_law_point","_law_corners","_law_r","_law_place","_law_one","_law_kind","_law_face_here","_law_other_here","_law_spot"]
def pk:ak NP ["_law_rows","_law_big_here","_law_tie","_law_point"] (aP qI):=bZ
def T7{j:Nat}{t:Addr}(h:ts[j]?=some t):fG (ts.map V.ref) (j:Int)=some (.ref t):=oH<|by rw[Ah,h];rfl
theorem dt(F:bo K "_law_put" "_law_put" qI f fd)(T:Txt mg)
  (GS:aQ P w K mg Z 3 "_law_seats" ["_law_rows"] AF)
  (GF:aQ P w K mg Z 3 "_law_face" ["_law_rows","_law_seats_here","_law_end"] Jc):
  aD P w K mg Z bz 4 f fd ["_law_rows","_law_big_here","_law_tie","_law_point"] JS:=by
 refine F.gc pk λb0 H vs Q E hr h=>?_;obtain⟨R,as,n,b,z,pt,rfl,hR,hT,hF,hz,hn,ä,q⟩:=h;have nd:=pk.nd;have hu:=hr.fQ;have b4:=hR.len;refine aT 4 nd<|dS<|ax ⟨Z0,λU T8=>?_⟩;have g0:=aM T8<|.lst [];refine ke T.range (bP dH T.len DR<|ai<|ae 0<|ax ⟨R,_,rfl,.inl<|aj.of<|g0 _ _ hR.lst,_,rfl,(by omega),by rw[Aa];omega,?_⟩);rw[Aa,b4,Bm];refine kg (λr σ H3=>∃ts s u1 u2,ah H H3/\H3 U=some (.lst<|ts.map V.ref)/\Pd H3 ts s/\(∀c∈s,fB n c)/\(0<r->s≠[])/\s.length<=101*r/\σ=[(some (.ref R)),some<|.int b,some<|.str z,some<|.str pt,(some (.ref U)),u1,u2,none,none,none,none,none]) ⟨[],[],_,_,g0,av,.nil,λc hc=>(nomatch hc),λh=>absurd h (by decide),Am _,rfl⟩ ?_ ?_
 ·rintro r σ H3 hi ⟨ts,s,u1,u2,Y,el,ep,hc,bA,L,rfl⟩;rw[Dw];refine a8 5 nd ?_;obtain⟨a,ea,fA,et,Ø,er⟩:=(hR.same Y).at hi;have jU:=ju n r;refine ke T.range<|bP (PF rfl) T.max VL<|ai<|aE<|ai<|bP dH T.len DR<|ai<|bb cv<|bb cL<|ae 0<|ae 5 ⟨R,_,_,.ref a.1,rfl,rfl,aj.of<|Y _ _ hR.lst,fA,aE ⟨a.1,_,_,.ref a.2,rfl,rfl,aS.of et,rfl,ax ⟨a.2,_,rfl,.inl<|aj.of Ø,?_⟩⟩⟩;rw[Aa];have em:(if((row n r).length:Int)>1 then((row n r).length:Int)else 1)=((max 1 (row n r).length:Nat):Int):=by
   split<;>omega
  refine ax ⟨1,_,rfl,((max 1 (row n r).length:Nat):Int),by rw[em],(by omega),(by omega),?_⟩;rw[Bm];refine kg (λp σ H4=>∃ts s u2,ah H H4/\H4 U=some (.lst<|ts.map V.ref)/\Pd H4 ts s/\(∀c∈s,fB n c)/\(0<r+p->s≠[])/\s.length<=101*r+p/\σ=[(some (.ref R)),some<|.int b,some<|.str z,some<|.str pt,(some (.ref U)),some<|.int (r:Int),u2,none,none,none,none,none]) ⟨ts,s,_,Y,el,ep,hc,bA,L,rfl⟩ ?_ ?_
  ·rintro p σ H4 hp ⟨ts,s,u2,Y,el,ep,hc,bA,L,rfl⟩;rw[Dw];refine a8 6 nd<|gq<|jQ<|ae 4 ⟨U,rfl,⟨_,el⟩,fv<|ai<|ae 5<|ai<|ae 6<|ax ⟨Z2,λt ht=>?_⟩⟩;have l7:=bh el ht;have s2:=aM ht<|Tp (r,p);have JU:=ep.length;refine⟨ts.map V.ref,by rwa[au l7],by rw[Aa];exact bI (by omega),?_⟩;refine a7 ⟨ts++[t],s++[(r,p)],_,cX (Y.trans s2) T8,by rw[av,Aj];rfl,?_,λc h=>?_,λ_=>by simp,by rw[Ad];simp;omega,rfl⟩
   ·refine Pd.append (ep.keep λx e h=>?_)<|.cons ?_ .nil
    ·rw[au<|vQ h el];exact s2 _ _ h
    ·rw[au l7.symm,av]
   ·obtain h|h:=An.mp h
    ·exact hc c h
    ·rw[Af]at h;subst h;exact⟨hi,hp⟩
  ·rintro σ H4 ⟨ts,s,u2,Y,el,ep,hc,bA,L,rfl⟩;refine a7 ⟨ts,s,_,_,Y,el,ep,hc,λ_=>bA (by omega),(by omega),rfl⟩
 rintro σ H3 ⟨ts,s,u1,u2,Y,el,ep,hc,bA,L,rfl⟩;have G0:=Du.mpr hF.some;have j4:=bA G0;have fu:0<s.length:=Du.mpr j4;have JU:=ep.length;have m0:0<=b%(s.length:Int):=Bs _ (by omega);have m1:b%(s.length:Int)<s.length:=Ce _ (by omega);obtain⟨j,hj⟩:∃j:Nat,b%(s.length:Int)=j:=⟨(b%(s.length:Int)).toNat,(by omega)⟩;have tM:j<s.length:=(by omega)
 have A4:s[j]?=some s[j]:=Ab tM;obtain⟨B,me,e1⟩:=ep.at A4;have iV:fB n s[j]:=hc _<|Bp tM;generalize s[j]=C at e1 iV;refine aT 7 nd<|bb cL<|ae 4<|aU cJ<|ae 1<|bP dH T.len DR<|ai<|ae 4<|ax ⟨U,_,rfl,.inl<|aj.of el,?_⟩;rw[Aa,JU];refine⟨_,_,rfl,rfl,(by omega),U,_,_,.ref B,rfl,rfl,aj.of el,by rw[hj];exact T7 me,?_⟩;refine aT 1 nd<|aU iY<|ae 1<|bP dH T.len DR<|ai<|ae 4<|ax ⟨U,_,rfl,.inl<|aj.of el,?_⟩;rw[Aa,JU];refine⟨_,_,rfl,rfl,⟨(by omega),(by omega)⟩,?_⟩;show ge _ _ _ [(some (.ref R)),some<|.int<|b/(s.length:Int),some<|.str z,some<|.str pt,(some (.ref U)),u1,u2,(some (.ref B)),none,none,none,none] H3;generalize b/(s.length:Int)=b2;refine aT 8 nd (aU cJ<|ae 1<|aE ⟨_,_,rfl,rfl,(by show(0:Int)<3;decide),?_⟩);refine aT 1 nd (aU iY<|ae 1<|aE ⟨_,_,rfl,rfl,⟨(by decide),(by decide)⟩,?_⟩);show ge _ _ _ [(some (.ref R)),some<|.int<|b2/3,some<|.str z,some<|.str pt,(some (.ref U)),u1,u2,(some (.ref B)),some<|.int<|b2%3,none,none,none] H3;generalize b2/3=b3;have nn:=hR.same Y;obtain⟨a,ea,fA,Ù,T9,å⟩:=nn.at iV.1;have Ua:∀(m:fo),(ag m).length<=200->∀i,(row m i).length<=200:=λm h i=>By (ju m i) h;have é:C.2<=(row n C.1).length:=by
  have:=iV.2;omega
 refine fP<|cH jl<|ae 8<|aE ⟨rfl,_,rfl,?_⟩;refine iq (λ_=>?_) λ_=>a7 ?_
 ·
  have rl:=ju n C.1;refine gq<|zG DW LR MF Ik<|bb cv<|bb cL<|ae 0<|bb cv<|ae 7<|aE ⟨B,_,_,.int (C.1:Int),rfl,rfl,aS.of e1,rfl,R,_,_,.ref a.1,rfl,rfl,aj.of nn.lst,fA,aE ⟨a.1,_,_,.ref a.2,rfl,rfl,aS.of Ù,rfl,Or.inl ⟨rfl,_,aj.of T9⟩,?_⟩⟩;refine bb cv (ae 7<|aE ⟨B,_,_,.int (C.2:Int),rfl,rfl,aS.of e1,rfl,ae 2 ⟨a.2,_,_,_,rfl,rfl,T9,(by omega),by rwa[Bm,Aa],by rw[Aa];exact bI (by omega),?_⟩⟩);rw[Bm,Sj];have R4:=nn.ins (z:=z) ea iV.1;refine gq<|jQ<|ae 0 ⟨R,rfl,⟨_,R4.lst⟩,fv<|ai<|ae 3<|ai<|dS<|ai<|ae 2<|ax ⟨Z1,λl1 hV=>?_⟩⟩;refine ax ⟨Z2,λM jP=>?_⟩;have D:=aM hV<|Ls [z];have G:=aM jP<|.tup [.str pt,.ref l1];have R6:=(R4.same D).same G;refine⟨_,R6.lst,by rw[Aa];exact bI (by omega),?_⟩;have Ú:H3 l1=none:=by
   by_cases q1:l1=a.2
   ·rw[q1,av]at hV;cases hV
   ·rwa[au q1]at hV
  have Û:l1∉as.map (·.2):=λhm=>by
   obtain⟨x,A,e⟩:=Ai.mp hm;exact R4.fresh hV A e.symm
  have Ü:l1≠R:=λe=>by rw[e,R4.lst]at hV;cases hV
  have R7:=R6.more (t:=M) (l:=l1) (pt:=pt) (zs:=[z]) av (G _ _ av) Û Ü;have tp:(ag<|ins n C z++[(pt,[z])]).Perm (z :: z :: ag n):=by
   unfold ag;rw[Dj];show(ag (ins n C z)++[z]).Perm _;exact(Ci).trans<|(l' n C z iV.1).cons z
  refine bQ<|ae 1<|q _ _ _ _ R7 (λx o A iJ=>?_) (λx A=>?_) tp (.inr ?_) ?_ λhP=>nL hT hF hz iV tp hP
  ·have x1:x≠R:=λe=>iJ (by rw[e];exact Ag);have N:x≠a.2:=λe=>iJ (Ak _<|by rw[e];exact Ai.mpr ⟨a,At ea,rfl⟩);rw[au x1];refine G _ _<|D _ _ ?_;rw[au N];exact Y _ _ A
  ·obtain A|A:=An.mp A
   ·exact .inl A
   ·rw[Af]at A;subst A;exact .inr<|Y.free Ú
  ·rw[Aj,Jd];rfl
  ·refine .inr ⟨by simp,λi hi=>?_⟩;have Ý:=(Je (z:=z) hF iV.1 hF.either).1;rw[Ad]at hi;simp at hi
   obtain h|h:=Dr i (ins n C z).length
   ·have:=Ý i h;unfold row at this ⊢;rwa[Aq h]
   ·unfold row;rw[Ba h,show i-(ins n C z).length=0 by omega];simp
 ·
  refine aT 9 nd<|dS<|ai<|ae 7<|ax ⟨Z1,λlf Ub=>?_⟩;have s4:=aM Ub<|.lst [.ref B];have A5:=Y.trans s4;have ra:=nn.same s4;obtain⟨a0,ê,rd,JY,J0,ë⟩:=ra.at G0;have Þ:∀ x∈as,lf≠x.2:=λx A=>nn.fresh Ub A;show ge _ _ _ [(some (.ref R)),some<|.int b3,some<|.str z,some<|.str pt,(some (.ref U)),u1,u2,(some (.ref B)),some<|.int<|b2 % 3,(some (.ref lf)),none,none] (upd H3 lf<|.lst [.ref B]);refine RF (λk H'=>ah (upd H3 lf<|.lst [.ref B]) H'/\(k=true->row n 0≠[])) (λÖ H'=>∃(lf:Addr)(l9:List Addr)(O:List Nt.ff),ah H3 H'/\(∀ x∈as,lf≠x.2)/\H' lf=some (.lst<|l9.map V.ref)/\Pd H' l9 O/\0 < O.length/\O.length<=1000/\(∀ c∈O,fB n c/\∃ k,it (step n) k C=c) /\
   Ö=[(some (.ref R)),some<|.int b3,some<|.str z,some<|.str pt,(some (.ref U)),u1,u2,(some (.ref B)),some<|.int<|b2%3,(some (.ref lf)),none,none]) ?_ ?_ (λH5⟨D,_⟩=>a7 ⟨lf,[B],[C],s4.trans D,Þ,D _ _ av,.cons (D _ _<|s4 _ _ e1) .nil,Fr,by show 1<=1000;decide,λc nq=>by rw[Af]at nq;rw[nq];exact⟨iV,0,rfl⟩,rfl⟩) ?_
  ·refine cH (qw hu)<|bb cv<|bb cL<|ae 0<|aE ⟨R,_,_,.ref a0.1,rfl,rfl,aj.of ra.lst,rd,aE ⟨a0.1,_,_,.ref a0.2,rfl,rfl,aS.of JY,rfl,dS<|ax ⟨Z0,λp hp=>?_⟩⟩⟩;have D:=aM hp<|.lst []
   by_cases h0:row n 0=[]
   ·refine⟨1,_,(by decide),zE (k:=0) (xs:=[]) (ys:=[]) (λ_=>true) (aj.of<|by rw[D _ _ J0,h0];rfl) (aj.of av) rfl (λj x y A _=>by simp at A),_,rfl,D,λh=>by cases h⟩
   ·refine⟨1,_,(by decide),RA (k:=1) (aj.of<|D _ _ J0) (aj.of (xs:=[]) av) (by rw[Aa];intro h;exact h0<|Cd.mp h),_,rfl,D,λ_=>h0⟩
  ·rintro H4 ⟨J1,h0⟩;have h0:=h0 rfl;have ra:=ra.same J1;have qW:=hF.cT h0 iV;have pq:=jv n;refine aT 9 nd (bG GF hr<|ai<|ae 0<|ai<|bG GS hr<|ai<|ae 0<|ax ⟨R,as,n,rfl,ra,(by omega),(by omega),λd ks H5 D n5 S5=>?_⟩);refine ai (ae 7<|ax ⟨R,d,B,as,n,ks,C,rfl,ra.same D,S5,hT,D _ _<|J1 _ _<|s4 _ _ e1,qW,(by omega),λl6 ß à H6 G n6 e6 p6 f6=>?_⟩);exact a7 ⟨l6,ß,à,s4.trans<|J1.trans<|D.trans G,λx A=>(ra.same D).fresh n6 A,e6,p6,f6.pos,by have:=f6.len;omega,λc nq=>⟨xX<|f6.ends hT qW c nq,ky f6 nq⟩,rfl⟩
  ·rintro Ö H5 ⟨lf,l9,O,D,á,J9,Hu,ì,í,J',rfl⟩;have wD:=Hu.length;have n0:0<=b3%(O.length:Int):=Bs _ (by omega);have n1:b3%(O.length:Int)<O.length:=Ce _ (by omega);obtain⟨j2,f9⟩:∃j:Nat,b3%(O.length:Int)=j:=⟨(b3%(O.length:Int)).toNat,(by omega)⟩;have wF:j2<O.length:=(by omega)
   have Ka:O[j2]?=some O[j2]:=Ab wF;obtain⟨M,A6,e2⟩:=Hu.at Ka;obtain⟨rg,Kb⟩:=J' _<|Bp wF;generalize O[j2]=c2 at e2 rg Kb;have qi:=D _ _ e1;refine aT 10 nd<|bb cL<|ae 9<|aU cJ<|ae 1<|bP dH T.len DR<|ai<|ae 9<|ax ⟨lf,_,rfl,.inl<|aj.of J9,?_⟩;rw[Aa,wD];refine⟨_,_,rfl,rfl,(by omega),lf,_,_,.ref M,rfl,rfl,aj.of J9,by rw[f9];exact T7 A6,?_⟩;have A7:=nn.same D;refine lS<|k6q T.sorted<|dS<|ai<|ae 7<|ai<|ae 10<|ax ⟨Z2,λl2 g9=>?_⟩;have G:=aM g9<|.lst [.ref B,.ref M];refine⟨l2,B,M,(C.1:Int),(C.2:Int),(c2.1:Int),(c2.2:Int),rfl,av,G _ _ qi,G _ _ e2,λrr Uc=>?_⟩;have rn:∀x∈as,rr≠x.2:=λx A=>(A7.same G).fresh Uc A;obtain⟨x1,N,I,J,fC,f1,f2,q1,q2,Kc,wG⟩:∃x1 N I J,(if lexLt ((C.1:Int),(C.2:Int)) ((c2.1:Int),(c2.2:Int))=true then [V.ref M,.ref B]else [.ref B,.ref M])=[.ref x1,.ref N]/\(upd H5 l2<|.lst [.ref B,.ref M]) x1=some (Tp I)/\(upd H5 l2<|.lst [.ref B,.ref M]) N=some (Tp J)/\fB n I/\fB n J/\(J=I\/sh I J=J)/\((∃k,it (step n) k I=J)\/∃k,it (step n) k J=I):=by
    cases Ud:lexLt ((C.1:Int),(C.2:Int)) ((c2.1:Int),(c2.2:Int)) with
    |true=>exact⟨M,B,c2,C,rfl,G _ _ e2,G _ _ qi,rg,iV,.inr<|q1n Ud,.inr Kb⟩
    |false=>exact⟨B,M,C,c2,rfl,G _ _ qi,G _ _ e2,iV,rg,wc Ud,.inl Kb⟩
   rw[fC];have s7:=aM Uc<|.lst [.ref x1,.ref N];have f1:=s7 _ _ f1;have f2:=s7 _ _ f2;have G:=G.trans s7;have fr:=av (H:=upd H5 l2<|.lst [.ref B,.ref M]) (a:=rr) (o:= .lst [.ref x1,.ref N]);generalize upd (upd H5 l2<|.lst [.ref B,.ref M]) rr (.lst [.ref x1,.ref N])=H6 at f1 f2 G fr ⊢;have nw:ah H H6:=Y.trans<|D.trans G;have â:=A7.same G;have wH:qM H H6 (R :: as.map (·.2)):=λx o A _=>nw _ _ A;refine⟨rr,rfl,⟨_,aj.of fr⟩,lT (xs:=[.ref x1,.ref N]) (λi σ H7=>∃(m:fo)(u:Option V),al H7 R as m/\qM H H7 (R :: as.map (·.2))/\H7 rr=some (.lst [.ref x1,.ref N])/\H7 lf=some (.lst<|l9.map V.ref)/\H7 x1=some (Tp I)/\H7 N=some (Tp J) /\
    ((i=0/\m=n)\/(i=1/\m=ins n I z)\/(i=2/\m=ins (ins n I z) J z))/\σ=[(some (.ref R)),some<|.int b3,some<|.str z,some<|.str pt,(some (.ref U)),u1,u2,(some (.ref B)),some<|.int<|b2%3,(some (.ref lf)),(some (.ref M)),u]) ⟨n,_,â,wH,fr,G _ _ J9,f1,f2,.inl ⟨rfl,rfl⟩,rfl⟩ ?_ ?_ ?_⟩
   ·rintro i σ H7 _ ⟨m,u,_,_,Kd,_⟩;exact aj.of Kd
   ·rintro i v σ H7 hv ⟨m,u,wI,wJ,Kd,Ue,g1,g2,hm,rfl⟩;have ã:=(l' n I z q1.1).length_eq;rw[As]at ã;obtain⟨y,k,rfl,hy,hk,df,î⟩:∃y k,v=.ref y/\H7 y=some (Tp k)/\fB m k/\((i+1=0/\ins m k z=n)\/(i+1=1/\ins m k z=ins n I z)\/(i+1=2/\ins m k z=ins (ins n I z) J z))/\(ag m).length<=200:=by
     obtain⟨rfl,rfl⟩|⟨rfl,rfl⟩|⟨rfl,rfl⟩:=hm
     ·cases hv;exact⟨x1,I,rfl,g1,q1,.inr<|.inl ⟨rfl,rfl⟩,(by omega)⟩
     ·cases hv;exact⟨N,J,rfl,g2,AG q2 q1.1,.inr<|.inr ⟨rfl,rfl⟩,(by omega)⟩
     ·simp at hv
    refine a8 11 nd ?_;obtain⟨a',Ug,Ke,Kf,nA,ï⟩:=wI.at hk.1;have rl:=ju m k.1;have sy:k.2<=(row m k.1).length:=by
     have:=hk.2;omega
    refine gq<|zG DW LR MF Ik<|bb cv<|bb cL<|ae 0<|bb cv<|ae 11<|aE ⟨y,_,_,.int (k.1:Int),rfl,rfl,aS.of hy,rfl,R,_,_,.ref a'.1,rfl,rfl,aj.of wI.lst,Ke,aE ⟨a'.1,_,_,.ref a'.2,rfl,rfl,aS.of Kf,rfl,Or.inl ⟨rfl,_,aj.of nA⟩,?_⟩⟩;refine bb cv (ae 11<|aE ⟨y,_,_,.int (k.2:Int),rfl,rfl,aS.of hy,rfl,ae 2 ⟨a'.2,_,_,_,rfl,rfl,nA,(by omega),by rwa[Bm,Aa],by rw[Aa];exact bI (by omega),?_⟩⟩);rw[Bm,Sj];have am:a'∈as:=At Ug;refine a7 ⟨ins m k z,_,wI.ins Ug hk.1,λx o A iJ=>?_,by rwa[au<|rn a' am],by rwa[au<|á a' am],by rwa[au<|vQ g1 nA],by rwa[au<|vQ g2 nA],df,rfl⟩;have N:x≠a'.2:=λe=>iJ (Ak _<|by rw[e];exact Ai.mpr ⟨a',am,rfl⟩);rw[au N];exact wJ x o A iJ
   ·rintro σ H7 ⟨m,u,wI,wJ,Kd,Ue,g1,g2,hm,rfl⟩;have em:m=ins (ins n I z) J z:=by
     obtain⟨h,_⟩|⟨h,_⟩|⟨_,h⟩:=hm
     ·exact absurd h<|by show ¬(2=0);decide
     ·exact absurd h<|by show ¬(2=1);decide
     ·exact h
    refine bQ<|aU iY<|ae 1<|bP dH T.len DR<|ai<|ae 9<|ax ⟨lf,_,rfl,.inl<|aj.of Ue,?_⟩;rw[Aa,wD];refine⟨_,_,rfl,rfl,⟨(by omega),(by omega)⟩,?_⟩;have fi:=Je (z:=z) hF q1.1 hF.either;have F2:Full (ins n I z):= .inr ⟨fi.2,fi.1⟩;have Uh:=Je (z:=z) F2 (AG (z:=z) q2 q1.1).1 F2.either;subst em;exact q _ as _ H7 wI wJ (λx A=> .inl A) ((l' _ J z (AG (z:=z) q2 q1.1).1).trans<|(l' n I z q1.1).cons z) (.inl<|by rw[Jd,Jd]) (.inr ⟨Uh.2,Uh.1⟩) λhP=>We hT hF hz q1 q2 ((l' _ J z (AG (z:=z) q2 q1.1).1).trans<|(l' n I z q1.1).cons z) Kc wG hP
def Kg:Sp:=λc H Q _=>∃b m d,c=[.int b,.int m,.int d]/\0<=m/\m<=35 /\
 ∀L as n H',ah H H'->H L=none->al H' L as n->aw n->(n.map (·.1)).Nodup->Full n->HF n->(ag n).length<=2*m.toNat->n.length<=m.toNat+1->(∀a∈as,H a.2=none)->Q (.ref L) H'
abbrev NB:Ñ:=["_law_big_here","_law_most","_law_stem","_law_many","_law_ties","_law_points","_law_rows","_law_k","_law_told","_law_row","_law_size"]
def pv:ak NB ["_law_big_here","_law_most","_law_stem"] (aP qJ):=bZ
def Ui(h:H d=some (.lst xs)):mF K "list" (.ref d) H:=Or.inl ⟨rfl,xs,aj.of h⟩
def iI{b:Int}{m:Nat}(h:i<m):fG ((namesOf b m).map V.str) (i:Int)=some (.str<|aW b i):=zK<|k6d h
theorem FH(F:bo K "_law_net_by" "_law_net_by" qJ f fd)(T:Txt mg)
  (GN:aQ P w K mg Z 4 "_law_names" ["_law_stem","_law_many"] IZ)
  (GP:aQ P w K mg Z 4 "_law_put" ["_law_rows","_law_big_here","_law_tie","_law_point"] JS):
  aD P w K mg Z bz 5 f fd ["_law_big_here","_law_most","_law_stem"] Kg:=by
 refine F.gc pv λb0 H vs Q E A h=>?_;obtain⟨b,m,v,rfl,m0,å,q⟩:=h;have nd:=pv.nd;have hu:=A.fQ;have k0:0<=b%(m+1):=Bs _ (by omega);have k1:b%(m+1)<m+1:=Ce _ (by omega);obtain⟨M,Ø⟩:∃k:Nat,b%(m+1)=k:=⟨(b%(m+1)).toNat,(by omega)⟩;have é:M<=m.toNat:=(by omega)
 refine aT 3 nd<|aU cJ<|ae 0<|aU fj<|ae 1<|aE ⟨_,_,rfl,rfl,?_⟩;refine⟨_,_,rfl,rfl,(by show 0<m+1;omega),?_⟩;refine aT 0 nd<|aU iY<|ae 0<|aU fj<|ae 1<|aE ⟨_,_,rfl,rfl,?_⟩;refine⟨_,_,rfl,rfl,(by show uN b (m+1);exact⟨(by omega),(by omega)⟩),?_⟩;show ge _ _ _ [some<|.int<|b/(m+1),some<|.int m,some<|.int v,some<|.int<|b%(m+1),none,none,none,none,none,none,none] H;rw[Ø];generalize b/(m+1)=b1;refine aT 4 nd (bG GN A<|ai<|ae 2<|ai<|ae 3<|ax ⟨v,(M:Int),rfl,(by omega),(by omega),λlt H1 s1 n1 e1=>?_⟩);rw[Bm]at e1;refine aT 5 nd (bG GN A<|ai<|bb cL<|dS<|ai<|aU fj<|aU iY<|ae 2<|aE ⟨_,_,rfl,rfl,⟨(by decide),(by decide)⟩,aE ⟨_,_,rfl,rfl,ai<|ae 2<|ax ⟨Z2,λp N=>?_⟩⟩⟩);refine mP Il T.m4 JZ (ai<|hG jl<|aU cJ<|ae 2<|aE ⟨_,_,rfl,rfl,(by show(0:Int)<4;decide),aE ⟨rfl,ax ⟨_,rfl,?_⟩⟩⟩);have s2:=aM N<|.lst [.int<|v/3+1,.int v];obtain⟨G,ex⟩:∃G:Int,fG [V.int<|v/3+1,.int v] (if decide (V.int (v%4)=V.int 1)=true then 1 else 0)=some (.int G):=by
  cases decide (V.int (v%4)=V.int 1) with
  |true=>exact⟨v,rfl⟩
  |false=>exact⟨v/3+1,rfl⟩
 refine⟨p,_,_,.int G,rfl,rfl,aj.of av,ex,?_⟩;refine ai (aU fj<|ae 3<|aE ⟨_,_,rfl,rfl,ax ⟨G,(M:Int)+1,rfl,(by omega),(by omega),λlp O s3 n3 e3=>?_⟩⟩);have em:((M:Int)+1).toNat=M+1:=(by omega)
 rw[em]at e3;have rh:=s1.trans<|s2.trans s3;have e1:=s3 _ _<|s2 _ _ e1;refine aT 6 nd<|dS<|ai<|fv<|ai<|bb cL<|ae 5<|aE ⟨lp,_,_,.str<|aW G 0,rfl,rfl,aj.of e3,iI<|Gd _,ai<|dS<|ax ⟨Z0,λl1 hV=>?_⟩⟩;refine ax ⟨Z2,λD Kh=>ax ⟨Z1,λR Ki=>?_⟩⟩;have s4:=aM hV<|Ls [];have s5:=aM Kh<|.tup [.str<|aW G 0,.ref l1];have s6:=aM Ki<|.lst [.ref D];have Ù:al (upd (upd (upd O l1<|.lst []) D<|.tup [.str<|aW G 0,.ref l1]) R<|.lst [.ref D]) R [(D,l1)] [(aW G 0,[])]:=by
  refine⟨rfl,av,λi a r h1 h2=>?_,by simp⟩;cases i with
  |zero=>
   cases h1;cases h2;exact⟨s6 _ _ av,s6 _ _<|s5 _ _ av⟩
  |succ i=>simp at h1
 have fR:=s4.free<|s5.free Ki;refine ke T.range (ae 3 ⟨(M:Int),rfl,(by omega),(by omega),?_⟩);rw[Bm];refine kg (λk σ H3=>∃as n b u,al H3 R as n/\ah O H3/\(∀ a∈as,O a.2=none)/\Full n/\HF n/\(ag n).Perm (dbl<|namesOf v k)/\n.map (·.1)=namesOf G n.length/\n.length<=k+1 /\
  σ=[some<|.int b,some<|.int m,some<|.int v,some<|.int (M:Int),(some (.ref lt)),(some (.ref lp)),(some (.ref R)),u,none,none,none]) ⟨_,_,b1,_,Ù,s4.trans<|s5.trans s6,λa I=>by rw[Af]at I;rwa[I],.inl ⟨_,rfl⟩,BU,List.Perm.refl _,rfl,Am _,rfl⟩ ?_ ?_
 ·rintro k σ H3 hk ⟨as,n,b,u,d,B,i0,hF,A8,N,Kj,Ö,rfl⟩;rw[Dw];refine a8 7 nd ?_;have b4:=d.len;have tl:=N.length_eq;rw[Jg,Iv]at tl;have nz:aW v k∉ag n:=λh=>by
   have h1:=jb.mp<|N.mem_iff.mp h;have h2:=zP (b:=v) (m:=k+1) (by omega);rw[zQ,Cj]at h2;exact h2.2.2 _ h1 _ (Af.mpr rfl) rfl
  have C:0<n.length:=Du.mpr hF.some;refine aT 0 nd<|bG GP A<|ai<|ae 6<|ai<|ae 0<|ai<|bb cL<|ae 4<|ae 7 ⟨lt,_,_,.str<|aW v k,rfl,rfl,aj.of<|B _ _ e1,iI hk,?_⟩;refine ai<|bb cL<|ae 5<|bP dH T.len DR<|ai<|ae 6<|ax ⟨R,_,rfl,.inl<|aj.of d.lst,?_⟩;rw[Aa,b4];refine⟨lp,_,_,.str<|aW G n.length,rfl,rfl,aj.of<|B _ _ e3,iI (by omega),?_⟩;refine ax ⟨R,as,n,b,aW v k,aW G n.length,rfl,d,Sl (zP<|(by omega)) N,hF,nz,(by omega),(by omega),λi qZ n' H' Ú kp Kk pA wK Û Kl=>?_⟩;have Ü:ah O H':=λx o c=>by
   refine kp x o (B _ _ c) λhm=>?_
   obtain h|h:=Al.mp hm
   ·rw[h,fR]at c;cases c
   ·obtain⟨y,hy,e⟩:=Ai.mp h;rw[<-e,i0 y hy]at c;cases c
  refine a7 ⟨qZ,n',i,_,Ú,Ü,λy hy=>?_,Û,Kl A8,?_,?_,?_,rfl⟩
  ·obtain h|h:=Kk y hy
   ·exact i0 y h
   ·exact B.free h
  ·refine pA.trans ?_;rw[zQ,dy];refine List.Perm.trans ?_ Ci;exact((N.cons _).cons _)
  ·obtain h|h:=wK
   ·have J:=BZ List.length h;rw[Aa,Aa]at J;rwa[h,J]
   ·have J:=BZ List.length h;rw[Aa,Ad,Aa]at J;have oR:n'.length=n.length+1:=J;rw[h,oR,zQ,Kj]
  ·obtain h|h:=wK
   ·have J:=BZ List.length h;rw[Aa,Aa]at J;omega
   ·have J:=BZ List.length h;rw[Aa,Ad,Aa]at J;have oR:n'.length=n.length+1:=J;omega
 rintro σ H3 ⟨Ý,C,b,u,d,B,i0,hF,ê,N,Kj,Ö,rfl⟩;have tl:=N.length_eq;rw[Jg,Iv]at tl;have Uj:aw C:=Sl (zP<|(by omega)) N;have Þ:(C.map (·.1)).Nodup:=by rw[Kj];exact zP<|(by omega)
 refine aT 8 nd<|dS<|ax ⟨Z0,λL hL=>?_⟩;have s7:=aM hL<|.lst [];have Uk:R≠L:=bh d.lst hL;have fL:O L=none:=B.free hL;have A9:al (upd H3 L<|.lst []) L [] []:=⟨rfl,av,λi a r h1=>by simp at h1,by simp⟩;refine vP (λk σ H4=>∃(as U:Ï)(n s:fo)(b:Int)(u9 Ul:Option V),k=n.length/\al H4 R as n/\al H4 L U s/\ah O H4/\(∀ a∈as,a.2≠L)/\(∀ a∈U,a.2≠R)/\(∀ a∈U,O a.2=none)/\n.length+s.length=C.length /\
   (ag n++ag s).Perm (ag C)/\(n.map (·.1)++s.map (·.1)).Perm (C.map (·.1))/\(NE C->NE n/\NE s)/\HF (n++s) /\
   σ=[some<|.int b,some<|.int m,some<|.int v,some<|.int (M:Int),(some (.ref lt)),(some (.ref lp)),(some (.ref R)),u,(some (.ref L)),u9,Ul])
  (m0:=C.length) ⟨Ý,[],C,[],b,_,_,rfl,d.same s7,A9,B.trans s7,λa I=>(d.fresh hL I).symm,λa I=>(nomatch I),λa I=>(nomatch I),rfl,by simp[ag],by simp,λh=>⟨h,λr A=>(nomatch A)⟩,by rwa[Be],rfl⟩ ?_
 rintro k σ H4 ⟨as,U,n,s,b,u9,Ul,rfl,d,nB,B,aL,aR,Um,wL,pt,pn,bA,A8,rfl⟩;have b4:=d.len;have Km:=nB.len;have Kn:(ag n).length<=70:=by
  have:=pt.length_eq;rw[Ad]at this;omega
 refine cH (qw hu)<|ae 6<|dS<|ax ⟨Z0,λp kd=>?_⟩;have Y:=aM kd<|.lst []
 by_cases h0:n=[]
 ·subst h0;have ea:as=[]:=Cd.mp (by simpa using b4);subst ea;refine⟨1,_,(by decide),zE (k:=0) (xs:=[]) (ys:=[]) (λ_=>true) (aj.of<|Y _ _ d.lst) (aj.of av) rfl (λj x y c _=>by simp at c),_,rfl,bH<|bQ<|ae 8 ?_⟩;have gU:(ag s).Perm (ag C):=pt;have ß:(s.map (·.1)).Perm (C.map (·.1)):=pn;have l2:s.length=C.length:=by simpa using wL
  refine q L U s _ (rh.trans<|B.trans Y) (rh.free fL) (nB.same Y) (λz hz=>?_) (ß.nodup_iff.mpr Þ) ?_ A8 (by rw[gU.length_eq];omega) (by omega) λa I=>rh.free<|Um a I
  ·rw[gU.count_eq];exact Uj z<|gU.mem_iff.mp hz
  ·obtain⟨nm,h⟩|h:=hF.ne
   ·subst h;have t0:ag s=[]:=List.Perm.eq_nil gU
    match s,l2,t0 with
    |[(ë,zs)],_,t0=>
     have:zs=[]:=by simpa[ag]using t0
     subst this;exact .inl ⟨_,rfl⟩
   ·refine vl (bA h).2 λe=>?_;rw[e]at l2;exact hF.some<|Cd.mp l2.symm
 ·have np:0<n.length:=Du.mpr h0;refine⟨1,_,(by decide),RA (k:=1) (aj.of<|Y _ _ d.lst) (aj.of (xs:=[]) av) (by rw[Aa,b4];exact Cw np),_,rfl,cz ?_⟩;have d:=d.same Y;have nB:=nB.same Y;have B:=B.trans Y;generalize upd H4 p (.lst [])=H5 at d nB B ⊢;have r0:0<=b%(n.length:Int):=Bs _ (by omega);have r1:b%(n.length:Int)<n.length:=Ce _ (by omega);obtain⟨j,hj⟩:∃k:Nat,b%(n.length:Int)=k:=⟨(b%(n.length:Int)).toNat,(by omega)⟩;have ri:j<n.length:=(by omega)
  obtain⟨a,ea,fA,et,el,er⟩:=d.at ri;refine aT 9 nd<|zF DW VN VP ZO<|ae 6 ⟨Ui d.lst,aU cJ<|ae 0<|bP dH T.len DR<|ai<|ae 6<|ax ⟨R,_,rfl,.inl<|aj.of d.lst,?_⟩⟩;rw[Aa,b4];refine⟨_,_,rfl,rfl,(by omega),R,_,_,j,.ref a.1,rfl,rfl,d.lst,by rw[hj];omega,by rw[hj];omega,?_,?_,?_⟩
  ·rw[hj,Aa,b4];unfold seqIndex?;have c1:¬((j:Int)<0):=(by omega)
   simp only[c1,CV];have c2:(decide (0<=(j:Int)) && decide ((j:Int)<(n.length:Int)))=true:=by
    rw[Bq,DN,DN];omega
   rw[BP c2,Bm]
  ·rw[Ah,ea];rfl
  have R6:=d.erase ri;have am:a∈as:=At ea;have Ko:∀x∈as,x.2≠R:=λx c e=>by
   obtain⟨zs,e2⟩:=d.lists c;have h3:=d.lst;rw[<-e,e2]at h3;have h4:=HO.lst.inj<|Option.some.inj h3;cases as with
   |nil=>cases c
   |cons b' bs=>
    cases zs with
    |nil=>simp at h4
    |cons y r=>simp at h4
  have L6:=nB.upd (o:= .lst<|(as.map λa=>V.ref a.1).eraseIdx j) d.lst Uk.symm aR;have pC:(upd H5 R<|.lst<|(as.map λa=>V.ref a.1).eraseIdx j) a.1=some (.tup [.str n[j].1,.ref a.2]):=by rwa[au<|bV et d.lst λe=>nomatch e]
  have BA:(upd H5 R<|.lst<|(as.map λa=>V.ref a.1).eraseIdx j) a.2=some (Ls<|row n j):=by rwa[au<|Ko a am]
  have nw:ah O (upd H5 R<|.lst<|(as.map λa=>V.ref a.1).eraseIdx j):=cX B fR;generalize upd H5 R (.lst<|(as.map λa=>V.ref a.1).eraseIdx j)=H6 at R6 L6 pC BA nw ⊢;have à:=R6.len;have rj:(n.eraseIdx j).length=n.length-1:=by rw[Dg,BP ri]
  refine aT 0 nd<|aU iY<|ae 0<|aU fj<|bP dH T.len DR<|ai<|ae 6<|ax ⟨R,_,rfl,.inl<|aj.of R6.lst,aE ⟨_,_,rfl,rfl,?_⟩⟩;rw[Aa,à,rj];refine⟨_,_,rfl,rfl,⟨(by omega),(by omega)⟩,?_⟩;have ì:=ju n j;refine aT 10 nd<|bP (PF rfl) T.max VL<|ai<|aE<|ai<|bP dH T.len DR<|ai<|bb cv<|ae 9<|aE ⟨a.1,_,_,.ref a.2,rfl,rfl,aS.of pC,rfl,ax ⟨a.2,_,rfl,.inl<|aj.of BA,?_⟩⟩;rw[Aa];refine ax ⟨1,_,rfl,?_⟩;have á:(if((row n j).length:Int)>1 then((row n j).length:Int)else 1)=((max 1 (row n j).length:Nat):Int):=by
   split<;>omega
  rw[á];show ge _ _ _ [some<|.int<|b/((n.length-1:Nat)+1:Int),some<|.int m,some<|.int v,some<|.int (M:Int),(some (.ref lt)),(some (.ref lp)),(some (.ref R)),u,(some (.ref L)),some<|.ref a.1,some<|.int ((max 1 (row n j).length:Nat):Int)] H6;generalize b/((n.length-1:Nat)+1:Int)=b2;have z0:0<=b2%((max 1 (row n j).length:Nat):Int):=Bs _ (by omega);obtain⟨i,hi⟩:∃k:Nat,b2%((max 1 (row n j).length:Nat):Int)=k:=⟨(b2%((max 1 (row n j).length:Nat):Int)).toNat,(by omega)⟩;refine gq<|jQ<|ae 8 ⟨L,rfl,⟨_,L6.lst⟩,fv<|ai<|bb cv<|ae 9<|aE ⟨a.1,_,_,.str n[j].1,rfl,rfl,aS.of pC,rfl,?_⟩⟩;refine ai (aU yW<|y7 yU<|bb cv<|ae 9<|aE ⟨a.1,_,_,.ref a.2,rfl,rfl,aS.of pC,rfl,y9<|aU cJ<|ae 0<|ae 10 ⟨b2,((max 1 (row n j).length:Nat):Int),rfl,rfl,(by omega),_,rfl,y8 ⟨a.2,_,rfl,aj.of BA,λp1 wM=>?_⟩⟩⟩);rw[hi,Nw];have D:=aM wM<|Ls<|(row n j).drop i;refine y7 yU (bb cv<|ae 9<|aE ⟨a.1,_,_,.ref a.2,rfl,rfl,aS.of<|D _ _ pC,rfl,y8<|y9<|aU cJ<|ae 0<|ae 10 ⟨b2,((max 1 (row n j).length:Nat):Int),rfl,rfl,(by omega),_,rfl,a.2,_,rfl,aj.of<|D _ _ BA,λp2 kd=>?_⟩⟩);rw[hi,SE];have t2:=aM kd<|Ls<|(row n j).take i;refine⟨p1,p2,_,_,rfl,rfl,t2 _ _ av,av,?_,λp3 nG=>?_⟩
  ·rw[Aa,Aa,Dd,Bh];exact r9<|(by omega)
  rw[<-Aj];have t3:=aM nG<|Ls<|(row n j).drop i++(row n j).take i;refine ax ⟨Z2,λt4 â=>?_⟩;have s4:=aM â<|.tup [.str n[j].1,.ref p3];have rk:=D.trans<|t2.trans<|t3.trans s4;have L7:=L6.same rk;have R7:=R6.same rk;have ã:p3≠L:=λe=>by rw[e,(D.trans t2) _ _ L6.lst]at nG;cases nG
  have í:p3≠R:=λe=>by rw[e,(D.trans t2) _ _ R6.lst]at nG;cases nG
  have ä:p3∉U.map (·.2):=λhm=>by
   obtain⟨y,hy,e⟩:=Ai.mp hm;exact(L6.same<|D.trans t2).fresh nG hy e.symm
  have L8:=L7.more (t:=t4) (l:=p3) (pt:=n[j].1) (zs:=(row n j).drop i++(row n j).take i) av (s4 _ _ av) ä ã;refine⟨_,L7.lst,by rw[Aa,Km];exact bI (by omega),?_⟩;have Uo:∀x∈as.eraseIdx j,x.2≠L:=λx c=>aL x<|Fa c;have R8:=R7.upd (o:= .lst<|U.map (λa=>V.ref a.1)++[.ref t4]) L7.lst Uk Uo;refine aT 0 nd (aU iY<|ae 0<|ae 10 ⟨b2,((max 1 (row n j).length:Nat):Int),rfl,rfl,⟨(by omega),(by omega)⟩,?_⟩);have pe:=Sn n j ri;have ne:=pU n j ri;have Uq:(ag (n.eraseIdx j)++ag (s++[(n[j].1,(row n j).drop i++(row n j).take i)])).Perm (ag C):=by
   refine List.Perm.trans ?_ pt;unfold ag;rw[Dj];show(ag (n.eraseIdx j)++(ag s++(((row n j).drop i++(row n j).take i)++[]))).Perm _;rw[Be,er];have w1:(n[j].2.drop i++n[j].2.take i).Perm n[j].2:=Jh _ _;refine((w1.append_left _).append_left _).trans ?_;have w2:(ag n++ag s).Perm ((n[j].2++ag (n.eraseIdx j))++ag s):=pe.append_right _;refine List.Perm.trans ?_ w2.symm;rw[Au];refine List.Perm.trans ?_<|Ci (l₁:=ag (n.eraseIdx j)++ag s);rw[Au]
  refine a7 ⟨n.length-1,(by omega),as.eraseIdx j,U++[(t4,p3)],n.eraseIdx j,s++[(n[j].1,(row n j).drop i++(row n j).take i)],_,_,_,rj.symm,R8,L8,cX (nw.trans rk) fL,Uo,λx c=>?_,λx c=>?_,?_,Uq,?_,λh=>⟨λr A=>?_,λr A=>?_⟩,hA ri (by have:=Ce b2 (show(0:Int)<((max 1 (row n j).length:Nat):Int) by omega);rw[hi]at this;exact Int.ofNat_lt.mp this) Uj pt Uq A8,rfl⟩
  ·obtain c|c:=An.mp c
   ·exact aR x c
   ·rw[Af]at c;rwa[c]
  ·obtain c|c:=An.mp c
   ·exact Um x c
   ·rw[Af]at c;rw[c];exact nw.free<|D.free<|t2.free nG
  ·rw[Ad,rj];simp;omega
  ·refine List.Perm.trans ?_ pn;rw[Aj];show((n.eraseIdx j).map (·.1)++(s.map (·.1)++[n[j].1])).Perm _;refine List.Perm.trans ?_ (ne.append_right _).symm;rw[<-Au];exact Ci
  ·exact(bA h).1 r<|Fa A
  ·obtain A|A:=An.mp A
   ·exact(bA h).2 r A
   ·rw[Af]at A;rw[A];intro e;have w1:=(Jh (row n j) i).length_eq;have e':(row n j).drop i++(row n j).take i=[]:=e;rw[e']at w1;have:=(bA h).1 n[j]<|Bp ri;rw[er]at w1;exact this<|Cd.mp w1.symm
def Kq:Sp:=λc H Q _=>∃R as n,c=[.ref R]/\al H R as n/\n.length<=1000/\∀L b H',ah H H'->H L=none->(∀a∈b,H a.1=none/\H a.2=none)->al H' L b n->Q (.ref L) H'
theorem jV{l:Addr}(s:ah H H')(h:H' l=none):H l=none:=by
 cases e:H l with
 |none=>rfl
 |some v=>rw[s _ _ e]at h;cases h
abbrev NC:Ñ:=["_law_rows"]
abbrev Ur:Ñ:=["_law_rows","_law_row"]
def kW:ak NC ["_law_rows"] (aP z6):=bZ
def Kr:Ur.Nodup:=by decide +kernel
theorem wd(F:bo K "_law_copy" "_law_copy" z6 f fd)(T:Txt mg):aD P w K mg Z bz 1 f fd ["_law_rows"] Kq:=by
 refine F.gc kW λb0 H vs Q E hr h=>?_;obtain⟨R,as,n,rfl,C,hn,q⟩:=h;have b4:=C.len;refine bQ<|gu (aP z6) NC Ur 1 (eB bd)<|ae 0 ⟨R,rfl,⟨_,aj.of C.lst⟩,λD M=>?_⟩;refine jS (xs:=as.map λa=>V.ref a.1) (λi m H'=>(∃ v,m=[(some (.ref R))]++[v])/\∃ k:Ï,k.length=i/\H' D=some (.lst<|k.map λa=> .ref a.1) /\
  (∀(j:Nat)a r,k[j]?=some a->n[j]?=some r->H' a.1=some (.tup [.str r.1,.ref a.2])/\H' a.2=some (Ls r.2))/\(k.map (·.2)).Nodup/\(∀a∈k,a.2≠D/\H a.1=none/\H a.2=none/\∃G,H' a.2=some (Ls G))/\ah H H')
  ⟨⟨none,rfl⟩,[],rfl,av,λj a r h=>by simp at h,Cn,λa h=>by simp at h,aM M _⟩ ?_ ?_ ?_
 ·rintro i m H' _ ⟨_,k,_,_,_,_,_,p⟩;exact aj.of<|p _ _ C.lst
 ·rintro i x m H' N ⟨⟨v,rfl⟩,k,O,s,U,Y,y,p⟩;have hi:i<n.length:=by
   have:=(Ac.mp N).1;rw[Aa]at this;omega
  obtain⟨a,ea,fA,et,el,er⟩:=(C.same p).at hi;rw[Ah,ea]at N;cases N;intro cl C' æ ç ex;refine a8 1 Kr ?_;intro cl C' æ ç ex;refine iA ?_;rw[BP rfl];intro cl C' æ ç ex;refine fv<|ai<|bb cv<|ae 1<|aE ⟨a.1,_,_,.str n[i].1,rfl,rfl,aS.of et,rfl,?_⟩;refine ai<|mP E5 T.gR IK<|ai<|bb cv<|ae 1<|aE ⟨a.1,_,_,.ref a.2,rfl,rfl,aS.of et,rfl,?_⟩;refine ax ⟨a.2,_,rfl,.inl<|aj.of el,λl u=>ax ⟨Z2,λt ht=>?_⟩⟩;have iw:=jV p u;have Kt:t≠l:=λe=>by rw[e,av]at ht;cases ht
  have A:H' t=none:=by rwa[au Kt]at ht
  have rm:=jV p A;have I:l≠D:=λe=>by rw[e]at u;rw[u]at s;cases s
  have BD:t≠D:=λe=>by rw[e]at A;rw[A]at s;cases s
  refine⟨k.map λa=> .ref a.1,?_,?_,⟨_,rfl⟩,k++[(t,l)],by rw[Ad,O];rfl,?_,?_,?_,?_,?_⟩
  ·rwa[au<|CG BD,au<|CG I]
  ·rw[Aa];exact bI<|(by omega)
  ·rw[av,Aj];rfl
  ·intro j b r d kR
   by_cases hj:j<k.length
   ·rw[Aq hj]at d;obtain⟨B,J⟩:=U j b r d kR;have Ö:=(y b<|At d).1;have n1:b.1≠D:=bV B s λz=>nomatch z;refine⟨?_,?_⟩
    ·rwa[au n1,au<|bh B A,au<|bh B u]
    ·rwa[au Ö,au<|bh J A,au<|bh J u]
   ·rw[Ba<|(by omega)]at d;have f9:j-k.length=0:=by
     have:=(Ac.mp d).1;simp at this;omega
    have BE:j=i:=(by omega)
    rw[f9]at d;cases d;rw[BE,Ab hi]at kR;cases kR;refine⟨?_,?_⟩
    ·rw[au BD,av]
    ·rw[au I,au<|CG Kt,av,er]
  ·rw[Aj];refine lQ Y λhm=>?_;obtain⟨b,d,e⟩:=Ai.mp hm;obtain⟨_,_,_,G,q⟩:=y b d;have e':b.2=l:=e;rw[e',u]at q;cases q
  ·intro b d
   obtain d|d:=An.mp d
   ·obtain⟨B,J,q3,G,q4⟩:=y b d;refine⟨B,J,q3,G,?_⟩;rwa[au B,au<|bh q4 A,au<|bh q4 u]
   ·rw[Af.mp d];refine⟨I,rm,iw,row n i,?_⟩;rw[au I,au<|CG Kt,av]
  ·intro c o L;rw[au<|bh L M,au<|bh L rm,au<|bh L iw];exact p _ _ L
 ·rintro m H' ⟨_,k,O,s,U,Y,y,p⟩;rw[Aa]at O;exact q D k H' p M (λa ha=>⟨(y a ha).2.1,(y a ha).2.2.1⟩) ⟨(by omega),s,U,Y⟩
abbrev Tn(p:Str)(j:Int):HO:= .tup [.str p,.int j]
def wO:Sp:=λb H Q _=>∃(t l:Addr)(p:Str)(a:Ñ),b=[.ref t]/\H t=some (.tup [.str p,.ref l])/\H l=some (Ls a)/\a.length<=1000 /\
 ∀(L:Addr)(ts:List Addr)(H':Hp),ah H H'->H L=none->H' L=some (.lst<|ts.map V.ref)->ts.length=a.length->(∀(j:Nat)t,ts[j]?=some t->H' t=some (Tn p j))->Q (.ref L) H'
variable{N':Ñ}{σ:St}{scope:Scope}{ifs:Ô}{tg:Expr}{X:Cx}
section
variable{elt:Expr}{A:Addr}{after:Hp->Prop}
theorem Ku{lo:Int}{n:Nat}(Pv:Nat->St->Hp->Prop)(j:Pv 0 σ H)
  (k : ∀ i a H', i < n → Pv i a H' → vw X N' scope tg (.int<|lo + i) a H' λc l => vx X N' scope ifs c l λb f =>
   if b=true then vt X N' scope elt c f λv h=>∃ys,h A=some (.lst ys)/\ys.length<sizeLine/\Pv (i+1) c (upd h A<|.lst<|ys++[v])else Pv (i+1) c f)
  (hd:∀a H',Pv n a H'->after H'):lU X N' scope tg ifs elt (sN lo n) A after σ H:=by
 refine⟨λi m a H'=>m=n-i/\i<=n/\Pv i a H',⟨_,rfl,Bu _,j⟩,?_⟩;rintro i m a H' ⟨rfl,q,p⟩
 by_cases d:i<n
 ·refine .inr ⟨d,Pv<|i+1,λa H' o=>⟨n-(i+1),(by omega),rfl,d,o⟩,λx r y=>?_⟩;obtain⟨e,y⟩:=y;subst e y;exact k i a _ d p
 ·have e:i=n:=(by omega)
  subst e;exact .inl ⟨Am _,hd a H' p⟩
end
variable{Y:List (Key×V)}{r:Str×List Str}{as:Ï}{n:fo}
abbrev Us:Ñ:=["row","point","ties"]
abbrev Ut:Ñ:=["row","point","ties","place"]
def kX:ak Us ["row"] (aP zR):=bZ
def nk:Ut.Nodup:=by decide +kernel
theorem mm(F:bo K "ends_round" "ends_round" zR f fd)(T:Txt mg):aD P w K mg Z bz 1 f fd ["row"] wO:=by
 refine F.gc kX λb0 H vs Q E hr h=>?_;obtain⟨t,l,p,zs,rfl,M,N,hz,q⟩:=h;have nd:=kX.nd;refine F8<|ae 0<|jT rfl (aS.of M) (a8 1 nd<|a8 2 nd ?_);refine bQ<|gu (aP zR) Us Ut 1 (yM rfl T.range (ta:=vh _ _) gL (qf _ [] _ rfl)) ?_;show Ea _ _ _ _ _;refine ai (bP dH T.len DR<|ai<|ae 2<|ax ⟨l,_,rfl,.inl<|aj.of N,ax ⟨_,rfl,(by omega),by rw[Aa];omega,λD n=>?_⟩⟩);rw[Aa,Bm];refine Ku (λi a H'=>(∃v,a=[(some (.ref t)),some<|.str p,(some (.ref l))]++[v])/\∃ts:List Addr,ts.length=i/\H' D=some (.lst<|ts.map V.ref)/\(∀(j:Nat)t,ts[j]?=some t->H' t=some (Tn p j))/\ah H H')
  ⟨⟨none,rfl⟩,[],rfl,av,λj t h=>by simp at h,aM n _⟩ ?_ ?_
 ·rintro i a H' hi ⟨⟨v,rfl⟩,ts,r,d,s,k⟩;rw[Dw];intro A B C G I;refine a8 3 nk ?_;intro A B C G I;refine iA ?_;rw[BP rfl];intro A B C G I;refine fv<|ai<|ae 1<|ai<|ae 3<|ax ⟨Z2,λu m=>?_⟩;have J:u≠D:=λe=>by rw[e,d]at m;cases m
  have x:=jV k m;refine⟨ts.map V.ref,by rwa[au<|CG J],by rw[Aa];exact bI (by omega),⟨_,rfl⟩,ts++[u],by rw[Ad,r];rfl,by rw[av,Aj];rfl,?_,?_⟩
  ·intro j L b
   by_cases O:j<ts.length
   ·rw[Aq O]at b;have e:=s j L b;have U:L≠D:=bV e d λz=>nomatch z;rwa[au U,au<|bh e m]
   ·rw[Ba<|(by omega)]at b;have Y:j-ts.length=0:=by
     have:=(Ac.mp b).1;simp at this;omega
    rw[Y]at b;cases b;have:j=i:=(by omega)
    rw[this,au J,av]
  ·intro c o y;rw[au<|bh y n,au<|bh y x];exact k _ _ y
 ·rintro a H' ⟨_,ts,r,d,s,k⟩;exact q D ts H' k n d r s
def iK(g:Int->Int):Sp:=λa H Q _=>∃e p j m,a=[.ref e,.int m]/\H e=some (Tn p j)/\0<m/\∀t H',ah H H'->H' t=some (Tn p<|g j%m)->Q (.ref t) H'
abbrev Uu:Ñ:=["end","many","point","place"]
def kY:ak Uu ["end","many"] (aP Iw):=bZ
def gX:ak Uu ["end","many"] (aP Iy):=bZ
def eE(F:bo K "turned_left" "turned_left" Iw f fd)(T:Txt mg):aD P w K mg Z bz 1 f fd ["end","many"] (iK λj=>j+1):=by
 refine F.gc kY λd H i Q E k h=>?_;obtain⟨e,p,j,m,rfl,a,b,q⟩:=h;have nd:=kY.nd;refine F8<|ae 0<|jT rfl (aS.of a) (a8 2 nd<|a8 3 nd ?_);refine bQ (fv<|ai<|ae 2<|ai<|aU cJ<|aU fj<|ae 3<|aE ⟨_,_,rfl,rfl,ae 1 ⟨_,_,rfl,rfl,(by show 0<m;exact b),ax ⟨Z2,λt c=>?_⟩⟩⟩);exact q t _ (aM c _) av
def lq(F:bo K "turned_right" "turned_right" Iy f fd)(T:Txt mg):aD P w K mg Z bz 1 f fd ["end","many"] (iK λj=>j-1):=by
 refine F.gc gX λd H i Q E k h=>?_;obtain⟨e,p,j,m,rfl,a,b,q⟩:=h;have nd:=gX.nd;refine F8<|ae 0<|jT rfl (aS.of a) (a8 2 nd<|a8 3 nd ?_);refine bQ (fv<|ai<|ae 2<|ai<|aU cJ<|aU Pq<|ae 3<|aE ⟨_,_,rfl,rfl,ae 1 ⟨_,_,rfl,rfl,(by show 0<m;exact b),ax ⟨Z2,λt c=>?_⟩⟩⟩);exact q t _ (aM c _) av
theorem mu:∀{acc},((acc++Y).map (·.1)).Nodup->Y.foldl (λa p=>putK a p.1 p.2) acc=acc++Y:=by
 induction Y with
 |nil=>intro acc _;simp
 |cons p r b=>
  intro acc h;have c:ao acc p.1=none:=by
   cases e:ao acc p.1 with
   |none=>rfl
   |some v=>
    have d:=Ql e;rw[Aj,Bn]at h;exact absurd rfl ((Cj.mp h).2.2 _ d _ Ag)
  rw[Dp,Qg _ c,b (by rwa[Au]),Au];rfl
theorem Uv:∀{Y:List (Key×V)}{i:Nat}{p:Key×V},(Y.map (·.1)).Nodup->Y[i]?=some p->ao Y p.1=some p.2
 |[],_,_,_,h=>by simp at h
 |q :: r,0,p,_,h=>by
  cases h;exact gJ rfl
 |q :: r,i+1,p,a,h=>by
  rw[Bn,Bk]at a;have b:r[i]?=some p:=by simpa using h
  rw[gK λe=>a.1<|by rw[e];exact Ai.mpr ⟨p,At b,rfl⟩];exact Uv a.2 b
def iL(n:fo)(as:Ï):List (Key×V):=List.zipWith (λr a=>(Sum.inr r.1,V.ref a.2)) n as
theorem Uw:∀n as,as.length=n.length->(iL n as).map (·.1)=(n.map (·.1)).map Sum.inr
 |[],[],_=>rfl
 |[],_ :: _,h=>by simp at h
 |_ :: _,[],h=>by simp at h
 |r :: n,a :: as,h=>by
  have:=Uw n as (by simpa using h);show Sum.inr r.1 :: (iL n as).map (·.1)=_;rw[this];rfl
def Ux{a:Addr×Addr}(b:n[i]?=some r)(c:as[i]?=some a):(iL n as)[i]?=some (Sum.inr r.1,.ref a.2):=by
 unfold iL;rw[List.getElem?_zipWith,b,c]
def ID{l:Ñ}(h:l.Nodup):(l.map (Sum.inr:Str->Key)).Nodup:=by
 rw[Ay,Cs];exact(Ay.mp h).imp λh q=>h<|Sum.inr.inj q
def nameAt(n:fo)(r:Nat):Str:=((n[r]?).map (·.1)).getD ⟨#[]⟩
def key(n:fo)(e:Nt.ff):List Key:=[Sum.inr<|nameAt n e.1,Sum.inl (e.2:Int)]
abbrev TN(n:fo)(e:Nt.ff):HO:=Tn (nameAt n e.1) (e.2:Int)
def ro{r:Nat}(h:r<n.length):nameAt n r=n[r].1:=by unfold nameAt;rw[Ab h];rfl
variable{a:Nt.ff}
theorem t8(d:(n.map (·.1)).Nodup){b:Nt.ff}(e:a.1<n.length)(f:b.1<n.length)(h:key n a=key n b):a=b:=by
 unfold key at h
 injection h with i c
 injection c with c _
 have j:=Sum.inr.inj i;have o:=Sum.inl.inj c;rw[ro e,ro f]at j;have k:a.1=b.1:=by
  have l:a.1<(n.map (·.1)).length:=by rwa[Aa]
  have m:b.1<(n.map (·.1)).length:=by rwa[Aa]
  refine(Gj (h₀:=l) (h₁:=m) d).mp ?_;rwa[Dy,Dy]
 exact JC k<|(by omega)
variable{z:Str}
def wR{r p:Nat}(b:r<n.length)(c:(row n r)[p]?=some z):∃a,bt n=(bt (n.take r)++bJ r ((row n r).take p) 0)++(z,(r,p)):: a:=by
 have d:bt n=bt (n.take<|r+1)++ia (0+(n.take<|r+1).length) (n.drop<|r+1):=by
  have:=Ir (n.take<|r+1) (n.drop<|r+1) 0;rwa[Db]at this
 have e:bJ r (row n r) 0=bJ r ((row n r).take<|p+1) 0++bJ r ((row n r).drop<|p+1) (0+((row n r).take<|p+1).length):=by
  unfold bJ;rw[<-Aj,<-List.zipIdx_append,Db]
 rw[d,tJ b,e,qC c];refine⟨bJ r ((row n r).drop<|p+1) (0+((row n r).take<|p+1).length)++ia (0+(n.take<|r+1).length) (n.drop<|r+1),?_⟩;simp only[Au,Ft,Gv]
def Uy{κ:Type}[DecidableEq κ](Y:List<|κ×V)(k:κ)(v:V):(putK Y k v).map (·.1)=if k∈Y.map (·.1)then Y.map (·.1)else Y.map (·.1)++[k]:=by
 have e:(Y.any λc=>decide (c.1=k))=decide (k∈Y.map (·.1)):=by
  rw[Cr,Fc,CK,Ai];exact⟨λ⟨p,a,b⟩=>⟨p,a,BX b⟩,λ⟨p,a,b⟩=>⟨p,a,BW b⟩⟩
 unfold putK;rw[e]
 by_cases h:k∈Y.map (·.1)
 ·rw[BP<|BW h,BP h,Cg];refine Bo λp _=>?_;show(if p.1=k then(p.1,v)else p).1=p.1
  split<;>rfl
 ·rw[BK (by simpa using h),BK h,Aj];rfl
def gY{κ:Type}[DecidableEq κ]{Y:List (κ×V)}{k j:κ}{v:V}:j∈(putK Y k v).map (·.1)↔j∈Y.map (·.1)\/j=k:=by
 rw[Uy]
 split
 ·exact⟨.inl,λh=>h.elim id λe=>by rw[e];assumption⟩
 ·rw[An,Af]
set_option tactic.hygienic true in
def Uz{κ:Type}[DecidableEq κ]{Y:List (κ×V)}{k:κ}{v:V}(h:(Y.map (·.1)).Nodup):((putK Y k v).map (·.1)).Nodup:=by
 rw[Uy]
 split
 ·exact h
 ·rename_i a;exact lQ h a
structure jx(n:fo)(done:List<|Str×Nt.ff)(H:Hp)(kM:List<|Key×V)(kO:List<|List Key×V):Prop where
 m0:∀z,b8 done z=[]->ao kM (Sum.inr z)=none
 m1:∀z a rest,b8 done z=a :: rest->∃t,ao kM (Sum.inr z)=some (.ref t)/\H t=some (TN n a)
 o:∀z a b rest,b8 done z=a :: b :: rest->(∃u,ao kO (key n a)=some (.ref u)/\H u=some (TN n b))/\∃u,ao kO (key n b)=some (.ref u)/\H u=some (TN n a)
 sub:∀p∈done,aJ n p.2=some p.1
 eY:kM.length<=done.length
 gd:kO.length<=2*done.length
 ks:∀k∈kO.map (·.1),∃p∈done,k=key n p.2
 nd:(kO.map (·.1)).Nodup
variable{kO:List (List Key×V)}{kM:List (Key×V)}{done:List (Str×Nt.ff)}
def jx.keep(I:jx n done H kM kO)(k:∀t p j,H t=some (Tn p j)->H' t=some (Tn p j)):jx n done H' kM kO where
 m0:=I.m0
 m1:=λz a rest h=>let ⟨t,e1,e2⟩:=I.m1 z a rest h;⟨t,e1,k _ _ _ e2⟩
 o:=λz a b rest h=>let ⟨⟨u,e1,e2⟩,⟨v,e3,e4⟩⟩:=I.o z a b rest h;⟨⟨u,e1,k _ _ _ e2⟩,⟨v,e3,k _ _ _ e4⟩⟩
 sub:=I.sub
 eY:=I.eY
 gd:=I.gd
 ks:=I.ks
 nd:=I.nd
def wU(h:a∈b8 done z):(z,a)∈done:=by
 unfold b8 at h;obtain⟨⟨y,b⟩,c,rfl⟩:=Ai.mp h;obtain⟨d,e⟩:=Bg.mp c;have:y=z:=BX e;subst this;exact d
variable{e:Nt.ff}
theorem jx.new(I:jx n done H kM kO){t:Addr}(ht:H t=some (TN n e))(hz:aJ n e=some z)(h0:b8 done z=[]):
  jx n (done++[(z,e)]) H (putK kM (Sum.inr z)<|.ref t) kO where
 m0:=λy hy=>by
  rw[dI]at hy;obtain⟨h1,h2⟩:=Fh.mp hy;have bA:¬ z=y:=λq=>by rw[BP q]at h2;cases h2
  rw[dC,BK λq=>bA (Sum.inr.inj q).symm];exact I.m0 y h1
 m1:=λy a rest hy=>by
  rw[dI]at hy
  by_cases q:z=y
  ·subst q;rw[h0,BP rfl]at hy;cases hy;exact⟨t,by rw[dC,BP rfl],ht⟩
  ·rw[BK q,Be]at hy;obtain⟨u,e1,e2⟩:=I.m1 y a rest hy;exact⟨u,by rwa[dC,BK λp=>q (Sum.inr.inj p).symm],e2⟩
 o:=λy a b rest hy=>by
  rw[dI]at hy
  by_cases q:z=y
  ·subst q;rw[h0,BP rfl]at hy;cases hy
  ·rw[BK q,Be]at hy;exact I.o y a b rest hy
 sub:=λp hp=>by
  obtain h|h:=An.mp hp
  ·exact I.sub p h
  ·rwa[Af.mp h]
 eY:=by
  have:=jn kM (Sum.inr z)<|.ref t;have:=I.eY;rw[Ad,Cz];omega
 gd:=by
  have:=I.gd;rw[Ad,Cz];omega
 ks:=λk hk=>let ⟨p,hp,e⟩:=I.ks k hk;⟨p,Az _ hp,e⟩
 nd:=I.nd
theorem jx.old(hN:(n.map (·.1)).Nodup)(I:jx n done H kM kO){te tm:Addr}(ht:H te=some (TN n e))(hm:H tm=some (TN n a))(hz:aJ n e=some z)(h1:b8 done z=[a])(hae:a≠e):
  jx n (done++[(z,e)]) H kM (putK (putK kO (key n e)<|.ref tm) (key n a)<|.ref te) where
 m0:=λy hy=>by
  rw[dI]at hy;exact I.m0 y (Fh.mp hy).1
 m1:=λy c rest hy=>by
  rw[dI]at hy
  by_cases q:z=y
  ·subst q;rw[h1,BP rfl]at hy;cases hy;exact I.m1 z a [] h1
  ·rw[BK q,Be]at hy;exact I.m1 y c rest hy
 o:=λy c b rest hy=>by
  rw[dI]at hy;have ta:=I.sub (z,a)<|wU<|by rw[h1];exact Af.mpr rfl
  by_cases q:z=y
  ·subst q;rw[h1,BP rfl]at hy;cases hy;refine⟨⟨te,by rw[dC,BP rfl],ht⟩,⟨tm,?_,hm⟩⟩;rw[dC,BK λp=>hae (t8 hN (cS hz) (cS ta) p).symm,dC,BP rfl]
  ·rw[BK q,Be]at hy;have tc:=I.sub (y,c) (wU<|by rw[hy];exact Ag);have tb:=I.sub (y,b) (wU<|by rw[hy];exact Ak _ Ag);have ne:∀x:Nt.ff,aJ n x=some y->¬ key n x=key n a/\¬ key n x=key n e:=λx hx=>by
    refine⟨λp=>?_,λp=>?_⟩
    ·have:=t8 hN (cS hx) (cS ta) p;rw[this,ta]at hx;exact q<|Option.some.inj hx
    ·have:=t8 hN (cS hx) (cS hz) p;rw[this,hz]at hx;exact q<|Option.some.inj hx
   obtain⟨⟨u,e1,e2⟩,⟨v,e3,e4⟩⟩:=I.o y c b rest hy;refine⟨⟨u,?_,e2⟩,⟨v,?_,e4⟩⟩
   ·rwa[dC,BK (ne c tc).1,dC,BK (ne c tc).2]
   ·rwa[dC,BK (ne b tb).1,dC,BK (ne b tb).2]
 sub:=λp hp=>by
  obtain h|h:=An.mp hp
  ·exact I.sub p h
  ·rwa[Af.mp h]
 eY:=by
  have:=I.eY;rw[Ad,Cz];omega
 gd:=by
  have h1:=jn (putK kO (key n e)<|.ref tm) (key n a)<|.ref te;have h2:=jn kO (key n e)<|.ref tm;have:=I.gd;rw[Ad,Cz];omega
 ks:=λk hk=>by
  obtain hk|rfl:=gY.mp hk
  ·obtain hk|rfl:=gY.mp hk
   ·obtain⟨p,hp,e⟩:=I.ks k hk;exact⟨p,Az _ hp,e⟩
   ·exact⟨(z,e),Av _<|Af.mpr rfl,rfl⟩
  ·exact⟨(z,a),Az _ (wU<|by rw[h1];exact Af.mpr rfl),rfl⟩
 nd:=Uz<|Uz I.nd
def jx.whole(T:aw n)(I:jx n (bt n) H kM kO)(h:e∈ends n):∃u,ao kO (key n e)=some (.ref u)/\H u=some (TN n<|other n e):=by
 obtain⟨z,c⟩:=af.mp h;obtain⟨a,b,d,f,i⟩:=qB T c;have j:=d;have k:aJ n a=some z:=aK.mp (by rw[d];simp);have l:aJ n b=some z:=aK.mp (by rw[d];simp);obtain⟨m,o⟩:=I.o z a b [] j
 obtain rfl|rfl:=i
 ·have:b=other n e:=((iH T c).mp l).resolve_left<|CG f;rw[<-this];exact m
 ·have:a=other n e:=((iH T c).mp k).resolve_left f;rw[<-this];exact o
def kZ:Sp:=λa H Q _=>∃R as n,a=[.ref R]/\al H R as n/\(n.map (·.1)).Nodup/\aw n/\n.length<=1000/\(ag n).length<=1000 /\
 ∀d Y H',ah H H'->H d=none->H' d=some (.dT Y)->(∀e∈ends n,∃u,ao Y (key n e)=some (.ref u)/\H' u=some (TN n<|other n e))->(Y.map (·.1)).Nodup->(∀k∈Y.map (·.1),∃e∈ends n,k=key n e)->Y.length<=2000->Q (.ref d) H'
variable{body:Õ}
section
variable{D:mi}
theorem Mv{a b:Addr}{ys:List V}{after:St->Hp->Prop}(h:xs.length=ys.length)(Pv:Nat->St->Hp->Prop)(k:Pv 0 σ H)(l:∀i σ H,i<=xs.length->Pv i σ H->aj X.K H a xs/\aj X.K H b ys)
  (n:∀i x y T σ H,xs[i]?=some x->ys[i]?=some y->Pv i σ H->H T=none->Eg X tg (.ref T) σ (upd H T<|.tup [x,y]) λc o=>ge X body {D with nx:=Pv<|i+1,ct:=Pv<|i+1,bk:=after} c o) (hd:∀σ H,Pv xs.length σ H->after σ H):uu X tg body (AI X.K a b) D after σ H:=by
 refine⟨λi m σ H=>m=xs.length-i/\i<=xs.length/\Pv i σ H,⟨xs.length,by simp,Bu _,k⟩,?_⟩;rintro i m σ H ⟨rfl,q,p⟩;obtain⟨d,f⟩:=l i σ H q p
 by_cases j:i<xs.length
 ·refine .inr ⟨⟨xs,ys,xs[i],ys[i],d,f,Ab j,Ab<|(by omega)⟩,Pv<|i+1,λr H' s=>⟨xs.length-(i+1),(by omega),rfl,j,s⟩,λv H' y=>?_⟩;obtain⟨T,x,y,t,rfl,rfl,u,w⟩:=y;exact n i x y T σ _ (u xs d) (w ys f) p t
 ·have e:i=xs.length:=(by omega)
  subst e;exact .inl ⟨⟨xs,ys,d,f,.inl<|Am _⟩,hd σ H p⟩
end
abbrev BO:Ñ:=["rows","met","others","row","end","tie"]
def wV:ak BO ["rows"] (aP Iz):=bZ
def UA{t:Addr}(h:H t=some (.tup xs))(g:H d=some (.dK Y)):t≠d:=bV h g λz=>nomatch z
def rp{t:Addr}{Y:List (List Key×V)}(h:H t=some (.tup xs))(g:H d=some (.dT Y)):t≠d:=bV h g λz=>nomatch z
theorem Pn(F:bo K "other_ends" "other_ends" Iz f fd)(T:Txt mg)
  (GE:aQ P w K mg Z 1 "ends_round" ["row"] wO):
  aD P w K mg Z bz 2 f fd ["rows"] kZ:=by
 refine F.gc wV λb0 H vs Q E hr h=>?_;obtain⟨R,as,n,rfl,hR,hN,hT,hn,ht,q⟩:=h;have nd:=wV.nd;have b4:=hR.len;have J:=hr.u1;refine aT 1 nd<|Im λd m6=>?_;refine aT 2 nd<|q3p λc Kv=>?_;have Y:c≠d:=λe=>by rw[e,av]at Kv;cases Kv
 have rq:H c=none:=by rwa[au Y]at Kv
 have em:(upd (upd H d<|.dK []) c<|.dT []) d=some (.dK []):=by rw[au<|CG Y,av]
 have eo:(upd (upd H d<|.dK []) c<|.dT []) c=some (.dT []):=av;have s0:ah H (upd (upd H d<|.dK []) c<|.dT []):=λb o h=>by rwa[au<|bh h rq,au<|bh h m6]
 generalize upd (upd H d<|.dK []) c (.dT [])=H1 at em eo s0 ⊢;refine lS<|ae 0 ⟨R,rfl,⟨_,aj.of<|s0 _ _ hR.lst⟩,lT (xs:=as.map λa=>V.ref a.1) (λr σ H'=>∃kM kO u1 s u,ah H H'/\H' d=some (.dK kM)/\H' c=some (.dT kO)/\jx n (bt<|n.take r) H' kM kO/\σ=[(some (.ref R)),(some (.ref d)),(some (.ref c)),u1,s,u])
  ⟨[],[],_,_,_,s0,em,eo,⟨λ_ _=>rfl,λz a i h=>(by cases h),λz a b i h=>(by cases h),λp h=>(by cases h),Bu _,Bu _,λk h=>(by cases h),Cn⟩,rfl⟩ ?_ ?_ ?_⟩
 ·rintro r σ H' _ ⟨kM,kO,u1,s,u,M,_⟩;exact aj.of<|M _ _ hR.lst
 ·rintro r x σ H' N ⟨kM,kO,u1,s,u,M,UB,Kw,I,rfl⟩;have hi:r<n.length:=by
   have:=(Ac.mp N).1;rw[Aa]at this;omega
  obtain⟨a,ea,fA,et,el,er⟩:=(hR.same M).at hi;rw[Ah,ea]at N;cases N;have jU:=By (ju n r) ht;have Ø:=ro hi;refine a8 3 nd<|sZ (SH rfl T.zip (ta:=vh _ _) gL) ?_;show Ea _ _ _ _ _;refine ai<|bG GE hr<|ai<|ae 3<|ax ⟨a.1,a.2,n[r].1,row n r,rfl,et,el,jU,λL ts H5 D n5 e5 l5 t5=>?_⟩;refine ai<|bb cv<|ae 3<|aE ⟨a.1,_,_,.ref a.2,rfl,rfl,aS.of<|D _ _ et,rfl,ax ⟨L,a.2,rfl,⟨_,aj.of e5⟩,⟨_,aj.of<|D _ _ el⟩,?_⟩⟩;have BF:=D _ _ UB;have BG:=D _ _ Kw;have t9:=D _ _ el;refine Mv (xs:=ts.map V.ref) (ys:=(row n r).map V.str) (by rw[Aa,Aa,l5]) (λp v l=>∃kM kO s u,(∀b o,b≠d->b≠c->H5 b=some o->l b=some o)/\l d=some (.dK kM)/\l c=some (.dT kO)/\jx n (bt (n.take r)++bJ r ((row n r).take p) 0) l kM kO/\v=[(some (.ref R)),(some (.ref d)),(some (.ref c)),some<|.ref a.1,s,u])
   ⟨kM,kO,_,_,λb o _ _ h=>h,BF,BG,?_,rfl⟩ ?_ ?_ ?_
  ·have:bJ r ((row n r).take 0) 0=[]:=by simp[bJ]
   rw[this,Be];exact I.keep λt p j h=>D _ _ h
  ·rintro p v l _ ⟨kM,kO,s,u,G,_,_,_,rfl⟩;exact⟨aj.of (G _ _ (bV e5 BF λz=>nomatch z) (bV e5 BG λz=>nomatch z) e5),aj.of<|G _ _ (bV t9 BF λz=>nomatch z) (bV t9 BG λz=>nomatch z) t9⟩
  ·rintro p x y Tt v l N hy ⟨kM,kO,s,u,G,BH,BI,I6,rfl⟩ k4;rw[Ah,Ar]at N hy;obtain⟨B,mh,rfl⟩:=N;obtain⟨z,hz,rfl⟩:=hy;have nH:=t5 p B mh;have BM:l B=some (Tn n[r].1 p):=G _ _ (UA nH BF) (rp nH BG) nH;have k6:aJ n (r,p)=some z:=hz;obtain⟨i,dG⟩:=wR hi hz;have Ö:(bt (n.take r)++bJ r ((row n r).take p) 0).length<1000:=by
    have A:(bt n).length=(ag n).length:=by
     have:=BZ List.length<|lZ n 0;rwa[Aa]at this
    have m:=BZ List.length dG;rw[Ad,As]at m;omega
   have df:bt (n.take r)++bJ r ((row n r).take<|p+1) 0=(bt (n.take r)++bJ r ((row n r).take p) 0)++[(z,(r,p))]:=by
    rw[qC hz,Au]
   have k8:∀b,b∈b8 (bt (n.take r)++bJ r ((row n r).take p) 0) z->b≠(r,p):=λb hb e=>by
    have hm:=wU hb;have jM:=tH n;unfold ends at jM;rw[dG,Aj,Bn]at jM;exact(Cj.mp jM).2.2 _ (Ai.mpr ⟨_,hm,rfl⟩) _ Ag e
   have wX:(b8 (bt (n.take r)++bJ r ((row n r).take p) 0) z).length<=1:=by
    have A:(pos n z).length=2:=by rw[qA];exact hT z<|eG k6
    have m:pos n z=b8 (bt (n.take r)++bJ r ((row n r).take p) 0) z++b8 ((z,(r,p)):: i) z:=by
     show b8 (bt n) z=_;rw[dG];unfold b8;rw[Ct,Aj]
    have h3:1<=(b8 ((z,(r,p)):: i) z).length:=by
     unfold b8;rw[Cv,BP<|by simp];simp
    rw[m,Ad]at A;omega
   generalize bt (n.take r)++bJ r ((row n r).take p) 0=done at I6 Ö df k8 wX;rw[df];have Ú:Tt≠d:=λe=>by rw[e,BH]at k4;cases k4
   have Û:Tt≠c:=λe=>by rw[e,BI]at k4;cases k4
   have s7:=aM k4<|.tup [.ref B,.str z];have Kx:∀b o,b≠d->b≠c->H5 b=some o->(upd l Tt<|.tup [.ref B,.str z]) b=some o:=λb o A m h=>s7 _ _<|G b o A m h;have wY:=s7 _ _ BH;have wZ:=s7 _ _ BI;have C:=I6.keep (H':=upd l Tt<|.tup [.ref B,.str z]) λt p j h=>s7 _ _ h;have rz:=s7 _ _ BM;refine jT rfl (aS.of av) (a8 4 nd<|a8 5 nd ?_);generalize upd l Tt (.tup [.ref B,.str z])=H7 at Kx wY wZ C rz;have rA:H7 B=some (TN n (r,p)):=by
    show H7 B=some (Tn (nameAt n r) p);rwa[Ø]
   have hM:kM.length<sizeLine:=bI (by have:=C.eY;omega);have hO:kO.length<sizeLine:=bI (by have:=C.gd;omega);refine fP<|zH J<|ae 5<|ae 1 ⟨d,_,rfl,aX.k (k:=Sum.inr z) wY,?_⟩
   match O:b8 done z with
   |[]=>
    rw[C.m0 z O];show if false=true then _ else _;rw[BK Ax];refine tG J<|ae 4<|ae 1<|ae 5 ⟨d,_,rfl,bX.k (k:=Sum.inr z) wY hM,a7<|a7 ⟨_,kO,_,_,λb o A m h=>?_,av,?_,?_,rfl⟩⟩
    ·rw[au A];exact Kx b o A m h
    ·rwa[au Y]
    ·exact(C.new rA k6 O).keep λt p j h=>by rwa[au<|UA h wY]
   |b :: more=>
    have w5:more=[]:=by
     rw[O,As]at wX;exact Cd.mp<|(by omega)
    subst w5;obtain⟨U,vm,UC⟩:=C.m1 z b [] O;rw[vm];show if true=true then _ else _;rw[BP rfl];have gj:b≠(r,p):=k8 b (by rw[O];exact Af.mpr rfl);refine tG J (eU J<|ae 1<|ae 5 ⟨d,.ref U,rfl,by rw[<-vm];exact aX.k (k:=Sum.inr z) wY,ae 2<|ae 4 ⟨c,_,rfl,bX.t (k:=key n (r,p)) wZ rA hO,?_⟩⟩);have Ü:=jn kO (key n (r,p))<|.ref U;have Ý:=C.gd;have Ù:(upd H7 c<|.dT<|putK kO (key n (r,p))<|.ref U) d=some (.dK kM):=by rwa[au<|CG Y]
    have Ky:(upd H7 c<|.dT<|putK kO (key n (r,p))<|.ref U) U=some (TN n b):=by rwa[au<|rp UC wZ]
    refine tG J<|ae 4<|ae 2<|eU J<|ae 1<|ae 5 ⟨d,.ref U,rfl,by rw[<-vm];exact aX.k (k:=Sum.inr z) Ù,c,_,rfl,bX.t (k:=key n b) av Ky (bI<|(by omega)),a7<|a7 ⟨kM,_,_,_,λb o A m h=>?_,?_,av,?_,rfl⟩⟩
    ·rw[au m,au m];exact Kx b o A m h
    ·rwa[au<|CG Y]
    ·exact(C.old hN rA UC k6 O gj).keep λt p j h=>by rwa[au<|rp h wZ,au<|rp h wZ]
  ·rintro v l ⟨kM,kO,s,u,G,BH,BI,I6,rfl⟩;refine a7 ⟨kM,kO,_,_,_,λb o h=>?_,BH,BI,?_,rfl⟩
   ·exact G b o (bh h m6) (bh h rq)<|D _ _<|M _ _ h
   ·rw[Aa,l5,Br]at I6;rwa[tJ hi]
 ·rintro σ H' ⟨kM,kO,u1,s,u,M,UB,Kw,I,rfl⟩;rw[Aa,b4,Br]at I;have lO:=I.gd;have ls:(bt n).length=(ag n).length:=by rw[<-lZ n 0,Aa];rfl
  exact bQ<|ae 2<|q c kO H' M rq Kw (λe he=>I.whole hT he) I.nd (λk hk=>let ⟨p,hp,e⟩:=I.ks k hk;⟨p.2,Ai.mpr ⟨p,hp,rfl⟩,e⟩)<|(by omega)
def nI(n:fo)(H:Hp)(a:List Addr)(done:List<|Str×Nt.ff):Prop:=a.length=done.length/\∀(j:Nat)u p,a[j]?=some u->done[j]?=some p->H u=some (TN n p.2)
variable{us:List Addr}
def nI.keep(h:nI n H us done)(k:∀t p j,H t=some (Tn p j)->H' t=some (Tn p j)):nI n H' us done:=⟨h.1,λj u p a b=>k _ _ _<|h.2 j u p a b⟩
variable{p:Str×Nt.ff}
theorem nI.snoc{u:Addr}(h:nI n H us done)(k:∀t p j,H t=some (Tn p j)->H' t=some (Tn p j))(d:H' u=some (TN n p.2)):nI n H' (us++[u]) (done++[p]):=by
 obtain⟨e,f⟩:=h;refine⟨by rw[Ad,Ad,e];rfl,λj v x a b=>?_⟩
 by_cases i:j<us.length
 ·rw[Aq i]at a;rw[Aq<|(by omega)]at b;exact k _ _ _<|f j v x a b
 ·rw[Ba<|(by omega)]at a b;have l:j-us.length=0:=by
   have:=(Ac.mp a).1;simp at this;omega
  have c:j-done.length=0:=(by omega)
  rw[l]at a;rw[c]at b;cases a;cases b;exact d
variable{inner:Sem Unit}
section
variable{a b:Addr}{ys:List V}{after:St->Hp->Prop}
theorem w6(Pv:Nat->St->Hp->Prop)(j:Pv 0 σ H)(k:∀i c H',i<=xs.length->Pv i c H'->aj X.K H' a xs)
  (l:∀i x c H',xs[i]?=some x->Pv i c H'->Eg X tg x c H' λd n=>Ei X ifs d n λb f=>if b=true then lV X inner d f (Pv<|i+1)else Pv (i+1) d f)
  (hd:∀c H',Pv xs.length c H'->after c H'):iy X tg ifs inner (pV X.K a) after σ H:=by
 refine⟨λi m c H'=>m=xs.length-i/\i<=xs.length/\Pv i c H',⟨_,rfl,Bu _,j⟩,?_⟩;rintro i m c H' ⟨rfl,o,p⟩;have q:=k i c H' o p
 by_cases h:i<xs.length
 ·refine .inr ⟨⟨xs,xs[i],q,by simp[h]⟩,Pv<|i+1,λc H' r=>⟨xs.length-(i+1),(by omega),rfl,h,r⟩,λx s y=>?_⟩;obtain⟨e,y⟩:=y;subst e;exact l i x c _ (y xs q) p
 ·have e:i=xs.length:=(by omega)
  subst e;exact .inl ⟨⟨xs,q,Am _⟩,hd c H' p⟩
theorem BS(j:xs.length=ys.length)(Pv:Nat->St->Hp->Prop)(n:Pv 0 σ H)(o:∀i c H',i<=xs.length->Pv i c H'->aj X.K H' a xs/\aj X.K H' b ys)
  (q:∀i x y T c H',xs[i]?=some x->ys[i]?=some y->Pv i c H'->H' T=none->Eg X tg (.ref T) c (upd H' T<|.tup [x,y]) λd r=>Ei X ifs d r λb k=>if b=true then lV X inner d k (Pv<|i+1)else Pv (i+1) d k)
  (hd:∀c H',Pv xs.length c H'->after c H'):iy X tg ifs inner (AI X.K a b) after σ H:=by
 refine⟨λi m c H'=>m=xs.length-i/\i<=xs.length/\Pv i c H',⟨_,rfl,Bu _,n⟩,?_⟩;rintro i m c H' ⟨rfl,s,p⟩;obtain⟨f,h⟩:=o i c H' s p
 by_cases l:i<xs.length
 ·refine .inr ⟨⟨xs,ys,xs[i],ys[i],f,h,Ab l,Ab<|(by omega)⟩,Pv<|i+1,λc H' t=>⟨xs.length-(i+1),(by omega),rfl,l,t⟩,λv A y=>?_⟩;obtain⟨T,x,y,u,rfl,rfl,w,z⟩:=y;exact q i x y T c _ (w xs f) (z ys h) p u
 ·have e:i=xs.length:=(by omega)
  subst e;exact .inl ⟨⟨xs,ys,f,h,.inl<|Am _⟩,hd c H' p⟩
end
def Kz:Sp:=λa H Q _=>∃R as n,a=[.ref R]/\al H R as n/\n.length<=1000/\(ag n).length<=1000 /\
 ∀L ts H',ah H H'->H L=none->H' L=some (.lst<|ts.map V.ref)->nI n H' ts (bt n)->Q (.ref L) H'
abbrev UD:Ñ:=["rows"]
abbrev UE:Ñ:=["rows","row","end"]
def jf:ak UD ["rows"] (aP zS):=bZ
def UH:UE.Nodup:=by decide +kernel
theorem pG(F:bo K "ends_in_order" "ends_in_order" zS f fd)(T:Txt mg)
  (GE:aQ P w K mg Z 1 "ends_round" ["row"] wO):
  aD P w K mg Z bz 2 f fd ["rows"] Kz:=by
 refine F.gc jf λb0 H vs Q E hr h=>?_;obtain⟨R,as,n,rfl,v,hn,ht,q⟩:=h;have b4:=v.len;refine bQ<|q1h (aP zS) UD UE 2 (eB bd)<|ae 0 ⟨R,rfl,⟨_,aj.of v.lst⟩,λD M cl C æ ç ex=>?_⟩;refine w6 (xs:=as.map λa=>V.ref a.1) (λr c H'=>(∃v1 i,c=[(some (.ref R))]++[v1,i])/\∃ts:List Addr,ah H H'/\H' D=some (.lst<|ts.map V.ref)/\nI n H' ts (bt<|n.take r)) ⟨⟨none,none,rfl⟩,[],aM M _,av,⟨rfl,λj u p h=>(by cases h)⟩⟩ ?_ ?_ ?_
 ·rintro r c H' _ ⟨_,ts,k,_⟩;exact aj.of<|k _ _ v.lst
 ·rintro r x c H' l ⟨⟨v1,i,rfl⟩,ts,k,s,y⟩;have A:r<n.length:=by
   have:=(Ac.mp l).1;rw[Aa]at this;omega
  obtain⟨a,ea,fA,et,el,er⟩:=(v.same k).at A;rw[Ah,ea]at l;cases l;have jU:=By (ju n r) ht;refine a8 1 UH<|iA ?_;rw[BP rfl];refine Ll rfl rfl (eB bd) (bG GE hr<|ai<|ae 1<|ax ⟨a.1,a.2,n[r].1,row n r,rfl,et,el,jU,λL us H5 B O U l5 t5=>⟨L,rfl,⟨_,aj.of U⟩,?_⟩⟩);have KA:L≠D:=λe=>by rw[e,s]at O;cases O
  refine w6 (xs:=us.map V.ref) (λp c d=>(∃i,c=[(some (.ref R))]++[some<|.ref a.1,i])/\∃ts:List Addr,(∀b o,b≠D->H5 b=some o->d b=some o)/\d D=some (.lst<|ts.map V.ref)/\nI n d ts (bt (n.take r)++bJ r ((row n r).take p) 0))
   ⟨⟨_,rfl⟩,ts,λb o _ h=>h,B _ _ s,by simpa[bJ]using y.keep λt p j h=>B _ _ h⟩ ?_ ?_ ?_
  ·rintro p c d _ ⟨_,ts,m,_⟩;exact aj.of<|m _ _ KA U
  ·rintro p x c d l ⟨⟨i,rfl⟩,ts,m,G,I⟩;rw[Ah,Ar]at l;obtain⟨J,Y,rfl⟩:=l;have hp:p<(row n r).length:=by have:=(Ac.mp Y).1;omega
   have N:=Ab hp;generalize (row n r)[p]=z at N;have nH:=t5 p J Y;have BQ:J≠D:=bV nH (B _ _ s) λz=>nomatch z;have BM:=m _ _ BQ nH;obtain⟨Ö,dG⟩:=wR A N;have Ø:ts.length<1000:=by
    have h1:(bt n).length=(ag n).length:=by
     have:=BZ List.length<|lZ n 0;rwa[Aa]at this
    have h2:=BZ List.length dG;rw[Ad,As]at h2;have:=I.1;omega
   refine a8 2 UH ?_;refine iA ?_;rw[BP rfl];refine QP (ae 2 ⟨ts.map V.ref,G,by rw[Aa];exact bI (by omega),⟨_,rfl⟩,ts++[J],λb o hb h=>by rw[au hb];exact m b o hb h,by rw[av,Aj];rfl,?_⟩);rw[qC N,<-Au];refine I.snoc (λt p j h=>by rwa[au<|bV h G λz=>nomatch z]) ?_;rw[au BQ];show d J=some (Tn (nameAt n r) p);rwa[ro A]
  ·rintro c d ⟨⟨i,rfl⟩,ts,m,G,I⟩;refine⟨⟨_,_,rfl⟩,ts,λb o h=>m b o (bh h M)<|B _ _<|k _ _ h,G,?_⟩;rwa[Aa,l5,Br,<-tJ A]at I
 ·rintro c H' ⟨_,ts,k,s,y⟩;rw[Aa,b4,Br]at y;exact q D ts H' k M s y
variable{zs:Ñ}
def KE{k:Nat}(z:Str):jR X H k (.str z) (.str z) true:=by
 have:=qv (X:=X) (H:=H) (k:=k) (x:= .str z) (y:= .str z) rfl rfl;have e:cC (.str z) (.str z)=true:=by show(z == z)=true;simp
 rwa[e]at this
theorem Pc{p c:Str}{j d:Int}:∀i u v,[V.str p,.int j][i]?=some u->[V.str c,.int d][i]?=some v->jR X H 0 u v (if i=0 then cC (.str p) (.str c)else cC (.int j) (.int d))
 |0,u,v,a,b=>by
  cases a;cases b;exact qv rfl rfl
 |1,u,v,a,b=>by
  cases a;cases b;exact qv rfl rfl
 |i+2,u,v,a,b=>by simp at a
def LF(p a:Str)(j b:Int):(cC (.str p) (.str a) && cC (.int j) (.int b))=decide (p=a/\j=b):=by
 show((p == a) && (j == b))=_
 by_cases h:p=a<;>by_cases c:j=b<;>simp[h,c]
def pa{s t:Addr}{p a:Str}{j b:Int}(c:H s=some (Tn p j))(d:H t=some (Tn a b)):oU X H 1 (.ref s) (.ref t) (decide (p=a/\j=b)):=by
 have:=RE (X:=X) (λi=>if i=0 then cC (.str p) (.str a)else cC (.int j) (.int b)) (aS.of c) (aS.of d) rfl Pc;rw[show([V.str p,.int j].length)=2 from rfl,xw]at this;have e:=LF p a j b;simp only[DP]at this;rwa[BK (by decide),e]at this
def KG{a b:Addr}(e:H a=some (Ls zs))(f:H b=some (Ls zs)):lX X H 1 (.ref a) (.ref b) true:=by
 have q:=Ij (k:=0) (λ_=>true) (aj.of e) (aj.of (K:=X.K) f) rfl λj x y c d=>by
  rw[c]at d;cases d;rw[Ah,Ar]at c;obtain⟨z,_,rfl⟩:=c;exact KE z
 rwa[vN]at q
def UI{k:Nat}{a b:Addr}(h:lX X H k (.ref a) (.ref b) true):jR X H k (.ref a) (.ref b) true:=by
 by_cases e:a=b
 ·subst e;exact AD
 ·exact CL e h
theorem OR{R e:Addr}{bs:Ï}(h:al H R as n)(g:al H e bs n):lX X H 3 (.ref R) (.ref e) true:=by
 have q:=Ij (λ_=>true) (aj.of h.lst) (aj.of g.lst) (by rw[Aa,Aa,h.len,g.len]) λj x y c d=>by
  rw[Ah,Ar]at c d;obtain⟨a,f,rfl⟩:=c;obtain⟨b,m,rfl⟩:=d;have l:j<n.length:=by
   have:=(Ac.mp f).1;have:=h.len;omega
  obtain⟨o,p⟩:=h.tup j a n[j] f<|Ab l;obtain⟨r,s⟩:=g.tup j b n[j] m<|Ab l;have t:=RC (k:=1) (λ_=>true) (aS.of o) (aS.of (K:=X.K) r) rfl λi x y c d=>by
   match i with
   |0=>cases c;cases d;exact KE _
   |1=>cases c;cases d;exact UI<|KG p s
   |i+2=>simp at c
  rw[vN]at t;exact UI t
 rwa[vN]at q
def QN{a b:Addr}(e:H a=some (Ls zs))(f:H b=some (Ls zs)):oU X H 1 (.ref a) (.ref b) true:=by
 have q:=zE (k:=0) (λ_=>true) (aj.of e) (aj.of (K:=X.K) f) rfl λj x y c d=>by
  rw[c]at d;cases d;rw[Ah,Ar]at c;obtain⟨z,_,rfl⟩:=c;exact KE z
 rwa[vN]at q
def nJ:Sp:=λa H Q _=>∃R as n,a=[.ref R]/\al H R as n/\(n.map (·.1)).Nodup/\n.length<=1000/\(ag n).length<=1000 /\
 ∀d Y H',ah H H'->H d=none->H' d=some (.dT Y)->(∀e z,aJ n e=some z->ao Y (key n e)=some (.str z))->Q (.ref d) H'
variable{c:Int}{es v:List Nt.ff}{ws:List (List Nt.ff)}
section
abbrev UK:Ñ:=["rows"]
abbrev UM:Ñ:=["rows","row","end","tie"]
def KI:ak UK ["rows"] (aP zT):=bZ
def KL:UM.Nodup:=by decide +kernel
theorem dO(F:bo K "ties_by_end" "ties_by_end" zT f fd)(T:Txt mg)
  (GE:aQ P w K mg Z 1 "ends_round" ["row"] wO):
  aD P w K mg Z bz 2 f fd ["rows"] nJ:=by
 refine F.gc KI λb0 H vs Q E hr h=>?_;obtain⟨R,as,n,rfl,u,hN,hn,ht,q⟩:=h;have b4:=u.len;have hu:=hr.u1;refine bQ<|k54 (aP zT) UK UM 3 (eB bd)<|ae 0 ⟨R,rfl,⟨_,aj.of u.lst⟩,λD O cl C æ ç ex=>?_⟩;refine w6 (xs:=as.map λa=>V.ref a.1) (λr c H'=>(∃v1 j l,c=[(some (.ref R))]++[v1,j,l])/\∃Y:List<|List Key×V,ah H H'/\H' D=some (.dT Y)/\Y.length<=(bt<|n.take r).length/\∀p∈bt (n.take r),aJ n p.2=some p.1/\ao Y (key n p.2)=some (.str p.1)) ⟨⟨none,none,none,rfl⟩,[],aM O _,av,Bu _,λp h=>(by cases h)⟩ ?_ ?_ ?_
 ·rintro r c H' _ ⟨_,Y,m,_⟩;exact aj.of<|m _ _ u.lst
 ·rintro r x c H' d ⟨⟨v1,j,l,rfl⟩,Y,m,U,UN,v⟩;have A:r<n.length:=by
   have:=(Ac.mp d).1;rw[Aa]at this;omega
  obtain⟨a,ea,fA,et,el,er⟩:=(u.same m).at A;rw[Ah,ea]at d;cases d;have jU:=By (ju n r) ht;refine a8 1 KL<|iA ?_;rw[BP rfl];refine mH rfl rfl (SH rfl T.zip gL) ?_;show Ea _ _ _ _ _;refine ai<|bG GE hr<|ai<|ae 1<|ax ⟨a.1,a.2,n[r].1,row n r,rfl,et,el,jU,λL us H5 t n5 e5 l5 t5=>?_⟩;refine ai<|bb cv<|ae 1<|aE ⟨a.1,_,_,.ref a.2,rfl,rfl,aS.of<|t _ _ et,rfl,ax ⟨L,a.2,rfl,⟨_,aj.of e5⟩,⟨_,aj.of<|t _ _ el⟩,?_⟩⟩;have B:=t _ _ U;have t9:=t _ _ el;refine BS (xs:=us.map V.ref) (ys:=(row n r).map V.str) (by rw[Aa,Aa,l5]) (λp c s=>(∃j l,c=[(some (.ref R))]++[some<|.ref a.1,j,l])/\∃Y:List<|List Key×V,(∀b o,b≠D->H5 b=some o->s b=some o)/\s D=some (.dT Y)/\Y.length<=(bt (n.take r)++bJ r ((row n r).take p) 0).length/\∀x∈bt (n.take r)++bJ r ((row n r).take p) 0,aJ n x.2=some x.1/\ao Y (key n x.2)=some (.str x.1))
   ⟨⟨_,_,rfl⟩,Y,λb o _ h=>h,B,by simpa[bJ]using UN,by simpa[bJ]using v⟩ ?_ ?_ ?_
  ·rintro p c s _ ⟨_,Y,i,_⟩;exact⟨aj.of (i _ _ (bV e5 B λz=>nomatch z) e5),aj.of<|i _ _ (bV t9 B λz=>nomatch z) t9⟩
  ·rintro p x y Tt c s d hy ⟨⟨j,l,rfl⟩,Y,i,G,rB,I⟩ k4;rw[Ah,Ar]at d hy;obtain⟨J,mh,rfl⟩:=d;obtain⟨z,M,rfl⟩:=hy;have nH:=t5 p J mh;have BQ:=bV nH B λz=>nomatch z;have BM:=i _ _ BQ nH;have k6:aJ n (r,p)=some z:=M;obtain⟨Ö,dG⟩:=wR A M;have Ø:(bt (n.take r)++bJ r ((row n r).take p) 0).length<1000:=by
    have h1:(bt n).length=(ag n).length:=by
     have:=BZ List.length<|lZ n 0;rwa[Aa]at this
    have h2:=BZ List.length dG;rw[Ad,As]at h2;omega
   have Ù:Tt≠D:=λe=>by rw[e,G]at k4;cases k4
   have s7:=aM k4<|.tup [.ref J,.str z];refine jT rfl (aS.of av) (a8 2 KL<|a8 3 KL ?_);refine iA ?_;rw[BP rfl];have rz:(upd s Tt<|.tup [.ref J,.str z]) J=some (.tup<|(key n (r,p)).map kV):=by
    rw[s7 _ _ BM];show some (Tn n[r].1 (p:Int))=some (Tn (nameAt n r) (p:Int));rw[ro A]
   refine SL hu<|ae 2<|ae 3 ⟨_,bX.t (k:=key n (r,p)) (s7 _ _ G) rz (bI<|(by omega)),⟨_,_,rfl⟩,_,λb o hb h=>?_,av,?_,?_⟩
   ·rw[au hb];exact s7 _ _<|i b o hb h
   ·rw[qC M,<-Au,Ad];have:=jn Y (key n (r,p))<|.str z;show _<=_+1;omega
   ·rw[qC M,<-Au];intro x d
    obtain h|h:=An.mp d
    ·obtain⟨N,q2⟩:=I x h;refine⟨N,?_⟩;rw[dC]
     by_cases hk:key n x.2=key n (r,p)
     ·rw[BP hk];have:=t8 hN (cS N) (cS k6) hk;rw[this,k6]at N;rw[Option.some.inj N]
     ·rwa[BK hk]
    ·rw[Af.mp h];exact⟨k6,by rw[dC,BP rfl]⟩
  ·rintro c s ⟨⟨j,l,rfl⟩,Y,i,G,rB,I⟩;rw[Aa,l5,Br,<-tJ A]at rB I;exact⟨⟨_,_,_,rfl⟩,Y,λb o h=>i b o (bh h O)<|t _ _<|m _ _ h,G,rB,I⟩
 ·rintro c H' ⟨_,Y,m,U,UN,v⟩;rw[Aa,b4,Br]at v;exact q D Y H' m O U λe z he=>(v (z,e)<|aY.mpr he).2
def w8(K:aa):PySem.W.kitOne K (.type "list") (.type "list")=some true:=by rfl
def KO(K:aa):PySem.W.kitOne K (.type "str") (.type "str")=some true:=by rfl
def KP(K:aa):PySem.W.kitOne K (.type "int") (.type "int")=some true:=by rfl
def KS(K:aa):PySem.W.kitOne K (.type "int") (.type "bool")=some false:=by kernel_rfl
theorem UO{κ:Type}[DecidableEq κ]:∀{Y:List (κ×V)}{i:Nat}{p:κ×V},(Y.map (·.1)).Nodup->Y[i]?=some p->ao Y p.1=some p.2
 |[],_,_,_,h=>by simp at h
 |q :: r,0,p,_,h=>by
  cases h;exact gJ rfl
 |q :: r,i+1,p,a,h=>by
  rw[Bn,Bk]at a;have b:r[i]?=some p:=by simpa using h
  rw[gK λe=>a.1<|by rw[e];exact Ai.mpr ⟨p,At b,rfl⟩];exact UO a.2 b
def q8q{κ:Type}{l:List κ}(h:l.Nodup){j:Nat}{a:κ}(b:l[i]?=some a)(d:l[j]?=some a):i=j:=by
 have e:=(Ac.mp b).1;have f:=(Ac.mp d).1;have k:=(Ac.mp b).2;have m:=(Ac.mp d).2
 obtain c|c|c:=RQ i j
 ·exact absurd (k.trans m.symm)<|Cc.mp h i j e f c
 ·exact c
 ·exact absurd (m.trans k.symm)<|Cc.mp h j i f e c
def iM(c:Int):Sp:=λa H Q _=>∃R as n,a=[.ref R]/\al H R as n/\(n.map (·.1)).Nodup/\aw n/\n.length<=1000/\(ag n).length<=1000 /\
 ∀d Y H',ah H H'->H d=none->H' d=some (.dT Y)->(∀e∈ends n,∃u,ao Y (key n e)=some (.ref u)/\H' u=some (TN n<|go c n e))->Q (.ref d) H'
abbrev nM:Ñ:=["rows","lists"]
abbrev rC:Ñ:=["rows","lists","end","other"]
def UP:rC.Nodup:=by decide +kernel
theorem UQ{x y:Str}{st:Stmt}(h:(x = "left_steps"/\y = "turned_left"/\st=zU)\/(x = "right_steps"/\y = "turned_right"/\st=zV))(F:bo K x x st f fd)(T:Txt mg)
  (GO:aQ P w K mg Z 2 "other_ends" ["rows"] kZ) (GT:aQ P w K mg Z 2 y ["end","many"]<|iK λj=>j+c):
  aD P w K mg Z bz 3 f fd ["rows"] (iM c):=by
 obtain⟨rfl,rfl,rfl⟩|⟨rfl,rfl,rfl⟩:=h
 all_goals
  refine F.gb (N:=nM) bZ (λvs H Q E h=>?_) λb0 H vs Q E hr h=>?_
  ·obtain⟨R,as,n,rfl,_⟩:=h;rfl
  obtain⟨R,as,n,rfl,A,hN,hT,hn,ht,q⟩:=h;have nd:nM.Nodup:=by decide +kernel
  have b4:=A.len;have hu:=hr.u1;have keys:=Uw n as b4;have Ö:((iL n as).map (·.1)).Nodup:=by rw[keys];exact ID hN
  have KU:(iL n as).length=n.length:=by have:=BZ List.length keys;simpa using this
  refine aT 1 nd (mP (vg rfl) T.vX PyProof.Rows.boot_dict (ai (ae 0 (ax ⟨R,as.map (·.1),iL n as,rfl,?_,?_,?_,?_,λdl i5=>?_⟩))))
  ·rw[Cg];exact A.lst
  ·rw[Aa,KU,b4]
  ·rw[Aa];exact bI<|(by omega)
  ·intro j t kv M h2;rw[Ah,Ar]at M;obtain⟨a,ea,rfl⟩:=M;have hj:j<n.length:=by have:=(Ac.mp ea).1;omega
   have e:=Ux (Ab hj) ea;rw[h2]at e;cases e;exact(A.tup j a n[j] ea<|Ab hj).1
  have ef:(iL n as).foldl (λa p=>putK a p.1 p.2) []=iL n as:=by
   rw[mu (by rwa[Gv]),Gv]
  rw[ef];have O:=aM i5<|.dK<|iL n as;have U:(upd H dl<|.dK<|iL n as) dl=some (.dK<|iL n as):=av;generalize upd H dl (.dK<|iL n as)=H1 at O U
  first|refine bQ (SR (aP zU) nM rC 2 (SY bd) ?_)|refine bQ<|SR (aP zV) nM rC 2 (SY bd) ?_
  refine bG GO hr<|ai<|ae 0<|ax ⟨R,as,n,rfl,A.same O,hN,hT,hn,ht,λd Y r s2 wx ed val w9 Ø UR=>?_⟩;refine⟨d,Y,rfl,ed,λo D B cl C æ ç ex=>?_⟩;have Þ:D≠d:=λe=>by rw[e,av]at B;cases B
  have pD:=jV O wx;have J:ah H (upd r d<|.bB o<|.dT Y):=cX (O.trans s2) pD;have kB:∀b o',b≠d->r b=some o'->(upd r d<|.bB o<|.dT Y) b=some o':=λb o' hb h=>by rwa[au hb]
  have tB:∀ b p j,r b=some (Tn p j)->(upd r d<|.bB o<|.dT Y) b=some (Tn p j):=λb p j h=>kB b _ (rp h ed) h;have UT:(upd r d<|.bB o<|.dT Y) d=some (.bB o<|.dT Y):=av;have UU:(upd r d<|.bB o<|.dT Y) dl=some (.dK<|iL n as):=kB _ _ (λe=>by rw[e,wx]at U;cases U)<|s2 _ _ U;have Ù:=A.same J;generalize upd r d (.bB o<|.dT Y)=HB at B J tB UT UU Ù;have KW:=jV J B;refine CC (λi l H'=>(∃ v1 v2,l=[(some (.ref R)),(some (.ref dl))]++[v1,v2])/\∃ z:List<|List Key×V,H' D=some (.dT z)/\z.length<=i/\ah HB H' /\
   (∀j k x e,j<i->Y[j]?=some (k,x)->e∈ends n->k=key n e->∃u,ao z (key n e)=some (.ref u)/\H' u=some (TN n<|go c n e)))
   ⟨⟨none,none,rfl⟩,[],av,Am _,aM B _,λj k x e h=>absurd h<|Eh _⟩ ?_ ?_ ?_
  ·rintro i l H' _ ⟨_,_,_,_,s,_⟩;exact s _ _ UT
  ·rintro i k x b Tt l H' v ⟨⟨v1,v2,rfl⟩,z,L,l2,s,all⟩ hb k4;have hi:i<Y.length:=(Ac.mp v).1;obtain⟨e,G,rfl⟩:=Ø k<|Ai.mpr ⟨_,At v,rfl⟩;obtain⟨u,hv,Jn⟩:=val e G;have lg:ao Y (key n e)=some x:=UO w9 v;rw[hv]at lg;cases lg;have zx:=dD hT G;obtain⟨zo,UX⟩:=af.mp zx;have jU:=cS UX;have pq:=iE UX;have Ú:nameAt n (other n e).1=n[(other n e).1].1:=ro jU;have m:=aM k4<|.tup [.ref b,.ref u];have UY:=m _ _<|s _ _<|tB _ _ _ Jn;refine jT rfl (aS.of av) (a8 2 UP<|a8 3 UP ?_);refine iA ?_;rw[BP rfl];have UZ:as[(other n e).1]?=some (as[(other n e).1]'(by omega)):=Ab (by omega);have xa:n[(other n e).1]?=some n[(other n e).1]:=Ab jU;have ev:ao (iL n as) (Sum.inr<|nameAt n (other n e).1)=some (.ref (as[(other n e).1]'(by omega)).2):=by rw[Ú];exact Uv Ö<|Ux xa UZ
   have K0:=(A.tup _ _ _ UZ xa).2;have xc:row n (other n e).1=n[(other n e).1].2:=ic jU;refine SL hu<|ae 2<|bG GT hr<|ai<|ae 3<|ai<|bP dH T.len DR<|ai<|eU hu<|ae 1<|bb cv<|ae 3<|aE ⟨u,_,_,.str<|nameAt n (other n e).1,rfl,rfl,aS.of UY,rfl,?_⟩;refine⟨dl,.ref (as[(other n e).1]'(by omega)).2,rfl,by rw[<-ev];exact aX.k (k:=Sum.inr<|nameAt n (other n e).1)<|m _ _<|s _ _ UU,ax ⟨_,_,rfl,.inl<|aj.of<|m _ _<|s _ _<|J _ _ K0,ax ⟨u,_,_,_,rfl,UY,?_,λt2 H4 I A6=>?_⟩⟩⟩
   ·rw[Aa,<-xc];omega
   rw[Aa,<-xc]at A6;have K1:H4 t2=some (TN n<|go c n e):=by
    rw[A6];have:=wj (c:=c) zx;show some (Tn _ _)=some (Tn _ (((go c n e).2:Nat):Int));unfold go;rw[this];rfl
   have wN:=I _ _<|m _ _ hb;refine⟨_,bX.t (k:=key n e) (I _ _<|m _ _ L) wN (bI<|(by omega)),⟨_,_,rfl⟩,_,av,?_,cX ((s.trans m).trans I) B,λj k' x' e' hj g8 zB qj=>?_⟩
   ·have:=jn z (key n e)<|.ref t2;omega
   ·subst qj
    by_cases BE:j=i
    ·subst BE;rw[v]at g8;have Û:key n e=key n e':=BZ Prod.fst<|Option.some.inj g8;obtain⟨z1,qR⟩:=af.mp G;obtain⟨z2,AJ⟩:=af.mp zB;have:=t8 hN (cS qR) (cS AJ) Û;subst this;exact⟨t2,by rw[dC,BP rfl],by rwa[au<|rp K1<|I _ _<|m _ _ L]⟩
    ·obtain⟨u3,Ü,Ý⟩:=all j _ x' e' (by omega) g8 zB rfl;refine⟨u3,?_,?_⟩
     ·rw[dC,BK,Ü];intro hk;have M:(Y.map (·.1))[j]?=some (key n e'):=by rw[Ah,g8];rfl
      have h2:(Y.map (·.1))[i]?=some (key n e'):=by rw[Ah,v,hk];rfl
      exact BE<|q8q w9 M h2
     ·have q4:=I _ _<|m _ _ Ý;rwa[au<|rp q4<|I _ _<|m _ _ L]
  ·rintro l H' ⟨_,z,L,_,s,all⟩;refine q D z H' (J.trans s) KW L λe G=>?_;obtain⟨u,hv,_⟩:=val e G;obtain⟨i,hi⟩:∃i:Nat,(Y.map (·.1))[i]?=some (key n e):=Bj<|Ql hv;rw[Ah,Ar]at hi;obtain⟨⟨k,x⟩,v,hk⟩:=hi;exact all i k x e (Ac.mp v).1 v G hk
def Me(F:bo K "left_steps" "left_steps" zU f fd)(T:Txt mg)(a:aQ P w K mg Z 2 "other_ends" ["rows"] kZ)(GT:aQ P w K mg Z 2 "turned_left" ["end","many"]<|iK λj=>j+1):aD P w K mg Z bz 3 f fd ["rows"] (iM 1):=UQ (.inl ⟨rfl,rfl,rfl⟩) F T a GT
def kh(F:bo K "right_steps" "right_steps" zV f fd)(T:Txt mg)(a:aQ P w K mg Z 2 "other_ends" ["rows"] kZ)(GT:aQ P w K mg Z 2 "turned_right" ["end","many"]<|iK λj=>j-1):aD P w K mg Z bz 3 f fd ["rows"] (iM (-1)):=UQ (.inr ⟨rfl,rfl,rfl⟩) F T a GT
def fb(n:fo)(H:Hp)(ts:List Addr)(es:List Nt.ff):Prop:=ts.length=es.length/\∀(j:Nat)t e,ts[j]?=some t->es[j]?=some e->H t=some (TN n e)
def fb.keep(h:fb n H ts es)(k:∀t p j,H t=some (Tn p j)->H' t=some (Tn p j)):fb n H' ts es:=⟨h.1,λj t e a b=>k _ _ _<|h.2 j t e a b⟩
def fb.same(h:fb n H ts es)(s:ah H H'):fb n H' ts es:=h.keep λ_ _ _ q=>s _ _ q
theorem fb.append{c:List Nt.ff}(h:fb n H ts es)(g:fb n H us c):fb n H (ts++us) (es++c):=by
 refine⟨by rw[Ad,Ad,h.1,g.1],λj t e b a=>?_⟩;have d:=h.1
 by_cases f:j<ts.length
 ·rw[Aq f]at b;rw[Aq<|(by omega)]at a;exact h.2 j t e b a
 ·rw[Ba<|(by omega)]at b a;rw[<-d]at a;exact g.2 _ t e b a
theorem fb.two{t u:Addr}{b:Nt.ff}(f:H t=some (TN n a))(h:H u=some (TN n b)):fb n H [t,u] [a,b]:=⟨rfl,λj x e c d=>by
 match j with
 |0=>cases c;cases d;exact f
 |1=>cases c;cases d;exact h
 |j+2=>simp at c⟩
def Zs(c:(n.map (·.1)).Nodup){b:Nt.ff}(d:a∈ends n)(f:b∈ends n):decide (nameAt n a.1=nameAt n b.1/\(a.2:Int)=(b.2:Int))=decide (a=b):=by
 obtain⟨j,h⟩:=af.mp d;obtain⟨k,i⟩:=af.mp f;refine decide_eq_decide.mpr ⟨λ⟨p,q⟩=>t8 c (cS h) (cS i) (by unfold key;rw[p,q]),λe=>by rw[e];exact⟨rfl,rfl⟩⟩
def K2(h:H d=some (.lst xs)):mF K "list" (.ref d) H:=Or.inl ⟨rfl,xs,aj.of h⟩
def bE(n:fo)(H:Hp)(d:Addr)(c:Int):Prop:=∃Y,H d=some (.dT Y)/\∀e∈ends n,∃u,ao Y (key n e)=some (.ref u)/\H u=some (TN n<|go c n e)
def bE.same(h:bE n H d c)(s:ah H H'):bE n H' d c:=let ⟨Y,f,i⟩:=h;⟨Y,s _ _ f,λe j=>let ⟨u,a,b⟩:=i e j;⟨u,a,s _ _ b⟩⟩
def bE.get{n:fo}{H:Hp}{d t:Addr}{c:Int}{e:Nt.ff}(h:bE n H d c)(f:e∈ends n)(i:H t=some (TN n e)):∃u,aX H d (.ref t) ((some (.ref u)))/\H u=some (TN n<|go c n e):=by
 obtain⟨Y,j,k⟩:=h;obtain⟨u,a,b⟩:=k e f;exact⟨u,by rw[<-a];exact aX.t j i,b⟩
def rD:Sp:=λb H Q _=>∃dl a t n e,b=[.ref dl,.ref a,.ref t]/\bE n H dl 1/\bE n H a (-1)/\(n.map (·.1)).Nodup/\aw n/\(ag n).length<=1000/\e∈ends n/\H t=some (TN n e) /\
 ∀l ts k H',ah H H'->H l=none->H' l=some (.lst<|ts.map V.ref)->fb n H' ts (wk n e k)->jw n e k->k<=(ends n).length->Q (.ref l) H'
abbrev ON:Ñ:=["lefts","rights","first","walker","end"]
def xf:ak ON ["lefts","rights","first"] (aP qG):=bZ
def K3(ts:List Addr)(a b:Addr):ts.map V.ref++[V.ref a,V.ref b]=(ts++[a]).map V.ref++[V.ref b]:=by rw[Aj,Au];rfl
theorem Hx(F:bo K "walker_from" "walker_from" qG f fd)(T:Txt mg):aD P w K mg Z bz 1 f fd ["lefts","rights","first"] rD:=by
 refine F.gc xf λb0 H vs Q E hr h=>?_;obtain⟨dl,G,t,n,e,rfl,hL,U0,hN,v,iN,x,I,q⟩:=h;have nd:=xf.nd;have pq:=jv n;have B:=hr.u1;have un:=hr.fQ;obtain⟨k,k0,k1,k2⟩:=Ip (λa y=>m9 v y) (λa y b hb=>wm v y hb) x;obtain⟨o,g1,e1⟩:=hL.get x I;refine aT 3 nd<|dS<|ai<|ae 2<|ai<|eU B<|ae 0<|ae 2 ⟨dl,.ref o,rfl,g1,ax ⟨Z2,λl J=>?_⟩⟩;have s:=aM J<|.lst [.ref t,.ref o];have L:(upd H l<|.lst [.ref t,.ref o]) l=some (.lst<|[t,o].map V.ref):=av;generalize upd H l (.lst [.ref t,.ref o])=H1 at s L;obtain⟨u2,g2,e2⟩:=(U0.same s).get (gB v x)<|s _ _ e1;refine aT 4 nd<|eU B<|ae 1<|bb cL<|ae 3<|y4 yR<|aE ⟨1,rfl,l,_,_,.ref o,rfl,rfl,aj.of L,rfl,G,.ref u2,rfl,g2,?_⟩;refine vP (λm σ d=>∃j ts u,m=k-j/\0<j/\j<=k/\ah H d/\d l=some (.lst<|ts.map V.ref)/\fb n d ts (wk n e j)/\d u=some (TN n<|it (two n) j e)/\(∀i,0<i->i<j->it (two n) i e≠e)/\σ=[(some (.ref dl)),(some (.ref G)),(some (.ref t)),(some (.ref l)),(some (.ref u))])
  (m0:=k-1) ⟨1,[t,o],u2,rfl,Fr,k0,s,L,fb.two (s _ _ I)<|s _ _ e1,e2,λi h1 h2=>(by omega),rfl⟩ ?_
 rintro m σ d ⟨j,ts,u,rfl,j0,j1,C,D,r,M,hf,rfl⟩;have N:=kz (λa y=>m9 v y) x j;refine cH (qw un) (ae 4<|ae 2 ⟨1,_,(by decide),pa M<|C _ _ I,_,rfl,?_⟩);rw[Zs hN N x];have tl:=r.1;rw[qU]at tl
 by_cases c:it (two n) j e=e
 ·rw[BW c];exact bH<|bQ<|ae 3<|q l ts j d C J D r ⟨j0,c,hf⟩<|(by omega)
 ·rw[BR c];have jk:j<k:=by
   obtain h|h:=Dr j k
   ·exact h
   ·have:j=k:=(by omega)
    subst this;exact absurd k2 c
  obtain⟨v1,g3,e3⟩:=(hL.same C).get N M;refine cz<|gq<|zF DW PySem.F.slot_list_extend PySem.F.type_list_extend ZK<|ae 3 ⟨K2 D,dS<|ai<|ae 4<|ai<|eU B<|ae 0<|ae 4 ⟨dl,.ref v1,rfl,g3,ax ⟨Z2,λp hp=>?_⟩⟩⟩;have O:=aM hp<|.lst [.ref u,.ref v1];refine⟨l,p,ts.map V.ref,[.ref u,.ref v1],rfl,rfl,O _ _ D,av,r9 (by rw[Aa];show _+2<=100000;omega),?_⟩;have U:ah H (upd (upd d p<|.lst [.ref u,.ref v1]) l<|.lst<|ts.map V.ref++[.ref u,.ref v1]):=cX (C.trans O) J;have Y:(upd (upd d p<|.lst [.ref u,.ref v1]) l<|.lst<|ts.map V.ref++[.ref u,.ref v1]) l=some (.lst<|(ts++[u,v1]).map V.ref):=by rw[av,Aj];rfl
  have A:∀b p' j',d b=some (Tn p' j')->(upd (upd d p<|.lst [.ref u,.ref v1]) l<|.lst<|ts.map V.ref++[.ref u,.ref v1]) b=some (Tn p' j'):=λb p' j' h=>by
   rw[au<|bV h D λz=>nomatch z];exact O _ _ h
  generalize upd (upd d p<|.lst [.ref u,.ref v1]) l (.lst<|ts.map V.ref++[.ref u,.ref v1])=H3 at U Y A;obtain⟨v2,g4,e4⟩:=(U0.same U).get (gB v N)<|A _ _ _ e3;refine aT 4 nd<|eU B<|ae 1<|bb cL<|ae 3<|y4 yR<|aE ⟨1,rfl,l,_,_,.ref v1,rfl,rfl,aj.of Y,?_,G,.ref v2,rfl,g4,?_⟩
  ·rw[Aj];show fG (ts.map V.ref++[V.ref u,V.ref v1]) (-1)=_;rw[K3];exact Zz _ _
  refine a7 ⟨k-(j+1),(by omega),j+1,ts++[u,v1],v2,rfl,Gd _,jk,U,Y,(r.keep A).append<|fb.two (A _ _ _ M)<|A _ _ _ e3,e4,λi h1 h2=>?_,rfl⟩
  by_cases dQ:i=j
  ·subst dQ;exact c
  ·exact hf i h1<|(by omega)
open bK
theorem U1{α c:Type}(f:α->c):∀xs:List α,aq (xs.map f)=(aq xs).map f
 |[]=>rfl
 |[a]=>rfl
 |a :: b :: r=>by
  show f a :: aq (r.map f)=f a :: (aq r).map f;rw[U1 f r]
def fb.aq{n:fo}{H:Hp}{ts:List Addr}{es:List Nt.ff}(h:fb n H ts es):fb n H (L2.aq ts) (L2.aq es):=by
 refine⟨by rw[wg,wg,h.1],λj t e a b=>?_⟩;rw[qT]at a b;exact h.2 _ t e a b
def pE{a:Addr}{o:HO}(h:H a=some o)(g:H d=some (bj P w d zs))(b:∀c,o ≠ .ext c):a≠d:=λe=>by
 rw[e,g]at h;exact b _ (Option.some.inj h).symm
structure jX(n:fo)(H:Hp)(L:Addr)(ls:List Addr)(ws:List<|List Nt.ff):Prop where
 lst:H L=some (.lst<|ls.map V.ref)
 len:ls.length=ws.length
 de:ls.Nodup
 out:L∉ls
 at':∀(j:Nat)l w,ls[j]?=some l->ws[j]?=some w->∃ts,H l=some (.lst<|ts.map V.ref)/\fb n H ts w
def jX.same{n:fo}{H H':Hp}{L:Addr}{c:List Addr}{ws:List (List Nt.ff)}(h:jX n H L c ws)(s:ah H H'):jX n H' L c ws:=
 ⟨s _ _ h.lst,h.len,h.de,h.out,λj l w d e=>let ⟨ts,a,b⟩:=h.at' j l w d e;⟨ts,s _ _ a,b.same s⟩⟩
def jX.keep{n:fo}{H H':Hp}{L:Addr}{c:List Addr}{ws:List (List Nt.ff)}(h:jX n H L c ws)(e:H' L=H L)(f:∀l∈c,∀o,H l=some o->H' l=some o)(i:∀t p j,H t=some (Tn p j)->H' t=some (Tn p j)):jX n H' L c ws:=
 ⟨by rw[e];exact h.lst,h.len,h.de,h.out,λj l w d k=>let ⟨ts,a,b⟩:=h.at' j l w d k;⟨ts,f l (At d) _ a,b.keep i⟩⟩
theorem jX.snoc{L l:Addr}{b:List Addr}(h:jX n H L b ws)(k:H' L=some (.lst<|b.map V.ref++[.ref l]))(m:∀l∈b,∀o,H l=some o->H' l=some o)(q:∀t p j,H t=some (Tn p j)->H' t=some (Tn p j))
  (r:H' l=some (.lst<|ts.map V.ref)) (s:fb n H' ts v) (u:l∉b) (w:L≠l):jX n H' L (b++[l]) (ws++[v]):=by
 refine⟨by rw[k,Aj];rfl,by rw[Ad,Ad,h.len];rfl,lQ h.de u,λd=>?_,λj a x c e=>?_⟩
 ·obtain d|d:=An.mp d
  ·exact h.out d
  ·exact w<|Af.mp d
 ·have f:=h.len
  by_cases y:j<b.length
  ·rw[Aq y]at c;rw[Aq<|(by omega)]at e;obtain⟨us,z,A⟩:=h.at' j a x c e;exact⟨us,m a (At c) _ z,A.keep q⟩
  ·rw[Ba<|(by omega)]at c e;have i:j-b.length=0:=by
    have:=(Ac.mp c).1;simp at this;omega
   rw[i]at c;rw[<-f,i]at e;cases c;cases e;exact⟨ts,r,s⟩
def BV:Sp:=λb H Q _=>∃R as n,b=[.ref R]/\al H R as n/\(n.map (·.1)).Nodup/\aw n/\n.length<=1000/\(ag n).length<=400 /\
 ∀L a H',ah H H'->H L=none->jX n H' L a (eW n (ends n) [])->(∀l∈a,H l=none)->Q (.ref L) H'
def hX(h:(bt n)[i]?=some p):(ends n)[i]?=some p.2:=by unfold ends;rw[Ah,h];rfl
abbrev EQ:Ñ:=["rows","lefts","rights","names","told","walkers","first","walker","end"]
def xh:ak EQ ["rows"] (aP qF):=bZ
set_option tactic.hygienic true in
theorem pw(F:bo K "walkers_of" "walkers_of" qF f fd)(T:Txt mg)
  (GL:aQ P w K mg Z 3 "left_steps" ["rows"]<|iM 1)
  (GR:aQ P w K mg Z 3 "right_steps" ["rows"]<|iM (-1))
  (GN:aQ P w K mg Z 3 "ties_by_end" ["rows"] nJ)
  (GO:aQ P w K mg Z 3 "ends_in_order" ["rows"] Kz)
  (GW:aQ P w K mg Z 3 "walker_from" ["lefts","rights","first"] rD):
  aD P w K mg Z bz 4 f fd ["rows"] BV:=by
 refine F.gc xh λb0 H vs Q E hr h=>?_;obtain⟨R,as,n,rfl,hR,hN,hT,hn,iN,q⟩:=h;have nd:=xh.nd;have pq:=jv n;have hu:=hr.u1;show ge _ _ _ [(some (.ref R)),none,none,none,none,none,none,none,none] H;refine aT 1 nd (bG GL hr<|ai<|ae 0<|ax ⟨R,as,n,rfl,hR,hN,hT,hn,(by omega),λdl kl H1 s1 n1 e1 v1=>?_⟩);refine aT 2 nd (bG GR hr<|ai<|ae 0<|ax ⟨R,as,n,rfl,hR.same s1,hN,hT,hn,(by omega),λdr kr H2 s2 n2 e2 v2=>?_⟩);refine aT 3 nd (bG GN hr<|ai<|ae 0<|ax ⟨R,as,n,rfl,hR.same<|s1.trans s2,hN,hn,(by omega),λJ kn H3 s3 n3 e3 v3=>?_⟩);refine aT 4 nd<|q6n T.qK λD hD=>?_;refine aT 5 nd<|dS<|ax ⟨Z0,λL hL=>?_⟩;have Ø:=bE.same ⟨kl,e1,v1⟩<|s2.trans s3;have Ù:=bE.same ⟨kr,e2,v2⟩ s3;have rF:=(s1.trans s2).trans s3;have B0:L≠D:=λe=>by rw[e,av]at hL;cases hL
 have Ú:H3 L=none:=by rwa[au B0]at hL
 have KW:=jV rF hD;have A9:=jV rF Ú;have sB:ah H3 (upd (upd H3 D<|bj P w D []) L<|.lst []):=(aM hD _).trans<|aM hL _;have U2:(upd (upd H3 D<|bj P w D []) L<|.lst []) D=some (bj P w D []):=by rw[au<|CG B0,av]
 have ua:(upd (upd H3 D<|bj P w D []) L<|.lst []) L=some (.lst []):=av;have K7:=rF.trans sB;have xi:=Ø.same sB;have xj:=Ù.same sB;have U3:=sB _ _ e3;show ge _ _ _ [(some (.ref R)),(some (.ref dl)),(some (.ref dr)),(some (.ref J)),(some (.ref D)),(some (.ref L)),none,none,none] (upd (upd H3 D<|bj P w D []) L<|.lst []);generalize upd (upd H3 D<|bj P w D []) L (.lst [])=HB at sB U2 ua K7 xi xj U3;refine lS (bG GO hr<|ai<|ae 0<|ax ⟨R,as,n,rfl,hR.same K7,hn,(by omega),λú us B s5 n5 e5 K8=>⟨ú,rfl,⟨_,aj.of e5⟩,?_⟩⟩);have ub:=K7.trans s5;have mj:=s5 _ _ U2;have B1:=s5 _ _ ua;have K9:=xi.same s5;have K':=xj.same s5;have La:=s5 _ _ U3;have Û:ú≠L:=λe=>by rw[e,ua]at n5;cases n5
 have rG:us.length=(ends n).length:=by rw[K8.1];unfold ends;rw[Aa]
 refine lT (xs:=us.map V.ref) (λi σ H'=>∃(zs v:Ñ)(A:List Addr)(ws:List<|List Nt.ff)(u1 u2 u3:Option V),(∀ b o,b≠D->b≠L->B b=some o->H' b=some o)/\H' D=some (bj P w D zs)/\zs.Nodup/\(∀ z∈zs,z∈ag n)/\(∀ z,z∈zs↔z∈v) /\
  jX n H' L A ws/\(∀l∈A,B l=none)/\A.length<=i/\eW n (ends n) []=ws++eW n ((ends n).drop i) v/\σ=[(some (.ref R)),(some (.ref dl)),(some (.ref dr)),(some (.ref J)),(some (.ref D)),(some (.ref L)),u1,u2,u3])
  ⟨[],[],[],[],_,_,_,λb o _ _ h=>h,mj,Cn,λz h=>by simp at h,λz=>by simp,⟨B1,rfl,Cn,by simp,λj l w h=>by simp at h⟩,λl h=>by simp at h,Am _,rfl,rfl⟩ ?_ ?_ ?_
 ·rintro i σ H' _ ⟨_,_,_,_,_,_,_,G,_⟩;exact aj.of<|G _ _ (pE e5 mj λφ z=>nomatch z) Û e5
 ·rintro i x σ H' hx ⟨zs,v,A,ws,u1,u2,u3,G,eD,zn,zt,zm,M,hf,mV,xk,rfl⟩;have hi:i<us.length:=by
   have:=(Ac.mp hx).1;rwa[Aa]at this
  rw[Ah,Ab hi]at hx;cases hx;have Lb:i<(bt n).length:=by have:=K8.1;omega
  have B2:B us[i]=some (TN n (bt n)[i].2):=K8.2 i us[i] (bt n)[i] (Ab hi)<|Ab Lb;have nN:=hX<|Ab Lb;have jz:aJ n (bt n)[i].2=some (bt n)[i].1:=aY.mp (by have:=Bp Lb;exact this);generalize (bt n)[i]=pr at B2 nN jz;obtain⟨z,e⟩:=pr;have B2:B us[i]=some (TN n e):=B2;have jz:aJ n e=some z:=jz;have nN:(ends n)[i]?=some e:=nN;have he:e∈ends n:=At nN;have pF:(ends n).drop i=e :: (ends n).drop (i+1):=by
   have U4:i<(ends n).length:=(by omega)
   rw[RV U4]
   congr 1
   have:=Ab U4;rw[nN]at this;exact(Option.some.inj this).symm
  have U5:∀{b p j},B b=some (Tn p j)->H' b=some (Tn p j):=λ{b p j}h=>G _ _ (pE h mj λφ z=>nomatch z) (bV h B1 λz=>nomatch z) h;have dX:=U5 B2;have Le:H' J=some (.dT kn):=G _ _ (pE La mj λφ z=>nomatch z) (bV La B1 λz=>nomatch z) La;have cP:∀{d c},bE n B d c->bE n H' d c:=λ{d c}⟨Y,a,b⟩=>⟨Y,G _ _ (pE a mj λφ z=>nomatch z) (bV a B1 λz=>nomatch z) a,λe he=>let ⟨u,p,r⟩:=b e he;⟨u,p,U5 r⟩⟩;have Lf:aX H' J (.ref us[i]) (some<|.str z):=by rw[<-v3 e z jz];exact aX.t (k:=key n e) Le dX
  refine a8 6 nd ?_;refine fP<|cH IF<|eU hu<|ae 3<|ae 6 ⟨J,.str z,rfl,Lf,ae 4 ⟨z,D,zs,rfl,rfl,eD,_,rfl,?_⟩⟩;refine iq (λc=>?_) λc=>?_
  ·have hz:z∉zs:=BX c;have cU:ay n e∉v:=by rw[dJ jz];exact λh=>hz<|(zm z).mpr h
   refine aT 7 nd (bG GW hr<|ai<|ae 1<|ai<|ae 2<|ai<|ae 6<|ax ⟨dl,dr,us[i],n,e,rfl,cP K9,cP K',hN,hT,(by omega),he,dX,λl ts k H6 s6 n6 e6 Ü pr hk=>?_⟩);have Ý:=wo pr;have rH:walker n e=wk n e k:=by unfold walker;rw[Ý]
   have Lh:=s6 _ _ M.lst;have dY:=s6 _ _ eD;have Li:L≠l:=bh M.lst n6;have t7:D≠l:=bh eD n6;refine gq (jQ<|ae 5 ⟨L,rfl,⟨_,Lh⟩,ae 7 ⟨_,Lh,by rw[Aa];exact bI (by omega),?_⟩⟩);have k7:∀b o,b≠L->H6 b=some o->(upd H6 L<|.lst<|A.map V.ref++[.ref l]) b=some o:=λb o hb h=>by rwa[au hb]
   have U6:(upd H6 L<|.lst<|A.map V.ref++[.ref l]) L=some (.lst<|A.map V.ref++[.ref l]):=av;generalize upd H6 L (.lst<|A.map V.ref++[.ref l])=H7 at k7 U6;have U7:∀t p j,H6 t=some (Tn p j)->H7 t=some (Tn p j):=λt p j h=>k7 _ _ (bV h Lh λz=>nomatch z) h;have e7:=k7 _ _ (CG Li) e6;have Þ:=k7 _ _ (CG B0) dY;have U8:=Ü.keep U7;have uc:l∉A:=λhm=>by
    obtain⟨j,hj⟩:=Bj hm;have Ö:=M.len;have Lj:j<ws.length:=by have:=(Ac.mp hj).1;omega
    obtain⟨_,a,_⟩:=M.at' j l ws[j] hj<|Ab Lj;rw[n6]at a;cases a
   have ß:jX n H7 L (A++[l]) (ws++[wk n e k]):=M.snoc U6 (λa N o ho=>k7 _ _ (λq=>M.out<|q ▸ N)<|s6 _ _ ho) (λt p j h=>U7 _ _ _<|s6 _ _ h) e7 U8 uc Li;have é:B l=none:=by
    cases q5:B l with
    |none=>rfl
    |some o=>rw[G _ _ (CG t7) (CG Li) q5]at n6;cases n6
   have à:∀a∈A++[l],B a=none:=λa N=>by
    obtain N|N:=An.mp N
    ·exact hf a N
    ·rwa[Af.mp N]
   have wJ:∀b o,b≠D->b≠L->B b=some o->H7 b=some o:=λb o O h2 h=>k7 _ _ h2<|s6 _ _<|G b o O h2 h;have B3:(A++[l]).length<=i+1:=by rw[Ad];show A.length+1<=_;omega
   have Ln:eW n (ends n) []=(ws++[wk n e k])++eW n ((ends n).drop<|i+1) (v++(aq<|wk n e k).map (ay n)):=by
    rw[xk,pF];show ws++(if ay n e∈v then _ else _)=_;rw[BK cU,rH,Au];rfl
   have xl:=Jp hT he k;refine lS<|q18<|ae 7 ⟨l,_,rfl,aj.of e7,λp hp=>⟨p,rfl,⟨_,aj.of av⟩,?_⟩⟩;rw[U1];have s8:=aM hp<|.lst<|(aq ts).map V.ref;have e8:(upd H7 p<|.lst<|(aq ts).map V.ref) p=some (.lst<|(aq ts).map V.ref):=av;have U:=s8 _ _ Þ;have ud:=ß.same s8;have B4:=(U8.same s8).aq;have U9:∀ b o,b≠D->b≠L->B b=some o->(upd H7 p<|.lst<|(aq ts).map V.ref) b=some o:=λb o O h2 h=>s8 _ _<|wJ b o O h2 h;have Lp:=s8 _ _ (k7 _ _ (bV Le M.lst λz=>nomatch z)<|s6 _ _ Le);generalize upd H7 p (.lst<|(aq ts).map V.ref)=H8 at s8 e8 U ud B4 U9 Lp;have Lv:p≠D:=pE e8 U λφ z=>nomatch z;refine lT (xs:=(aq ts).map V.ref) (λm σ H9=>∃(C:Ñ)(u3:Option V),(∀ b o,b≠D->H8 b=some o->H9 b=some o)/\H9 D=some (bj P w D C)/\C.Nodup/\(∀ z∈C,z∈ag n)/\(∀ z,z∈C↔z∈v++((aq<|wk n e k).take m).map (ay n)) /\
    σ=[(some (.ref R)),(some (.ref dl)),(some (.ref dr)),(some (.ref J)),(some (.ref D)),(some (.ref L)),some<|.ref us[i],(some (.ref l)),u3]) ⟨zs,_,λb o _ h=>h,U,zn,zt,λz=>by rw[zm z];simp,rfl⟩ ?_ ?_ ?_
   ·rintro m σ H9 _ ⟨_,_,I,_⟩;exact aj.of<|I _ _ Lv e8
   ·rintro m x σ H9 hx ⟨C,u3,I,pH,xm,B5,B6,rfl⟩;have hm:m<(aq ts).length:=by
     have:=(Ac.mp hx).1;rwa[Aa]at this
    have l8:=B4.1;rw[Ah,Ab hm]at hx;cases hx;have nq:m<(aq<|wk n e k).length:=(by omega)
    have Lw:=B4.2 m _ _ (Ab hm)<|Ab nq;have á:(aq<|wk n e k)[m]∈wk n e k:=by
     have O:(aq<|wk n e k)[m]?=some (aq<|wk n e k)[m]:=Ab nq;rw[qT]at O;exact At O
    have A4:=xl _ á;obtain⟨y,hy⟩:=af.mp A4;have gZ:(aq<|wk n e k).take (m+1)=(aq<|wk n e k).take m++[(aq<|wk n e k)[m]]:=by rw[Bx,Ab nq];rfl
    generalize (aq<|wk n e k)[m]=c at Lw A4 hy gZ;have â:H9 (aq ts)[m]=some (TN n c):=I _ _ (pE Lw U λφ z=>nomatch z) Lw;have ã:H9 J=some (.dT kn):=I _ _ (pE Lp U λφ z=>nomatch z) Lp;have ä:aX H9 J (.ref (aq ts)[m]) (some<|.str y):=by rw[<-v3 c y hy];exact aX.t (k:=key n c) ã â
    have zl:C.length<=(ag n).length:=aI xm B5;refine a8 8 nd ?_;refine gq<|q5h<|ae 4 ⟨D,rfl,⟨_,pH⟩,eU hu<|ae 3<|ae 8 ⟨J,.str y,rfl,ä,y,C,rfl,pH,(by omega),a7 ⟨added C y,_,λb o hb h=>?_,av,?_,λz hz=>?_,λz=>?_,rfl⟩⟩⟩
    ·rw[au hb];exact I b o hb h
    ·unfold added
     split
     ·exact xm
     ·rename_i å;exact lQ xm å
    ·obtain h|h:=(Hz C y z).mp hz
     ·exact B5 z h
     ·rw[h];exact eG hy
    ·rw[Hz,B6 z,gZ,Aj,<-Au,An (s:=v++_)];show _\/z=y↔_\/z∈[ay n c];rw[dJ hy,Af]
   ·rintro σ H9 ⟨C,u3,I,pH,xm,B5,B6,rfl⟩;have l8:=B4.1;rw[Aa,l8,Br]at B6;refine a7<|a7 ⟨C,v++(aq<|wk n e k).map (ay n),A++[l],ws++[wk n e k],_,_,_,λb o O h2 h=>I _ _ O<|U9 b o O h2 h,pH,xm,B5,B6,?_,à,B3,Ln,rfl⟩;refine ud.keep ?_ (λa N o ho=>I _ _ ?_ ho) λt p j h=>I _ _ (pE h U λφ z=>nomatch z) h
    ·rw[ud.lst];exact I _ _ B0 ud.lst
    ·intro q;rw[q,U]at ho;obtain⟨j,hj⟩:=Bj N;have Ö:=ud.len;have Lj:j<(ws++[wk n e k]).length:=by have:=(Ac.mp hj).1;omega
     obtain⟨_,b,_⟩:=ud.at' j a _ hj<|Ab Lj;rw[q,U]at b;cases b
  ·have hz:z∈zs:=Classical.not_not.mp<|GJ<|Dk.mpr c;refine a7 (a7 ⟨zs,v,A,ws,_,_,_,G,eD,zn,zt,zm,M,hf,(by omega),?_,rfl⟩);rw[xk,pF];show ws++(if ay n e∈v then _ else _)=_;rw[BP<|by rw[dJ jz];exact(zm z).mp hz]
 ·rintro σ H' ⟨zs,v,A,ws,u1,u2,u3,G,eD,zn,zt,zm,M,hf,mV,xk,rfl⟩;rw[Aa,rG,List.drop_length]at xk;have Lx:eW n (ends n) []=ws:=by rw[xk];show ws++[]=ws;rw[Be]
  refine bQ (ae 5<|q L A H' (λb o h=>?_) A9 (by rwa[Lx]) λl hl=>jV ub<|hf l hl);exact G _ _ (bh h KW) (bh h A9)<|ub _ _ h
end
end Q1
namespace pI
open PySem PySem.W PyProof.Rows
variable{n i m:Nat}{J:Shared->Prop}{cmp:Nat->Nat->(Bool->Shared->Prop)->Shared->Prop}{p:Array Nat}{s:Shared}{Q:Nat×Array Nat->Shared->Prop}
section
variable{lt:Nat->Nat->Bool}
structure fc(lt:Nat->Nat->Bool)(cmp:Nat->Nat->(Bool->Shared->Prop)->Shared->Prop)(J:Shared->Prop)(n:Nat):Prop where
 ask:∀i j C s,i<n->j<n->i≠j->J s->(∀s',J s'->C (lt i j) s')->cmp i j C s
 fe:∀i j,i<n->j<n->i≠j->lt i j=true\/lt j i=true
 asy:∀i j,lt i j=true->lt j i=false
 B7:∀i j k,lt i j=true->lt j k=true->lt i k=true
def g(p:Array Nat)(i:Nat):Nat:=p.getD i 0
structure Pm(p:Array Nat)(n:Nat):Prop where
 size:p.size=n
 lt:∀i,i<n->g p i<n
 inj:∀i j,i<n->j<n->g p i=g p j->i=j
def jA{v:Nat}(h:p[i]?=some v):g p i=v:=by
 unfold g;rw[Dz,h];rfl
def lh{q:Array Nat}{j:Nat}(h:p[i]?=q[j]?):g p i=g q j:=by
 unfold g;rw[Dz,Dz,h]
def U'(n:Nat):Pm (List.toArray<|range n) n:=by
 have e:∀i,i<n->g (List.toArray<|range n) i=i:=λi a=>jA (by simp[a]);exact⟨by simp,λi a=>by rwa[e i a],λi j a b h=>by rwa[e i a,e j b]at h⟩
def Up(lt:Nat->Nat->Bool)(p:Array Nat)(m:Nat):Prop:=∀i j,i<j->j<m->lt (g p i) (g p j)=true
def Dn(lt:Nat->Nat->Bool)(p:Array Nat)(m:Nat):Prop:=∀i j,i<j->j<m->lt (g p j) (g p i)=true
theorem Rg(p:Array Nat):Up lt p 1:=λi j a b=>(by omega)
theorem d0(A:fc lt cmp J n)(e:1<=m)(h:Up lt p m)(a:lt (g p<|m-1) (g p m)=true):Up lt p (m+1):=λi j b f=>by
 by_cases c:j<m
 ·exact h i j b c
 ·have:j=m:=(by omega)
  subst this
  by_cases d:i=j-1
  ·rwa[d]
  ·exact A.B7 _ _ _ (h i (j-1) (by omega)<|(by omega)) a
theorem OF(A:fc lt cmp J n)(e:1<=m)(h:Dn lt p m)(a:lt (g p m) (g p<|m-1)=true):Dn lt p (m+1):=λi j b f=>by
 by_cases c:j<m
 ·exact h i j b c
 ·have:j=m:=(by omega)
  subst this
  by_cases d:i=j-1
  ·rwa[d]
  ·exact A.B7 _ _ _ a<|h i (j-1) (by omega)<|(by omega)
def Ly(A:fc lt cmp J n){j:Nat}(a:i<n)(b:j<n)(c:i≠j)(h:lt i j=false):lt j i=true:=by
 obtain q|q:=A.fe i j a b c
 ·rw[h]at q;cases q
 ·exact q
theorem LA(A:fc lt cmp J n){p:Array Nat}(P:Pm p n):∀f m Q s,1<=m->m+f<=n->Up lt p m->J s ->
  (∀k s',J s'->m<=k->k<=m+f->Up lt p k->(k<m+f->lt (g p k) (g p<|k-1)=true)->Q k s')->(kas_asc p f m).kasWp cmp Q s
 |0,m,Q,s,l,r,i,j,k=>k m s j (Am _) (Am _) i λh=>(by omega)
 |f+1,m,Q,s,l,r,i,j,k=>by
  have o:g p m≠g p (m-1):=λh=>by have:=P.inj m (m-1) (by omega) (by omega) h;omega
  refine A.ask _ _ _ _ (P.lt m<|(by omega)) (P.lt (m-1)<|(by omega)) o j λs' q=>?_;cases e:lt (p.getD m 0) (p.getD (m-1) 0) with
  |true=>exact k m s' q (Am _) (by omega) i λ_=>e
  |false=>
   have t:=d0 A l i (Ly A (P.lt m<|(by omega)) (P.lt (m-1)<|(by omega)) o e);exact LA A P f (m+1) Q s' (by omega) (by omega) t q λu v w a b c d=>k u v w (by omega) (by omega) c λh=>d<|(by omega)
theorem Va(A:fc lt cmp J n){p:Array Nat}(P:Pm p n):∀f m Q s,1<=m->m+f<=n->Dn lt p m->J s ->
  (∀k s',J s'->m<=k->k<=m+f->Dn lt p k->Q (p,k,0) s')->(kas_desc f p m 0).kasWp cmp Q s
 |0,m,Q,s,l,q,hd,d,k=>k m s d (Am _) (Am _) hd
 |f+1,m,Q,s,l,q,hd,d,k=>by
  have i:g p m≠g p (m-1):=λh=>by have:=P.inj m (m-1) (by omega) (by omega) h;omega
  refine A.ask _ _ _ _ (P.lt m<|(by omega)) (P.lt (m-1)<|(by omega)) i d λs' o=>?_;cases e:lt (p.getD m 0) (p.getD (m-1) 0) with
  |true=>
   show(if true=true then(if 0>0 then _ else kas_desc f p (m+1) 0)else _:KasT _).kasWp cmp Q s';rw[BP rfl,BK<|(by omega)];exact Va A P f (m+1) Q s' (by omega) (by omega) (OF A l hd e) o λr j t a b c=>k r j t (by omega) (by omega) c
  |false=>
   refine A.ask _ _ _ _ (P.lt (m-1)<|(by omega)) (P.lt m<|(by omega)) (CG i) o λj u=>?_;have v:lt (p.getD (m-1) 0) (p.getD m 0)=true:=Ly A (P.lt m<|(by omega)) (P.lt (m-1)<|(by omega)) i e;rw[v];exact k m j u (Am _) (by omega) hd
theorem xo{k:Nat}(h:m<=p.size):g (kas_rev p 0 m) k=if k<m then g p (m-1-k)else g p k:=by
 have e:=getElem?_mirror_all (i:=0) h k
 by_cases c:k<m
 ·rw[BP c];rw[BP ⟨Bu _,c⟩]at e;refine lh<|e.trans ?_
  congr 1
  omega
 ·rw[BK c];rw[BK λq=>c q.2]at e;exact lh e
theorem Vb(P:Pm p n)(h:m<=n):Pm (kas_rev p 0 m) n:=by
 have b:m<=p.size:=by rwa[P.size]
 refine⟨by rw[kas_rev_size];exact P.size,λi a=>?_,λi j a e q=>?_⟩
 ·rw[xo b]
  split
  ·exact P.lt _<|(by omega)
  ·exact P.lt _ a
 ·rw[xo b,xo b]at q
  by_cases c:i<m<;>by_cases d:j<m
  ·rw[BP c,BP d]at q;have:=P.inj _ _ (by omega) (by omega) q;omega
  ·rw[BP c,BK d]at q;have:=P.inj _ _ (by omega) e q;omega
  ·rw[BK c,BP d]at q;have:=P.inj _ _ a (by omega) q;omega
  ·rw[BK c,BK d]at q;exact P.inj _ _ a e q
theorem S6(P:Pm p n)(h:m<=n)(hd:Dn lt p m):Up lt (kas_rev p 0 m) m:=λi j c b=>by
 have a:m<=p.size:=by rwa[P.size]
 rw[xo a,xo a,BP (by omega),BP b];exact hd (m-1-j) (m-1-i) (by omega)<|(by omega)
theorem Su(A:fc lt cmp J n)(P:Pm p n)(e:1<=m)(d:m<=n)(hd:Dn lt p m)(f:J s)
  (k:∀r q s',J s'->1<=r->r<=n->Pm q n->Up lt q r->Q (r,q) s'):(kas_tail3 m n p).kasWp cmp Q s:=by
 unfold kas_tail3;rw[KY];exact LA A (Vb P d) (n-m) m _ s e (by omega) (S6 P d hd) f λr s' j a b c _=>k r _ s' j (by omega) (by omega) (Vb P d) c
theorem oS(A:fc lt cmp J n)(P:Pm p n)(x:2<=n)(u:J s)
  (k:∀r q s',J s'->1<=r->r<=n->Pm q n->Up lt q r->Q (r,q) s'):(kas_count n p).kasWp cmp Q s:=by
 unfold kas_count;rw[KY];refine LA A P (n-1) 1 _ s (Am _) (by omega) (Rg p) u λm s' a t y b v=>?_
 by_cases c:m=n
 ·subst c;rw[BP<|by simp];exact k m p s' a t (Am _) P b
 ·rw[BK<|by simpa using c]
  by_cases d:m>1
  ·rw[BP d];have w:g p 0≠g p (m-1):=λh=>by have:=P.inj 0 (m-1) (by omega) (by omega) h;omega
   refine A.ask _ _ _ _ (P.lt 0<|(by omega)) (P.lt (m-1)<|(by omega)) w a λf l=>?_;have e:lt (p.getD 0 0) (p.getD (m-1) 0)=true:=b 0 (m-1) (by omega) (by omega);rw[e];exact k m p f l t (by omega) P b
  ·rw[BK d];have em:m=1:=(by omega)
   subst em;unfold kas_descPart;rw[KY];have z:=v (by omega);have o:Dn lt p 2:=λi j B C=>by
    have:i=0/\j=1:=(by omega)
    rwa[this.1,this.2]
   refine Va A P (n-(1+1)) (1+1) _ s' (by omega) (by omega) o a λr f l D E hd=>?_;show(if(0:Nat)>0 then _ else kas_tail3 r n p:KasT _).kasWp cmp Q f;rw[BK<|(by omega)];exact Su A P (by omega) (by omega) hd l k
theorem LD(A:fc lt cmp J n){p:Array Nat}(P:Pm p n){k:Nat}(a:k<n)(b:Up lt p k):∀f l r Q s,r<=k->l<=r->r-l<=f->J s->(∀i,i<l->lt (g p i) (g p k)=true)->(∀i,r<=i->i<k->lt (g p k) (g p i)=true) ->
  (∀m s',J s'->m<=k->(∀i,i<m->lt (g p i) (g p k)=true)->(∀i,m<=i->i<k->lt (g p k) (g p i)=true)->Q m s')->(kas_place p k f l r).kasWp cmp Q s
 |0,l,r,Q,s,w,z,B,j,o,t,q=>q l s j (by omega) o λi u=>t i<|(by omega)
 |f+1,l,r,Q,s,w,z,B,j,o,t,q=>by
  unfold kas_place
  by_cases c:l>=r
  ·rw[BP c];exact q l s j (by omega) o λi u=>t i<|(by omega)
  ·rw[BK c];have v:(l+r)/2<k:=(by omega)
   have x:g p k≠g p ((l+r)/2):=λh=>by have:=P.inj k _ a (by omega) h;omega
   refine A.ask _ _ _ _ (P.lt k a) (P.lt _<|(by omega)) x j λs' y=>?_;cases e:lt (p.getD k 0) (p.getD ((l+r)/2) 0) with
   |true=>
    show(kas_place p k f l<|(l+r)/2).kasWp cmp Q s';refine LD A P a b f l ((l+r)/2) Q s' (by omega) (by omega) (by omega) y o (λi u C=>?_) q
    by_cases d:i=(l+r)/2
    ·rwa[d]
    ·exact A.B7 _ _ _ e<|b _ _ (by omega) C
   |false=>
    show(kas_place p k f ((l+r)/2+1) r).kasWp cmp Q s';have D:=Ly A (P.lt k a) (P.lt _<|(by omega)) x e;refine LD A P a b f ((l+r)/2+1) r Q s' w (by omega) (by omega) y (λi u=>?_) t q
    by_cases d:i=(l+r)/2
    ·rwa[d]
    ·exact A.B7 _ _ _ (b _ _ (by omega) v) D
theorem xr{k:Nat}(a:k<p.size)(b:m<=k):g (bubble p k<|k-m) i=if i=m then g p k else if m<i/\i<=k then g p (i-1)else g p i:=by
 have e:=getElem?_bubble a (k-m) (by omega) i;rw[show k-(k-m)=m by omega]at e
 by_cases c:i=m
 ·rw[BP c];rw[BP c]at e;exact lh e
 ·rw[BK c];rw[BK c]at e
  by_cases d:m<i/\i<=k
  ·rw[BP d];rw[BP d]at e;exact lh e
  ·rw[BK d];rw[BK d]at e;exact lh e
theorem hH{k:Nat}(P:Pm p n)(A:k<n)(u:m<=k):Pm (bubble p k<|k-m) n:=by
 have v:k<p.size:=by rwa[P.size]
 refine⟨by rw[bubble_size];exact P.size,λi w=>?_,λi j w B q=>?_⟩
 ·rw[xr v u]
  split
  ·exact P.lt k A
  ·split
   ·exact P.lt _<|(by omega)
   ·exact P.lt _ w
 ·rw[xr v u,xr v u]at q;have s:∀a,a<n->∃b,b<n/\(if a=m then g p k else if m<a/\a<=k then g p (a-1)else g p a)=g p b/\((a=m/\b=k)\/(a≠m/\(m<a/\a<=k)/\b=a-1)\/(a≠m/\¬(m<a/\a<=k)/\b=a)):=λa C=>by
   by_cases c:a=m
   ·exact⟨k,A,by rw[BP c],.inl ⟨c,rfl⟩⟩
   ·by_cases d:m<a/\a<=k
    ·exact⟨a-1,(by omega),by rw[BK c,BP d],.inr<|.inl ⟨c,d,rfl⟩⟩
    ·exact⟨a,C,by rw[BK c,BK d],.inr<|.inr ⟨c,d,rfl⟩⟩
  obtain⟨x,D,E,G⟩:=s i w;obtain⟨y,H,I,z⟩:=s j B;rw[E,I]at q;have e:=P.inj x y D H q;subst e
  obtain⟨t,l⟩|⟨t,l,r⟩|⟨t,l,r⟩:=G
  ·obtain⟨o,f⟩|⟨o,f,h⟩|⟨o,f,h⟩:=z
   ·exact t.trans o.symm
   ·exact absurd (l.symm.trans h)<|Cw<|Bf (Nat.sub_lt (Gi f.1) Fr) f.2
   ·exact absurd ⟨Ga (by rwa[<-h,l])<|CG o,by rw[<-h,l];exact Am _⟩ f
  ·obtain⟨o,f⟩|⟨o,f,h⟩|⟨o,f,h⟩:=z
   ·exact absurd (f.symm.trans r)<|Cw<|Bf (Nat.sub_lt (Gi l.1) Fr) l.2
   ·exact Nat.sub_one_cancel (Gi l.1) (Gi f.1)<|r.symm.trans h
   ·exact absurd ⟨Ga (by rw[<-h,r];exact Nat.le_sub_one_of_lt l.1)<|CG o,by rw[<-h,r];exact By (Nat.sub_le _ _) l.2⟩ f
  ·obtain⟨o,f⟩|⟨o,f,h⟩|⟨o,f,h⟩:=z
   ·exact absurd ⟨Ga (by rwa[<-r,f])<|CG t,by rw[<-r,f];exact Am _⟩ l
   ·exact absurd ⟨Ga (by rw[<-r,h];exact Nat.le_sub_one_of_lt f.1)<|CG t,by rw[<-r,h];exact By (Nat.sub_le _ _) f.2⟩ l
   ·exact r.symm.trans h
theorem Lo{k:Nat}(P:Pm p n)(r:k<n)(b:m<=k)(a:Up lt p k)(l:∀i,i<m->lt (g p i) (g p k)=true)(o:∀i,m<=i->i<k->lt (g p k) (g p i)=true):Up lt (bubble p k<|k-m) (k+1):=λi j q s=>by
 have h:k<p.size:=by rwa[P.size]
 rw[xr h b,xr h b]
 by_cases c:i=m
 ·rw[BP c,BK (by omega),BP<|(by omega)];exact o _ (by omega)<|(by omega)
 ·rw[BK c]
  by_cases d:j=m
  ·rw[BP d,BK<|(by omega)];exact l i<|(by omega)
  ·rw[BK d]
   by_cases e:m<i/\i<=k
   ·rw[BP e,BP<|(by omega)];exact a _ _ (by omega)<|(by omega)
   ·rw[BK e]
    by_cases f:m<j/\j<=k
    ·rw[BP f];exact a _ _ (by omega)<|(by omega)
    ·rw[BK f];exact a _ _ q<|(by omega)
theorem Vd(A:fc lt cmp J n):∀f p k Q s,Pm p n->1<=k->k+f=n->Up lt p k->J s->(∀q s',J s'->Pm q n->Up lt q n->Q q s')->(kas_bin f p k).kasWp cmp Q s
 |0,p,k,Q,s,P,d,e,a,b,q=>by
  have:k=n:=(by omega)
  subst this;exact q p s b P a
 |f+1,p,k,Q,s,P,d,e,a,b,q=>by
  unfold kas_bin;rw[KY];refine LD A P (by omega) a k 0 k _ s (Am _) (Bu _) (by omega) b (λi h=>(by omega)) (λi h r=>(by omega)) λm s' j c l o=>?_;exact Vd A f _ (k+1) Q s' (hH P (by omega) c) (by omega) (by omega) (Lo P (by omega) c a l o) j q
theorem eH(A:fc lt cmp J n){Q:Array Nat->Shared->Prop}(d:2<=n)(e:J s)(q:∀p s',J s'->Pm p n->Up lt p n->Q p s'):(kas_sort n).kasWp cmp Q s:=by
 unfold kas_sort;rw[KY];refine oS A (U' n) d e λr p s' a f h P b=>?_;show(if r<n then kas_bin (n-max r 1) p (max r 1)else .ret p:KasT _).kasWp cmp Q s';have em:max r 1=r:=(by omega)
 rw[em]
 by_cases c:r<n
 ·rw[BP c];exact Vd A (n-r) p r Q s' P f (by omega) b a q
 ·rw[BK c];have:r=n:=(by omega)
  subst this;exact q p s' a P b
end
theorem Ve(P:Pm p n):p.toList.Nodup:=by
 rw[Ay,Cc];intro i j a b k e;have c:i<n:=by rwa[Bv,P.size]at a
 have d:j<n:=by rwa[Bv,P.size]at b
 have f:=jA (by rw[<-Bw];exact Ab a);have h:=jA (by rw[<-Bw];exact Ab b);have:=P.inj i j c d (by rw[f,h,e]);omega
def LI{v:Nat}(P:Pm p n)(h:v∈p.toList):v<n:=by
 obtain⟨i,a⟩:=Bj h;have b:i<n:=by have:=(Ac.mp a).1;rwa[Bv,P.size]at this
 have c:=jA (by rwa[<-Bw]);rw[<-c];exact P.lt i b
theorem kU(P:Pm p n):p.toList.Perm (range n):=by
 rw[Dm (Ve P) RZ];intro v;rw[Bc];refine⟨λh=>LI P h,λh=>GK λb=>?_⟩;have c:=Nt.aI (Ve P) λz a=>by
  have d:z≠v:=λe=>b<|e ▸ a;exact(Fq d).mpr<|Bc.mpr<|LI P a
 rw[Fw<|Bc.mpr h,Bv,P.size,Cy]at c;omega
def Hd(h:Heap)(v:Value)(z:Str):Prop:=∃a o b n t,v=.ref a/\h.get? a=some o/\o.cls=.type "tuple"/\o.data=.seq b n/\b[0]?=some (.str z t)
def Hd.keep{h h':Heap}{v:Value}{z:Str}(x:Hd h v z)(k:∀a o,v=.ref a->h.get? a=some o->h'.get? a=some o):Hd h' v z:=by
 obtain⟨a,o,b,n,t,e,c,d⟩:=x;exact⟨a,o,b,n,t,e,k a o e c,d⟩
def rJ(h:Heap)(vs:Ó)(zs:Ñ):Prop:=vs.length=zs.length/\∀(i:Nat)v z,vs[i]?=some v->zs[i]?=some z->Hd h v z
def wT(zs:Ñ)(i j:Nat):Bool:=decide ((zs.getD i ⟨#[]⟩).cps.toList<(zs.getD j ⟨#[]⟩).cps.toList)
variable{E:Î}{U:Program}{zs:Ñ}{vs:Ó}{P:Fin->Shared->Prop}
section
variable{w:World}{A:Around}
theorem Vf:∀{h}{vs}{zs},rJ h vs zs->∃c,KatTups h vs c/\c.length=vs.length/\∀f∈c,∃z t,f=Value.str z t
 |h,[],_,_=>⟨[],KatTups.nil,rfl,λf d=>by cases d⟩
 |h,v :: vs,[],e=>by have:=e.1;simp at this
 |h,v :: vs,z :: zs,e=>by
  obtain⟨c,l,m,p⟩:=Vf ⟨by have:=e.1;simpa using this,λi a b j k=>e.2 (i+1) a b (by simpa using j)<|by simpa using k⟩;obtain⟨a,o,s,n,t,rfl,j,k,q,r⟩:=e.2 0 v z rfl rfl;refine⟨.str z t :: c,KatTups.cons j k q r l,by rw[As,As,m],λf d=>?_⟩
  obtain rfl|d:=Al.mp d
  ·exact⟨z,t,rfl⟩
  ·exact p f d
def pu{x y:Value}{z u:Str}{Q:Bool->Shared->Prop}(l:Hd s.heap x z)(m:Hd s.heap y u)(p:z≠u)(h:Q (decide (z.cps.toList<u.cps.toList)) s):bc U w A (keyLt' (tuples' true) x y) Q E s:=by
 obtain⟨a,o,d,n,t,rfl,q,D,v,G⟩:=l;obtain⟨b,H,f,I,i,rfl,g1,g2,g3,J⟩:=m;refine kat_lt q v g1 g3 ?_;have j:∃r,d.toList=.str z t :: r:=by
  have:d.toList[0]?=some (.str z t):=by rwa[Bw]
  cases e:d.toList with
  |nil=>rw[e]at this;cases this
  |cons c r=>rw[e]at this;cases this;exact⟨r,rfl⟩
 have k:∃r,f.toList=.str u i :: r:=by
  have:f.toList[0]?=some (.str u i):=by rwa[Bw]
  cases e:f.toList with
  |nil=>rw[e]at this;cases this
  |cons c r=>rw[e]at this;cases this;exact⟨r,rfl⟩
 obtain⟨B,j⟩:=j;obtain⟨C,k⟩:=k;rw[j,k];show KatLex U w A true _ Q ((.str z t,.str u i):: B.zip C) 0 s;refine kat_cons<|eqBool_str ?_;have:(z == u)=false:=beq_eq_false_iff_ne.mpr p;rw[this];exact kat_no<|oneLt_str h
def pz{a b:Str}(h:a.cps.toList=b.cps.toList):a=b:=by
 apply Str.ext';exact Array.toList_inj.mp h
theorem S7(m:rJ s.heap vs zs)(n:zs.Nodup):fc (wT zs) (kas_ask U w A (tuples' true) vs) (λs'=>s'=s) vs.length:=by
 have v:=m.1;have l:∀i,(a:i<zs.length)->zs.getD i ⟨#[]⟩=zs[i]:=λi a=>by simp[a]
 have o:∀i,(a:i<vs.length)->vs.getD i Value.none=vs[i]:=λi a=>by simp[a]
 have ne:∀i j,(a:i<zs.length)->(b:j<zs.length)->i≠j->zs[i]≠zs[j]:=λi j a b f e=>by
  obtain c|c:=Nat.lt_or_gt_of_ne f
  ·exact Cc.mp (Ay.mp n) i j a b c e
  ·exact Cc.mp (Ay.mp n) j i b a c e.symm
 refine⟨λi j C s' a b f t u=>?_,λi j a b f=>?_,λi j h=>?_,λi j k p r=>?_⟩
 ·subst t;unfold kas_ask;rw[o i a,o j b];have e:wT zs i j=decide (zs[i].cps.toList<zs[j].cps.toList):=by unfold wT;rw[l i (by omega),l j<|(by omega)]
  refine pu (m.2 i _ zs[i] (Ab a)<|Ab<|(by omega)) (m.2 j _ zs[j] (Ab b)<|Ab<|(by omega)) (ne i j (by omega) (by omega) f) ?_;rw[<-e];exact u s' rfl
 ·unfold wT;rw[l i (by omega),l j (by omega),CK,CK]
  by_cases c:zs[i].cps.toList<zs[j].cps.toList
  ·exact .inl c
  ·by_cases d:zs[j].cps.toList<zs[i].cps.toList
   ·exact .inr d
   ·have:zs[i].cps.toList=zs[j].cps.toList:=List.le_antisymm (List.not_lt.mp d)<|List.not_lt.mp c;exact absurd (pz this)<|ne i j (by omega) (by omega) f
 ·unfold wT at h ⊢;have:=BX h;exact BR λq=>Gg _<|Gm this q
 ·unfold wT at p r ⊢;exact BW<|Gm (BX p)<|BX r
def map_range(vs:Ó):(range vs.length).map (λi=>vs.getD i Value.none)=vs:=by
 apply SJ
 ·simp
 ·intro i b a;simp[a]
theorem ly{a:Addr}(r:s.heap.get? a=some (seqObj "list" vs.toArray n))(M:∀v∈vs,v ≠ .ref a)(C:rJ s.heap vs zs)(N:zs.Nodup)(O:vs.length<64)
  (h:∀p:Array Nat,Pm p vs.length->Up (wT zs) p vs.length->P (.done<|.ret .none) {s with heap:=sortedHeap s.heap a vs (List.toArray<|p.toList.map λi=>vs.getD i Value.none)}):
  bc U w A (Builtin.«list.sort» ⟨[.ref a],[]⟩) P E s:=by
 rw[list_sort_plain];have Y:vs.length<=sizeLine:=by rw[FJ];omega
 refine BJ<|QF r rfl<|BJ<|OD r rfl ?_;obtain⟨u,D⟩:∃ u,(s.heap.update a<|Obj.mapSeq λ_=>#[]).get? a=some (seqObj "list" #[] u):=⟨_,get?_update_seq r λ_=>#[]⟩;refine BJ<|QV D rfl<|BJ<|QS ?_;refine BJ<|KJ<|CJ ?_;have l:(((s.heap.update a<|Obj.mapSeq λ_=>#[]).push<|seqObj "tuple" vs.toArray 0).push<|seqObj "list" #[] 0).get? a=some (seqObj "list" #[] u):=Ae _<|Ae _ D;show bc U w A _ P E {s with heap:=((s.heap.update a<|Obj.mapSeq λ_=>#[]).push<|seqObj "tuple" vs.toArray 0).push (seqObj "list" #[] 0)};have H:rJ (((s.heap.update a<|Obj.mapSeq λ_=>#[]).push<|seqObj "tuple" vs.toArray 0).push<|seqObj "list" #[] 0) vs zs:=⟨C.1,λi v z I c=>(C.2 i v z I c).keep λb o e q=>by
  have hb:a≠b:=λe2=>M v (At I) (by rw[e,e2]);exact Ae _<|Ae _<|(Cb _ _ hb).trans q⟩
 dsimp only
 have d:vs.toArray.size=vs.length:=by simp
 by_cases c:vs.toArray.size<2
 ·rw[BP c,BP c];refine BJ<|BL ?_;rw[StateT.run_pure];refine BJ<|BL ?_
  dsimp only
  have J:(arrOf<|SortSt.mk' general' (vs.toArray.zip vs.toArray) #[] 7 none).map (·.2)=vs.toArray:=by
   show(vs.toArray.zip vs.toArray).map (·.2)=_;apply Array.toList_inj.mp;simp[List.map_snd_zip]
  refine BJ<|QV l rfl ?_;refine BJ (OD l rfl ?_ (hsz2:=by rw[J,d];omega));simp only[FZ,Bb,CV];refine BL ?_;rw[J];have fin:=h (List.toArray<|range vs.length) (U' _) λi j hi hj=>by rw[d]at c;omega
  have e6:(List.toArray<|range vs.length).toList.map (λi=>vs.getD i Value.none)=vs:=map_range vs;rwa[e6]at fin
 ·rw[BK c,BK c];obtain⟨fs,k1,k2,k3⟩:=Vf H;rw[d]at c;refine BJ<|kat_kind (T:= .type "str") k1 (by omega) (λf x=>?_) (by decide) ?_
  ·obtain⟨z,t,rfl⟩:=k3 f x;exact Looks.of_pure rfl
  refine BJ<|CT (kat_run (prog:=U) (w:=w) (A:=A) (E:=E) (κ:=tuples' true) (ks:=vs) (vs:=vs) (Q:=λm k=>k={s with heap:=((s.heap.update a<|Obj.mapSeq λ_=>#[]).push<|seqObj "tuple" vs.toArray 0).push (seqObj "list" #[] 0)}/\∃p:Array Nat,Pm p vs.length/\Up (wT zs) p vs.length/\arrOf m=p.map (kas_item<|vs.toArray.zip vs.toArray)/\failedOf m=none)
   (G:=λp k=>k={s with heap:=((s.heap.update a<|Obj.mapSeq λ_=>#[]).push<|seqObj "tuple" vs.toArray 0).push (seqObj "list" #[] 0)}/\Pm p vs.length/\Up (wT zs) p vs.length) rfl (by omega) O (λp m k _ a2 a3 y=>⟨y.1,p,y.2.1,y.2.2,a2,a3⟩)
   (eH (S7 (s:={s with heap:=((s.heap.update a<|Obj.mapSeq λ_=>#[]).push<|seqObj "tuple" vs.toArray 0).push (seqObj "list" #[] 0)}) H N) (by omega) rfl λp k e P B=>⟨e,P,B⟩)) ?_ λ_ _ e=>e
  rintro ⟨⟨⟩,m⟩ k ⟨rfl,p,P,B,zA,x⟩
  dsimp only
  have L:=kat_snds (ks:=vs) (vs:=vs) rfl zA;refine BJ<|QV l rfl ?_;refine BJ (OD l rfl ?_ (hsz2:=by rw[L,Aw,Aa,Bv,P.size];omega));rw[x];simp only[FZ,Bb,CV];refine BL ?_;rw[L];exact h p P B
theorem q8{l:Addr}{Q:Î}(k:s.heap.IsList l vs.toArray)(c:rJ s.heap vs zs)(x:zs.Nodup)(y:vs.length<64)
  (h:∀h' e p,Pm p vs.length->Up (wT zs) p vs.length->(∀ b u,s.heap.get? b=some u->h'.get? b=some u)->h'.get? (s.heap.objs.size+1)=some (seqObj "list" (List.toArray<|p.toList.map λi=>vs.getD i Value.none) e)->Q (.ref<|s.heap.objs.size+1) {s with heap:=h'}):
  bc U w A (call (.builtin "sorted") [.ref l]) Q E s:=by
 have B:vs.length<=sizeLine:=by rw[FJ];omega
 refine Calls.call_function_entry kind_sorted plain_sorted entry_sorted (args_sorted1 _) ?_;unfold Builtin.«sorted»;refine BJ<|BL ?_;refine BJ<|collect_list k ?_;refine BJ<|KJ ?_;have a:((s.heap.push<|seqObj "list" #[] 0).update s.heap.objs.size (Obj.mapSeq (·++vs.toArray))).objs.size=s.heap.objs.size+1:=by
  rw[Heap.size_update,size_push']
 have m:(((s.heap.push<|seqObj "list" #[] 0).update s.heap.objs.size (Obj.mapSeq (·++vs.toArray))).push<|seqObj "list" vs.toArray 0).get? (s.heap.objs.size+1)=some (seqObj "list" vs.toArray 0):=by
  rw[<-a];exact Ao _ rfl
 have d:rJ (((s.heap.push<|seqObj "list" #[] 0).update s.heap.objs.size (Obj.mapSeq (·++vs.toArray))).push<|seqObj "list" vs.toArray 0) vs zs:=⟨c.1,λi v z f C=>(c.2 i v z f C).keep λb o e q=>
  Ae _ ((Cb _ _<|Cw<|Ap q).trans<|Ae _ q)⟩
 have D:∀v∈vs,v ≠ .ref (s.heap.objs.size+1):=λv G e=>by
  obtain⟨i,r⟩:=Bj G;have k:=c.1;have j:i<zs.length:=by have:=(Ac.mp r).1;omega
  obtain⟨b,o,M,n,t,H,f,_⟩:=c.2 i v zs[i] r<|Ab j;rw[H]at e;cases e;exact absurd (Nat.lt_of_succ_lt<|Ap f)<|Cq _
 show wpAny _ _ _ _ _ {s with heap:=((s.heap.push<|seqObj "list" #[] 0).update s.heap.objs.size (Obj.mapSeq (·++vs.toArray))).push (seqObj "list" vs.toArray 0)};rw[a];refine BJ<|CJ<|DQ slot_list_sort ⟨_,m,rfl⟩ entry_list_sort (ly m D d x y λp P I=>⟨_,rfl,?_⟩)<|args_list_sort _;obtain⟨e,J⟩:=sortedAll_at s.heap vs<|List.toArray<|p.toList.map λi=>vs.getD i Value.none;exact BL ⟨_,rfl,h _ e p P I (λb u L=>RK L) J⟩
end
end pI
namespace L2
open PySem PySem.Spec PyProof.Rows pI
theorem Vh:∀{b:List Addr}{a:Ó},az (b.map V.ref) a->a=b.map Value.ref
 |[],a,r=>r.zero
 |t :: b,a,r=>by
  cases r with
  |cons c d=>
   rw[Vh d];have:_=Value.ref t:=c;rw[this];rfl
theorem Vi:∀(a:List Addr),az (a.map V.ref)<|a.map Value.ref
 |[]=> .nil
 |t :: a=> .cons rfl (Vi a)
theorem O5{α c:Type}(xs:List α)(ys:List c)(h:xs.length=ys.length)(a:α)(b:c):(range xs.length).map (λi=>(xs.getD i a,ys.getD i b))=xs.zip ys:=by
 apply SJ
 ·simp[h]
 ·intro i d j;have e:i<xs.length:=by simp at d;exact d
  have f:i<ys.length:=(by omega)
  simp[e,f]
variable{R:St->Hp->Prop}
section
variable{X:Cx}{σ:St}{H:Hp}
theorem WS:fE X (.builtin "sorted") (λxs H Q=>∃(l:Addr) (c:List Addr) (zs:Ñ),xs=[.ref l]/\aj X.K H l (c.map V.ref)/\c.length=zs.length/\zs.Nodup/\c.length<64/\(∀(i:Nat) t z,c[i]?=some t->zs[i]?=some z->∃r,H t=some (.tup<|.str z :: r)) /\
  ∀(r:Addr)(ps:List<|Addr×Str),H r=none->ps.Perm (c.zip zs)->ps.Pairwise (λa b=>a.2.cps.toList<b.2.cps.toList)->Q (.ref r) (upd H r<|.lst<|ps.map λp=> .ref p.1)):=by
 intro O s σ H xs us Q I r h;obtain⟨l,c,zs,rfl,C,d,D,vL,hd,q⟩:=h;obtain⟨u,rfl,E⟩:=kw r;cases (show u=Value.ref l from E);obtain⟨G,J,L,_⟩:=I.list C;have M:=Vh J;subst M;have N:rJ s.heap (c.map Value.ref) zs:=by
  refine⟨by rwa[Aa],λi v z w T=>?_⟩;rw[Ah,Ar]at w;obtain⟨t,U,rfl⟩:=w;obtain⟨rr,Y⟩:=hd i t z U T;obtain⟨G,r3,tp,_⟩:=I.tuple<|aS.of Y;cases r3 with
  |cons a1 a2=>
   obtain⟨tk,rfl⟩:=a1;obtain⟨o,ho,hc,n,k⟩:=tp;exact⟨t,o,_,n,tk,rfl,ho,hc,k,rfl⟩
 refine q8 L.isList N D (by rwa[Aa]) λy e p P A kp he=>?_;rw[Aa]at P A;have gp:∀i,i<c.length->g p i<c.length:=P.lt;have m:p.toList.length=c.length:=by rw[Bv];exact P.size
 have e1:(p.toList.map λi=>(c.map Value.ref).getD i Value.none)=((p.toList.map λi=>(c.getD i 0,zs.getD i ⟨#[]⟩)).map λx=>x.1).map Value.ref:=by
  rw[Cg,Cg];refine Bo λi f=>?_;have aV:=LI P f;show(c.map Value.ref).getD i Value.none=Value.ref (c.getD i 0);simp[aV]
 refine⟨.ref _,_,I.eR (s':={s with heap:=y}) kp rfl rfl (Ef _) (show aB X.U X.w _ y _ (.lst<|(p.toList.map λi=>(c.getD i 0,zs.getD i ⟨#[]⟩)).map λx=>V.ref x.1)from ?_),rfl,q _ (p.toList.map λi=>(c.getD i 0,zs.getD i ⟨#[]⟩)) (I.aF.fresh<|Ef _) ?_ ?_⟩
 ·refine⟨by rw[Aa,Aa,m,FJ];omega,_,e,?_,he⟩;rw[e1];have:=Vi<|(p.toList.map λi=>(c.getD i 0,zs.getD i (⟨#[]⟩:Str))).map λx=>x.1;rwa[Cg]at this
 ·rw[<-O5 c zs d 0 ⟨#[]⟩];exact(kU P).map _
 ·rw[Cc];intro i j f B dQ;rw[Aa]at f B;have:=A i j dQ (by omega);have q1:g p i=p.toList[i]:=jA (by rw[<-Bw];exact Ab f);have q2:g p j=p.toList[j]:=jA (by rw[<-Bw];exact Ab B);rw[q1,q2]at this;rw[Dy,Dy];exact BX this
def LJ{e1 e2 a:Expr}{k:Nat}{pos:Pos}{t:Addr}{x y z:V}(f:X.calm=true)(i:aS X.K H t [x,y,z])(h:Eg X e1 x σ H λb d=>Eg X e2 y b d λc e=>Eg X a z c e R)
  (j:(assignEach [e1,e2,a] X.env).length=3:=by rfl) (l:(assignEach [e1,e2,a] X.env).findIdx? (·.1)=none:=by rfl)
  (m:(assignEach [e1,e2,a] X.env).map (·.2)=assign e1 X.env :: (assignEach [e2,a] X.env).map (·.2):=by rfl) (n:(assignEach [e2,a] X.env).map (·.2)=assign e2 X.env :: (assignEach [a] X.env).map (·.2):=by rfl) (o:(assignEach [a] X.env).map (·.2)=assign a X.env :: (assignEach [] X.env).map (·.2):=by rfl):
  Eg X (.Tuple [e1,e2,a] k pos) (.ref t) σ H R:=
 F4 (Ph f (uI qg (uI qg (uI qg Pg o) n) m) j l)
  ⟨t,_,rfl,i,rfl,_,_,rfl,h.mono λb d p=>⟨_,_,rfl,p.mono λc e r=>⟨_,_,rfl,r.mono λs u q=>⟨rfl,q⟩⟩⟩⟩
end
end L2
namespace Q1
open PySem L2 Nt bD
abbrev T3(x:Lk):HO:= .tup [.str x.1,.str x.2.1,.str x.2.2]
def nO(H:Hp)(a:List Addr)(b:List Lk):Prop:=a.length=b.length/\∀(j:Nat)u x,a[j]?=some u->b[j]?=some x->H u=some (T3 x)
variable{ls:List Lk}{us:List Addr}
def nO.keep{H H':Hp}(h:nO H us ls)(k:∀t xs,H t=some (.tup xs)->H' t=some (.tup xs)):nO H' us ls:=⟨h.1,λj u x a b=>k _ _<|h.2 j u x a b⟩
theorem nO.snoc{H:Hp}{u:Addr}{x:Lk}(h:nO H us ls)(d:H u=some (T3 x)):nO H (us++[u]) (ls++[x]):=by
 refine⟨by rw[Ad,Ad,h.1];rfl,λj v y a b=>?_⟩;have e:=h.1
 by_cases f:j<us.length
 ·rw[Aq f]at a;rw[Aq<|(by omega)]at b;exact h.2 j v y a b
 ·rw[Ba<|(by omega)]at a b;have c:j-us.length=0:=by
   have:=(Ac.mp a).1;simp at this;omega
  rw[c]at a;rw[<-e,c]at b;cases a;cases b;exact d
def B8(ls:List Lk):Prop:=ls.Pairwise λx y=>x.1.cps.toList<y.1.cps.toList
def B9:Sp:=λb H Q _=>∃R as n,b=[.ref R]/\al H R as n/\aw n/\n.length<=1000/\(ag n).length<=60 /\
 ∀L us ls a,ah H a->H L=none->a L=some (.lst<|us.map V.ref)->nO a us ls->B8 ls->(∀x,x∈ls↔ph n x)->ls.length<=60->Q (.ref L) a
theorem Hy{n:fo}(T:aw n){r p:Nat}{z:Str}(c:r<n.length)(b:(row n r)[p]?=some z):(b8 (bt (n.take r)++bJ r ((row n r).take p) 0) z).length<=1:=by
 obtain⟨a,h⟩:=wR c b;have d:b8 (bt n) z=b8 (bt (n.take r)++bJ r ((row n r).take p) 0) z++(r,p):: b8 a z:=by
  rw[h];unfold b8;rw[Ct,Aj,TQ<|by simp];rfl
 have f:(b8 (bt n) z).length=2:=by
  have:=qA n z;rwa[T z<|eG (e:=(r,p)) b]at this
 rw[d,Ad,As]at f;omega
variable{Z:Heap}{mg:Ò}{K:aa}{fd:FuncData}
section
variable{P:Program}{w:World}
abbrev LS:Ñ:=["rows","met","links","point","ties","tie"]
def xt:ak LS ["rows"] (aP IA):=bZ
theorem oC{f:Addr}(F:bo K "links_of" "links_of" IA f fd)(T:Txt mg):aD P w K mg Z bz 1 f fd ["rows"] B9:=by
 refine F.gc xt λb0 H vs Q E hr h=>?_;obtain⟨R,as,n,rfl,hR,hT,hn,iN,q⟩:=h;have nd:=xt.nd;have b4:=hR.len;have hu:=hr.u1;refine aT 1 nd<|Im λl m6=>?_;refine aT 2 nd<|dS<|ax ⟨Z0,λM hM=>?_⟩;have mr:M≠l:=λe=>by rw[e,av]at hM;cases hM
 have xu:H M=none:=by rwa[au mr]at hM
 have s0:ah H (upd (upd H l<|.dK []) M<|.lst []):=(aM m6 _).trans<|aM hM _;have xv:(upd (upd H l<|.dK []) M<|.lst []) l=some (.dK []):=by rw[au<|CG mr,av]
 have nP:(upd (upd H l<|.dK []) M<|.lst []) M=some (.lst []):=av;generalize upd (upd H l<|.dK []) M (.lst [])=H0 at s0 xv nP;have LL:(bt n).length=(ag n).length:=by rw[<-lZ n 0,Aa];rfl
 refine lS<|ae 0 ⟨R,rfl,⟨_,aj.of<|s0 _ _ hR.lst⟩,lT (xs:=as.map λa=>V.ref a.1) (λr Y H'=>∃(m:List<|Key×V)(us:List Addr)(ls:List Lk)(u1 u2 u3:Option V),ah H H'/\H' l=some (.dK m)/\H' M=some (.lst<|us.map V.ref)/\nO H' us ls/\jd n (bt<|n.take r) m ls/\Y=[(some (.ref R)),(some (.ref l)),(some (.ref M)),u1,u2,u3])
  ⟨[],[],[],_,_,_,s0,xv,nP,⟨rfl,λj u x h=>by simp at h⟩,jd.start n,rfl⟩ ?_ ?_ ?_⟩
 ·rintro r Y H' _ ⟨_,_,_,_,_,_,o,_⟩;exact aj.of<|o _ _ hR.lst
 ·rintro r x Y H' s ⟨m,us,ls,u1,u2,u3,o,v,N,A,I,rfl⟩;have B:r<n.length:=by
   have:=(Ac.mp s).1;rw[Aa]at this;omega
  obtain⟨a,ea,fA,et,el,er⟩:=(hR.same o).at B;rw[Ah,ea]at s;cases s;refine jT rfl (aS.of et) (a8 3 nd<|a8 4 nd ?_);refine lS<|ae 4 ⟨a.2,rfl,⟨_,aj.of el⟩,lT (xs:=(row n r).map V.str) (λp Y C=>∃(m:List<|Key×V)(us:List Addr)(ls:List Lk)(u3:Option V),ah H C/\C a.2=some (Ls<|row n r)/\C l=some (.dK m)/\C M=some (.lst<|us.map V.ref)/\nO C us ls/\jd n (bt (n.take r)++bJ r ((row n r).take p) 0) m ls/\Y=[(some (.ref R)),(some (.ref l)),(some (.ref M)),some<|.str n[r].1,some<|.ref a.2,u3])
   ⟨m,us,ls,_,o,el,v,N,A,by simpa[bJ]using I,rfl⟩ ?_ ?_ ?_⟩
  ·rintro p Y C _ ⟨_,_,_,_,_,e,_⟩;exact aj.of e
  ·rintro p x Y C s ⟨m,us,ls,u3,o,el,v,N,A,I,rfl⟩;have hp:p<(row n r).length:=by
    have:=(Ac.mp s).1;rwa[Aa]at this
   have O:(row n r)[p]?=some (row n r)[p]:=Ab hp;rw[Ah,O]at s;cases s;have jO:=qC (r:=r) O;have Ø:=Hy hT B O;have cn:(bt (n.take r)++bJ r ((row n r).take p) 0).length<=60:=by
    obtain⟨D,xx⟩:=wR B O;have G:=BZ List.length xx;simp only[Ad]at G ⊢;omega
   have lM:=I.eY;have lL:=I.nj;have lA:=A.1;have Vj:aH n r=n[r].1:=gW B;have Ù:a.2≠M:=λe=>by
    have:=(hR.tup r a n[r] ea<|Ab B).2;rw[e,xu]at this;cases this
   generalize (row n r)[p]=z at O jO Ø;refine a8 5 nd ?_;refine fP<|zH hu<|ae 5<|ae 1 ⟨l,_,rfl,aX.k (k:=Sum.inr z) v,?_⟩;cases jW:b8 (bt (n.take r)++bJ r ((row n r).take p) 0) z with
   |nil=>
    rw[I.m0 z jW];show if false=true then _ else _;rw[BK<|(by decide)];refine tG hu<|ae 3<|ae 1<|ae 5 ⟨l,_,rfl,bX.k (k:=Sum.inr z) v (bI<|(by omega)),a7<|a7 ⟨_,us,ls,_,cX o m6,?_,av,?_,A.keep λt d h=>?_,?_,rfl⟩⟩
    ·rwa[au<|bV el v λz=>nomatch z]
    ·rwa[au mr]
    ·rwa[au<|bV h v λz=>nomatch z]
    ·rw[jO,<-Au];have:=I.new (e:=(r,p)) jW;show jd n _ (putK m (Sum.inr z)<|.str n[r].1) ls;rwa[<-Vj]
   |cons b D=>
    have Ú:D=[]:=by
     rw[jW]at Ø;exact Cd.mp<|by have:D.length+1<=1:=Ø;omega
    subst Ú;have vm:=I.m1 z b [] jW;rw[vm];show if true=true then _ else _;rw[BP rfl];refine gq (jQ<|ae 2 ⟨M,rfl,⟨_,N⟩,fv<|ai<|ae 5<|ai<|eU hu<|ae 1<|ae 5 ⟨l,.str<|aH n b.1,rfl,by rw[<-vm];exact aX.k (k:=Sum.inr z) v,ai<|ae 3<|ax ⟨Z3,λt ht=>?_⟩⟩⟩);have sT:=aM ht<|.tup [.str z,.str<|aH n b.1,.str n[r].1];have Vk:t≠M:=λe=>by rw[e,N]at ht;cases ht
    have K1:(upd C t<|.tup [.str z,.str<|aH n b.1,.str n[r].1]) t=some (T3 (z,aH n b.1,aH n (r,p).1)):=by
     rw[av];show _=some (HO.tup [.str z,.str<|aH n b.1,.str<|aH n r]);rw[Vj]
    have kT:∀c d,(upd C t<|.tup [.str z,.str<|aH n b.1,.str n[r].1]) c=some (.tup d)->(upd (upd C t<|.tup [.str z,.str<|aH n b.1,.str n[r].1]) M<|.lst<|us.map V.ref++[.ref t]) c=some (.tup d):=λc d h=>by
     rwa[au<|bV h (sT _ _ N) λz=>nomatch z]
    refine⟨_,sT _ _ N,by rw[Aa];exact bI (by omega),a7<|a7 ⟨m,us++[t],ls++[(z,aH n b.1,aH n (r,p).1)],_,cX (o.trans sT) xu,?_,?_,?_,?_,?_,rfl⟩⟩
    ·rw[au Ù];exact sT _ _ el
    ·rw[au<|CG mr];exact sT _ _ v
    ·rw[av,Aj];rfl
    ·exact((A.keep λc d h=>sT _ _ h).snoc K1).keep kT
    ·rw[jO,<-Au];exact I.old (e:=(r,p)) jW
  ·rintro Y C ⟨m,us,ls,u3,o,_,v,N,A,I,rfl⟩;rw[Aa,Br]at I;refine a7 ⟨m,us,ls,_,_,_,o,v,N,A,?_,rfl⟩;rwa[tJ B]
 ·rintro Y H' ⟨m,us,ls,u1,u2,u3,o,v,N,A,I,rfl⟩;rw[Aa,b4,Br]at I;have lL:=I.nj;have lA:=A.1;have aV:us.length<64:=(by omega)
  refine bQ (bP WS T.sorted CW (ai (ae 2 (ax ⟨M,us,ls.map (·.1),rfl,aj.of N,by rwa[Aa],I.de,aV,λi t z G U=>?_,λL J hL hp hs=>?_⟩))))
  ·rw[Ah,Ar]at U;obtain⟨x,s,rfl⟩:=U;exact⟨_,A.2 i t x G s⟩
  have Ö:∀p∈J,∃x,x∈ls/\x.1=p.2/\H' p.1=some (T3 x):=λp db=>by
   have O:=hp.mem_iff.mp db;obtain⟨i,B⟩:=Bj O;rw[List.getElem?_zip_eq_some]at B;obtain⟨G,U⟩:=B;rw[Ah,Ar]at U;obtain⟨x,s,e⟩:=U;exact⟨x,At s,e,A.2 i _ x G s⟩
  obtain⟨d,fC⟩:∃d:List Lk,d.length=J.length/\∀(j:Nat)p x,J[j]?=some p->d[j]?=some x->x∈ls/\x.1=p.2/\H' p.1=some (T3 x):=by
   clear hs hp
   induction J with
   |nil=>exact⟨[],rfl,λj p x h=>by simp at h⟩
   |cons p r ih=>
    obtain⟨x,q1,q2,q3⟩:=Ö p<|Ag ..;obtain⟨d,l1,l2⟩:=ih λc hc=>Ö c<|Ak _ hc;refine⟨x :: d,by rw[As,As,l1],λj c y G U=>?_⟩;cases j with
    |zero=>
     cases G;cases U;exact⟨q1,q2,q3⟩
    |succ j=>exact l2 j c y (by simpa using G)<|by simpa using U
  obtain⟨lx,fC⟩:=fC;have lp:J.length=ls.length:=by rw[hp.length_eq,List.length_zip,Aa];omega
  have sL:=aM hL<|.lst<|J.map λp=> .ref p.1;have Vl:B8 d:=by
   unfold B8;rw[Cc];intro i j B hj dQ;have a1:=(fC i J[i] d[i] (Ab<|(by omega))<|Ab B).2.1;have a2:=(fC j J[j] d[j] (Ab<|(by omega))<|Ab hj).2.1;rw[a1,a2];exact Cc.mp hs i j (by omega) (by omega) dQ
  have rK:(d.map (·.1)).Nodup:=by
   rw[Ay,Cs];exact Vl.imp λh e=>by rw[e]at h;exact Gg _ h
  have gg:∀x,x∈d↔x∈ls:=λx=>by
   constructor
   ·intro h;obtain⟨j,hj⟩:=Bj h;have tM:=(Ac.mp hj).1;exact(fC j J[j] x (Ab<|(by omega)) hj).1
   ·intro h;refine GK λhn=>?_;have LN:d.Nodup:=by
     rw[Ay]at rK ⊢;rw[Cs]at rK;exact rK.imp λh e=>h<|by rw[e]
    have:=aI LN (b:=ls.erase x) λz O=>by
     have Û:z∈ls:=by
      obtain⟨j,hj⟩:=Bj O;have tM:=(Ac.mp hj).1;exact(fC j J[j] z (Ab<|(by omega)) hj).1
     exact(Fq λe:z=x=>hn<|e ▸ O).mpr Û
    rw[Fw h]at this;have:0<ls.length:=VD h;omega
  refine q L (J.map (·.1)) d _ (o.trans sL) (jV o hL) (by rw[av,Cg];rfl) ⟨by rw[Aa];omega,λj u x G U=>?_⟩ Vl (λx=>by rw[gg x];exact I.whole hT x) (by omega);rw[Ah,Ar]at G;obtain⟨p,wM,rfl⟩:=G;exact sL _ _ (fC j p x wM U).2.2
end
end Q1
namespace Nz
open PySem L2 Nt
inductive Way{α:Type}(ls:List<|α×α×Bool)(f:α):α->Bool->Prop where
 |here:Way ls f f false
 |there {x y:α} {b o:Bool}:Way ls f x b->(x,y,o)∈ls->Way ls f y (b != o)
 |back {x y:α} {b o:Bool}:Way ls f x b->(y,x,o)∈ls->Way ls f y (b != o)
abbrev Bl(α:Type):=α×α×Bool
def has{α:Type}(a:α->Key)(Y:List<|Key×V)(x:α):Prop:=∃v,ao Y (a x)=some v
def dL{α:Type}(a:List<|Bl α)(x y:α)(o:Bool):Prop:=(x,y,o)∈a\/(y,x,o)∈a
def qX{α:Type}(a:List<|Bl α):List α:=a.flatMap λl=>[l.1,l.2.1]
theorem Vm{α:Type}:∀a:List<|Bl α,(qX a).length=2*a.length
 |[]=>rfl
 |l :: r=>by
  show(qX r).length+1+1=2*(r.length+1);rw[Vm r];omega
def q2k{α:Type}{a:List (Bl α)}{x y:α}{o:Bool}(h:dL a x y o):y∈qX a:=by
 obtain h|h:=h
 ·exact Di.mpr ⟨_,h,by simp⟩
 ·exact Di.mpr ⟨_,h,by simp⟩
structure b5{α:Type}(φ:α->Key)(ls:List<|Bl α)(f:α)(hr:Option α)(Y:List<|Key×V)(wt:List α):Prop where
 de:(Y.map (·.1)).Nodup
 txt:∀k∈Y.map (·.1),∃x,k=φ x/\x∈f :: qX ls
 val:∀x v,ao Y (φ x)=some v->∃b,v=.bl b/\Way ls f x b
 fst:has φ Y f
 tW:∀x∈wt,has φ Y x
 AZ:∀x,some x=hr->has φ Y x
 cls:∀x,has φ Y x->x∈wt\/some x=hr\/∀y o,dL ls x y o->has φ Y y
variable{Y:List (Key×V)}
theorem b5.len{α:Type}{b:α->Key}{a:List (Bl α)}{f:α}{c:Option α}{d:List α}(I:b5 b a f c Y d):Y.length<=1+2*a.length:=by
 have:=aI I.de λk h=>by
  obtain⟨x,e,i⟩:=I.txt k h;rw[e];exact Ai.mpr ⟨x,i,rfl⟩
 rw[Aa,Aa,As,Vm]at this;omega
def dh{α:Type}{a:α->Key}{k:Key}{v:V}{x:α}(h:has a Y x):has a (putK Y k v) x:=by
 obtain⟨u,b⟩:=h;unfold has;rw[dC]
 split
 ·exact⟨_,rfl⟩
 ·exact⟨u,b⟩
open Classical in
def b5.start{α:Type}{a:α->Key}(i:∀x y,a x=a y->x=y)(j:List<|Bl α)(f:α):b5 a j f none (putK [] (a f)<|.bl false) [f]:=by
 have e:putK ([]:List<|Key×V) (a f) (.bl false)=[(a f,.bl false)]:=rfl;have d:∀x,ao ([(a f,.bl false)]:List<|Key×V) (a x)=if x=f then some (.bl false)else none:=λx=>by
  rw[<-e,dC]
  by_cases h:x=f
  ·rw[BP h,BP<|by rw[h]]
  ·rw[BK h,BK λq=>h<|i _ _ q];rfl
 rw[e];refine⟨by simp,λk l=>⟨f,by simpa using l,Ag ..⟩,λx v h=>?_,⟨.bl false,by rw[d f,BP rfl]⟩,λx b=>?_,λx b=>by(cases b),λx b=>?_⟩
 ·rw[d x]at h
  by_cases c:x=f
  ·rw[BP c]at h;cases h;subst c;exact⟨false,rfl,.here⟩
  ·rw[BK c]at h;cases h
 ·rw[Af.mp b];exact⟨.bl false,by rw[d f,BP rfl]⟩
 ·obtain⟨v,h⟩:=b;rw[d x]at h
  by_cases c:x=f
  ·exact .inl<|Af.mpr c
  ·rw[BK c]at h;cases h
def b5.pop{α:Type}{b:α->Key}{d:List (Bl α)}{f h:α}{e:List α}(I:b5 b d f none Y<|e++[h]):b5 b d f (some h) Y e:=by
 refine⟨I.de,I.txt,I.val,I.fst,λx a=>I.tW x<|Az _ a,λx a=>(by cases a;exact I.tW h<|Av _<|Af.mpr rfl),λx a=>?_⟩
 obtain c|c|c:=I.cls x a
 ·obtain c|c:=An.mp c
  ·exact .inl c
  ·exact .inr<|.inl<|by rw[Af.mp c]
 ·cases c
 ·exact .inr<|.inr c
def b5.close{α:Type}{a:α->Key}{b:List (Bl α)}{f h:α}{i:List α}(I:b5 a b f (some h) Y i)(c:∀y o,dL b h y o->has a Y y):b5 a b f none Y i:=by
 refine⟨I.de,I.txt,I.val,I.fst,I.tW,λx e=>(by cases e),λx e=>?_⟩
 obtain d|d|d:=I.cls x e
 ·exact .inl d
 ·cases d;exact .inr<|.inr c
 ·exact .inr<|.inr d
def b5.je{α:Type}{a:α->Key}{k:List (Bl α)}{f:α}{m:Option α}{n:List α}(I:b5 a k f m Y n){g:α}(o:ao Y (a g)=none):a g∉Y.map (·.1):=by
 intro s;obtain⟨p,j,e⟩:=Ai.mp s;have:∃i:Nat,Y[i]?=some p:=Bj j;obtain⟨i,u⟩:=this;have:∀{l},(∃q∈l,q.1=a g)->ao l (a g)≠none:=λ{l}=>by
  induction l with
  |nil=>rintro ⟨q,b,_⟩;cases b
  |cons c r t=>
   rintro ⟨q,b,e⟩ d
   by_cases h:c.1=a g
   ·rw[gJ h]at d;cases d
   ·rw[gK h]at d
    obtain rfl|b:=Al.mp b
    ·exact h e
    ·exact t ⟨q,b,e⟩ d
 exact this ⟨p,j,e⟩ o
def b5.hrk{α:Type}{a:α->Key}{b:List (Bl α)}{f h:α}{c:List α}(I:b5 a b f (some h) Y c):has a Y h:=I.AZ h rfl
def b5.add{α:Type}{a:α->Key}(q:∀x y,a x=a y->x=y){m:List (Bl α)}{f h g:α}{r:List α}{b o:Bool}(I:b5 a m f (some h) Y r)(s:ao Y (a g)=none)(u:ao Y (a h)=some (.bl b))(t:dL m h g o):
  b5 a m f (some h) (putK Y (a g)<|.bl<|b != o) (r++[g]):=by
 have p:=I.je s;have n:Way m f g (b != o):=by
  obtain⟨A,e,n⟩:=I.val h _ u;cases e
  obtain t|t:=t
  ·exact .there n t
  ·exact .back n t
 refine⟨?_,λk l=>?_,λx v i=>?_,dh I.fst,λx j=>?_,λx j=>dh<|I.AZ x j,λx j=>?_⟩
 ·rw[tV,BK p];exact lQ I.de p
 ·rw[tV,BK p]at l
  obtain l|l:=An.mp l
  ·exact I.txt k l
  ·exact⟨g,Af.mp l,Ak _<|q2k t⟩
 ·rw[dC]at i
  by_cases c:a x=a g
  ·rw[BP c]at i;cases i;rw[q _ _ c];exact⟨_,rfl,n⟩
  ·rw[BK c]at i;exact I.val x v i
 ·obtain j|j:=An.mp j
  ·exact dh<|I.tW x j
  ·rw[Af.mp j];exact⟨_,by rw[dC,BP rfl]⟩
 ·obtain⟨v,i⟩:=j;rw[dC]at i
  by_cases c:a x=a g
  ·exact .inl<|Av _<|Af.mpr<|q _ _ c
  ·rw[BK c]at i
   obtain d|d|d:=I.cls x ⟨v,i⟩
   ·exact .inl<|Az _ d
   ·exact .inr<|.inl d
   ·exact .inr<|.inr λy w z=>dh<|d y w z
def b5.whole{α:Type}{a:α->Key}{c:List (Bl α)}{f:α}(I:b5 a c f none Y []):∀x b,Way c f x b->∃h,ao Y (a x)=some (.bl h):=by
 have l:∀x b,Way c f x b->has a Y x:=λx b w=>by
  induction w with
  |here=>exact I.fst
  |there w i j=>
   obtain d|d|d:=I.cls _ j
   ·cases d
   ·cases d
   ·exact d _ _<|.inl i
  |back w i j=>
   obtain d|d|d:=I.cls _ j
   ·cases d
   ·cases d
   ·exact d _ _<|.inr i
 intro x b w;obtain⟨v,k⟩:=l x b w;obtain⟨h,e,_⟩:=I.val x v k;exact⟨h,by rw[k,e]⟩
def jB:V->Bool
 |.bl b=>b
 |_=>false
noncomputable def jY{α:Type}(a:α->Key)(p:Key×V):List α:=open Classical in if h:jB p.2=true/\∃x,p.1=a x then [h.2.choose]else []
noncomputable def aZ{α:Type}(a:α->Key)(Y:List<|Key×V):List α:=Y.flatMap<|jY a
theorem iO{α:Type}{a:α->Key}(c:∀x y,a x=a y->x=y)(x:α)(b:Bool):jY a (a x,.bl b)=if b=true then [x]else []:=by
 unfold jY;cases b with
 |true=>
  have h:jB (a x,V.bl true).2=true/\∃y,(a x,V.bl true).1=a y:=⟨rfl,x,rfl⟩;rw[dif_pos h,BP rfl,c _ _ h.2.choose_spec.symm]
 |false=>rw[dif_neg (λh=>by cases h.1),BK<|(by decide)]
def cV{α:Type}(a:α->Key)(Y:List<|Key×V)(p:Key×V):aZ a (Y++[p])=aZ a Y++jY a p:=by
 unfold aZ;rw[Dj];simp
theorem bY{α:Type}(a:α->Key):∀Y:List<|Key×V,(aZ a Y).length<=Y.length
 |[]=>Am _
 |p :: r=>by
  show(jY a p++aZ a r).length<=r.length+1;have:=bY a r;have:(jY a p).length<=1:=by unfold jY;split<;>simp
  rw[Ad];omega
def b5.mem{α:Type}{a:α->Key}(d:∀x y,a x=a y->x=y){i:List (Bl α)}{f:α}(I:b5 a i f none Y [])(x:α):x∈aZ a Y↔ao Y (a x)=some (.bl true):=by
 rw[<-wA I.de];unfold aZ;rw[Di]
 constructor
 ·rintro ⟨⟨k,v⟩,e,c⟩;obtain⟨y,rfl,_⟩:=I.txt k<|Ai.mpr ⟨_,e,rfl⟩;obtain⟨b,rfl,_⟩:=I.val y v<|(wA I.de).mp e;rw[iO d]at c;cases b with
  |true=>rw[BP rfl]at c;rwa[Af.mp c]
  |false=>cases c
 ·intro h;exact⟨_,h,by rw[iO d,BP rfl];exact Af.mpr rfl⟩
set_option tactic.hygienic true in
theorem fJ{α:Type}{c:α->Key}(i:∀x y,c x=c y->x=y):∀Y:List<|Key×V,(Y.map (·.1)).Nodup->(aZ c Y).Nodup
 |[],_=>Cn
 |p :: r,h=>by
  rw[Bn,Bk]at h;show(jY c p++aZ c r).Nodup;have j:=fJ i r h.2;have key:∀(q:Key×V)(x:α),x∈jY c q->q.1=c x:=λq x d=>by
   unfold jY at d
   split at d
   ·rename_i f;rw[Af.mp d];exact f.2.choose_spec
   ·cases d
  have k:(jY c p).Nodup:=by unfold jY;split<;>simp
  refine Cj.mpr ⟨k,j,λa l b m e=>?_⟩;subst e;obtain⟨q,f,d⟩:=Di.mp m;exact h.1<|Ai.mpr ⟨q,f,by rw[key q a d,key p a l]⟩
end Nz
namespace L2
open PySem PySem.Spec PyProof.Rows
section
variable{X:Cx}{σ:St}{H:Hp}{Q:VK}
def Vn{k v:Expr}{pos:Pos}(e:X.A.units+1<cLine)(h:∀d,H d=none->Ev X k σ (upd H d<|.dK []) λy b=>Ev X v σ b λx c=>∃a,bX c d y x a/\Q (.ref d) a):Ev X (.Dict [some k] [v] pos) σ H Q:=by
 refine⟨λO s I=>wpAny_Dict_any rfl rfl (by simp) (by show 1<=15;decide) ?_⟩;have f:=I.laid (t':=s.toks) (λ_ _ q=>Ae _ q) (Am _)<|Qk s.heap I.big;show wpAny _ _ (evalPairs [(eval k X.env,do let x <-eval v X.env;standAt pos;pure x)]) _ _ _;unfold evalPairs;refine BJ<|aN ((h _ I.fresh).run O _ f) λt i⟨y,b,j,l,m⟩=>?_;refine BJ<|CJ<|BJ<|aN (m.run O i j) λu w⟨x,c,n,o,a,p,q⟩=>?_;refine BJ<|FP<|BL ?_;unfold evalPairs;refine BJ<|CJ<|BL<|BL ?_;unfold storeAll;rw[Gs];exact BJ<|BJ<|SK e n p l o λz r=>BL<|BL ⟨.ref _,a,r,rfl,q⟩
end
end L2
namespace Q1
open PySem L2 Nt bD
abbrev pp(x:Bl):HO:= .tup [.str x.1,.str x.2.1,.bl x.2.2]
def Vo(H:Hp)(a:List Addr)(b:List Bl):Prop:=a.length=b.length/\∀(j:Nat)u x,a[j]?=some u->b[j]?=some x->H u=some (pp x)
def LO:Sp:=λe H Q _=>∃f L c a,e=[.str f,.ref L]/\H L=some (.lst<|c.map V.ref)/\Vo H c a/\a.length<=60 /\
 ∀d Y b,ah H b->H d=none->b d=some (.dK Y)->b5 a f none Y []->Q (.ref d) b
abbrev Vp{α:Type}(a:α->Key)(x:Nz.Bl α):HO:= .tup [kV<|a x.1,kV<|a x.2.1,.bl x.2.2]
def li{α:Type}(c:α->Key)(H:Hp)(a:List Addr)(b:List<|Nz.Bl α):Prop:=a.length=b.length/\∀(j:Nat)u x,a[j]?=some u->b[j]?=some x->H u=some (Vp c x)
variable{us:List Addr}
def li.same{α:Type}{a:α->Key}{H H':Hp}{b:List (Nz.Bl α)}(h:li a H us b)(s:ah H H'):li a H' us b:=⟨h.1,λj u x c d=>s _ _<|h.2 j u x c d⟩
abbrev Lg{α:Type}(a:α->Key)(l:List α):HO:= .lst<|l.map λx=>kV<|a x
def Vq{α:Type}(a:α->Key):Sp:=λe H Q _=>∃f L us b,e=[kV<|a f,.ref L]/\H L=some (.lst<|us.map V.ref)/\li a H us b/\b.length<=60 /\
 ∀d Y c,ah H c->H d=none->c d=some (.dK Y)->Nz.b5 a b f none Y []->Q (.ref d) c
def x0p{a b:Key}(h:kV a=kV b):a=b:=by
 cases a<;>cases b<;>cases h<;>rfl
variable{Z:Heap}{mg:Ò}{K:aa}{fd:FuncData}{f:Addr}{Y:List (Key×V)}{ls:List Lk}{ps:Ñ}
section
variable{P:Program}{w:World}
abbrev DM:Ñ:=["first","links","odds","waiting","here","one","other","odd","start","goal"]
def xB:ak DM ["first","links"] (aP vR):=bZ
def WI{α:Type}(a:α->Key)(b:List α)(h:α):(((b++[h]).map λx=>kV<|a x)[((b++[h]).map λx=>kV<|a x).length-1]?=some (kV<|a h))/\((b++[h]).map λx=>kV<|a x).dropLast=b.map (λx=>kV<|a x):=by
 rw[Aj]
 constructor
 ·simp
 ·exact List.dropLast_concat
theorem Vr{α:Type}{p:α->Key}(ki:∀ x y,p x=p y->x=y)(iB:∀ x y,p7 (kV<|p x) (kV<|p y)=true)(F:bo K "spread" "spread" vR f fd)(T:Txt mg):aD P w K mg Z bz 1 f fd ["first","links"] (Vq p):=by
 refine F.gc xB λb0 H vs Q E hr h=>?_;obtain⟨D,L,us,ls,rfl,hL,cN,Û,q⟩:=h;have nd:=xB.nd;have hu:=hr.u1;have rG:=cN.1;refine aT 2 nd<|Vn hu λd hd=>ae 0<|sX ⟨_,bX.k av<|bI<|Bu _,?_⟩;rw[pO];refine aT 3 nd<|dS<|ai<|ae 0<|ax ⟨Z1,λM hM=>?_⟩;have mr:M≠d:=λe=>by rw[e,av]at hM;cases hM
 have xu:H M=none:=by rwa[au mr]at hM
 have s0:ah H (upd (upd H d<|.dK<|putK [] (p D)<|.bl false) M<|.lst [kV<|p D]):=(aM hd _).trans<|aM hM _;have xv:(upd (upd H d<|.dK<|putK [] (p D)<|.bl false) M<|.lst [kV<|p D]) d=some (.dK<|putK [] (p D)<|.bl false):=by rw[au<|CG mr,av]
 have nP:(upd (upd H d<|.dK<|putK [] (p D)<|.bl false) M<|.lst [kV<|p D]) M=some (Lg p [D]):=av;generalize upd (upd H d<|.dK<|putK [] (p D)<|.bl false) M (.lst [kV<|p D])=H0 at s0 xv nP;refine vP (λm O G=>m<=1000/\∃Y r u4 u5 u6 u7 U u9,ah H G/\G d=some (.dK Y)/\G M=some (Lg p r)/\Nz.b5 p ls D none Y r/\m=2 * (1+2 * ls.length - Y.length)+r.length /\
   O=[some<|kV<|p D,(some (.ref L)),(some (.ref d)),(some (.ref M)),u4,u5,u6,u7,U,u9]) (m0:=2*(1+2*ls.length-1)+1)
  ⟨(by omega),_,[D],_,_,_,_,_,_,s0,xv,nP,Nz.b5.start ki ls D,rfl,rfl⟩ ?_
 rintro m O H1 ⟨hm,Y,r,u4,u5,u6,u7,U,u9,s1,Ö,LU,I,em,rfl⟩;refine Qw<|ae 3 (v:= .ref M) ⟨!r.isEmpty,Or.inl ⟨r.map λx=>kV<|p x,aj.of LU,by cases r<;>rfl⟩,?_⟩
 obtain e|⟨mv,A,e⟩:=List.eq_nil_or_concat r
 ·subst e;rw[BK λh=>nomatch h];exact bQ<|ae 2<|q d Y H1 s1 hd Ö I
 rw[List.concat_eq_append]at e;subst e;rw[BP<|by cases mv<;>rfl];obtain⟨hy,i5⟩:=WI p mv A;refine aT 4 nd<|x15 DW VN VP ZL<|ae 3 (v:= .ref M) ⟨Or.inl ⟨rfl,_,aj.of LU⟩,M,_,kV<|p A,rfl,rfl,LU,hy,?_⟩;rw[i5];have I1:=I.pop;have lw:(mv++[A]).length=mv.length+1:=by rw[Ad];rfl
 rw[lw]at em;have uf:∀{G:Hp},ah H G->G L=some (.lst<|us.map V.ref):=λs=>s _ _ hL;have s2:ah H (upd H1 M<|Lg p mv):=cX s1 xu;have Vs:(upd H1 M<|Lg p mv) d=some (.dK Y):=by rwa[au<|CG mr]
 have Vt:(upd H1 M<|Lg p mv) M=some (Lg p mv):=av;generalize upd H1 M (Lg p mv)=H2 at s2 Vs Vt;refine lS<|ae 1 ⟨L,rfl,⟨_,aj.of<|uf s2⟩,lT (xs:=us.map V.ref) (λj O G=>∃(Y:List<|Key×V)(r:List α)(u5 u6 u7 U u9:Option V),ah H G/\G d=some (.dK Y)/\G M=some (Lg p r)/\Nz.b5 p ls D (some A) Y r/\2 * (1+2 * ls.length - Y.length)+r.length < m /\
   (∀l∈ls.take j,(l.1=A->Nz.has p Y l.2.1)/\(l.2.1=A->Nz.has p Y l.1))/\O=[some<|kV<|p D,(some (.ref L)),(some (.ref d)),(some (.ref M)),some<|kV<|p A,u5,u6,u7,U,u9])
  ⟨Y,mv,_,_,_,_,_,s2,Vs,Vt,I1,(by omega),λl hl=>by simp at hl,rfl⟩ ?_ ?_ ?_⟩
 ·rintro j O G _ ⟨_,_,_,_,_,_,_,sm,_⟩;exact aj.of<|uf sm
 ·rintro j x O H3 hx ⟨Y,r,u5,u6,u7,U,u9,s3,ed,eM,I,aV,cn,rfl⟩;rw[Ah,Ar]at hx;obtain⟨u,cj,rfl⟩:=hx;have hj:j<ls.length:=by
   have:=(Ac.mp cj).1;omega
  have Vu:ls[j]?=some ls[j]:=Ab hj;have mq:=(cN.same s3).2 j u _ cj Vu;have gg:ls[j]∈ls:=Bp hj;have uQ:∀l∈ls.take (j+1),l∈ls.take j\/l=ls[j]:=λl hl=>by
   rw[Bx,Vu]at hl
   obtain q|q:=An.mp hl
   ·exact .inl q
   ·exact .inr<|by simpa using q
  generalize ls[j]=lx at mq gg uQ;obtain⟨B,C,od⟩:=lx;refine LJ rfl (aS.of mq) (a8 5 nd<|a8 6 nd<|a8 7 nd ?_);refine Qx<|fv<|ai<|fv<|ai<|ae 5<|ai<|ae 6<|ax ⟨Z2,λN Kh=>?_⟩;refine ai<|fv<|ai<|ae 6<|ai<|ae 5<|ax ⟨Z2,λt2 jP=>ax ⟨Z2,λtt Ø=>?_⟩⟩;have n1:=aM Kh<|.tup [kV<|p B,kV<|p C];have n2:=aM jP<|.tup [kV<|p C,kV<|p B];have n3:=aM Ø<|.tup [.ref N,.ref t2];have e1:=n3 _ _<|n2 _ _<|av (H:=H3) (a:=N) (o:= .tup [kV<|p B,kV<|p C]);have e2:=n3 _ _<|av (H:=upd H3 N<|.tup [kV<|p B,kV<|p C]) (a:=t2) (o:= .tup [kV<|p C,kV<|p B]);have e3:=av (H:=upd (upd H3 N<|.tup [kV<|p B,kV<|p C]) t2<|.tup [kV<|p C,kV<|p B]) (a:=tt) (o:= .tup [.ref N,.ref t2]);have n:=n1.trans<|n2.trans n3;refine⟨tt,rfl,⟨_,aS.of e3⟩,?_⟩;generalize upd (upd (upd H3 N<|.tup [kV<|p B,kV<|p C]) t2<|.tup [kV<|p C,kV<|p B]) tt (.tup [.ref N,.ref t2])=H4 at e1 e2 e3 n;refine Qy (xs:=[.ref N,.ref t2]) (λi O G=>∃(Y:List<|Key×V)(r:List α)(U u9:Option V),ah H G/\G d=some (.dK Y)/\G M=some (Lg p r)/\G N=some (.tup [kV<|p B,kV<|p C])/\G t2=some (.tup [kV<|p C,kV<|p B])/\G tt=some (.tup [.ref N,.ref t2])/\Nz.b5 p ls D (some A) Y r/\2 * (1+2 * ls.length - Y.length)+r.length < m /\
   (∀l∈ls.take j,(l.1=A->Nz.has p Y l.2.1)/\(l.2.1=A->Nz.has p Y l.1))/\(0<i->B=A->Nz.has p Y C)/\(1<i->C=A->Nz.has p Y B)/\O=[some<|kV<|p D,(some (.ref L)),(some (.ref d)),(some (.ref M)),some<|kV<|p A,some<|kV<|p B,some<|kV<|p C,some<|.bl od,U,u9])
   ⟨Y,r,_,_,s3.trans n,n _ _ ed,n _ _ eM,e1,e2,e3,I,aV,cn,λh=>absurd h (by decide),λh=>absurd h (by decide),rfl⟩ ?_ ?_ ?_
  ·rintro i O G _ ⟨_,_,_,_,_,_,_,_,_,e,_⟩;exact aS.of e
  ·rintro i x O H5 hx ⟨Y,r,U,u9,s5,ed,eM,e1,e2,e3,I,aV,cn,d1,d2,rfl⟩;obtain⟨st,J,t,rfl,et,LV,df⟩:∃st J t,x=.ref t/\H5 t=some (.tup [kV<|p st,kV<|p J])/\Nz.dL ls st J od/\∀jC,(∀y,Nz.has p Y y->Nz.has p jC y)->(st=A->Nz.has p jC J)->(0<i+1->B=A->Nz.has p jC C)/\(1<i+1->C=A->Nz.has p jC B):=by
    match i with
    |0=>
     cases hx;exact⟨B,C,N,rfl,e1,.inl gg,λjC mo h=>⟨λ_=>h,λh=>absurd h<|(by decide)⟩⟩
    |1=>
     cases hx;exact⟨C,B,t2,rfl,e2,.inr gg,λjC mo h=>⟨λ_ e=>mo _ (d1 (by decide) e),λ_=>h⟩⟩
    |i+2=>simp at hx
   refine jT rfl (aS.of et) (a8 8 nd<|a8 9 nd ?_);have skip:(st=A->Nz.has p Y J)->∃(Y:List<|Key×V)(r:List α)(U u9:Option V),ah H H5/\H5 d=some (.dK Y)/\H5 M=some (Lg p r)/\H5 N=some (.tup [kV<|p B,kV<|p C])/\H5 t2=some (.tup [kV<|p C,kV<|p B])/\H5 tt=some (.tup [.ref N,.ref t2])/\Nz.b5 p ls D (some A) Y r/\2*(1+2*ls.length-Y.length)+r.length<m /\
     (∀l∈ls.take j,(l.1=A->Nz.has p Y l.2.1)/\(l.2.1=A->Nz.has p Y l.1))/\(0<i+1->B=A->Nz.has p Y C)/\(1<i+1->C=A->Nz.has p Y B)/\[some<|kV<|p D,(some (.ref L)),(some (.ref d)),(some (.ref M)),some<|kV<|p A,some<|kV<|p B,some<|kV<|p C,some<|.bl od,some<|kV<|p st,some<|kV<|p J]=[some<|kV<|p D,(some (.ref L)),(some (.ref d)),(some (.ref M)),some<|kV<|p A,some<|kV<|p B,some<|kV<|p C,some<|.bl od,U,u9]:=λh=>
    ⟨Y,r,_,_,s5,ed,eM,e1,e2,e3,I,aV,cn,(df Y (λ_ h=>h) h).1,(df Y (λ_ h=>h) h).2,rfl⟩
   refine fP<|mQ<|zg<|cH jl<|ae 8<|ae 4 ⟨iB _ _,_,rfl,?_⟩
   by_cases cP:st=A
   ·rw[BP<|BW<|by rw[cP]];refine zh<|Io hu<|ae 9<|ae 2 ⟨d,_,rfl,aX.k (k:=p J) ed,?_⟩;cases hg:ao Y (p J) with
    |some v=>
     show if false=true then _ else _;rw[BK<|(by decide)];exact a7<|a7<|skip λ_=>⟨v,hg⟩
    |none=>
     show if true=true then _ else _;rw[BP rfl];have Ù:Nz.has p Y A:=by
      obtain q:=I.hrk
      exact q
     obtain⟨v,hv⟩:=Ù;obtain⟨b,rfl,_⟩:=I.val A v hv;subst cP;have I':=Nz.b5.add ki (o:=od) I hg hv LV;have lk:=I.len;have Ú:=I'.len;have oZ:(putK Y (p J)<|.bl<|b != od).length=Y.length+1:=by
      have xA:=I.je hg;have:=BZ List.length<|tV Y (p J)<|.bl<|b != od;rwa[BK xA,Ad,Aa,Aa]at this
     refine tG hu (hG yS<|eU hu<|ae 2<|ae 4 ⟨d,.bl b,rfl,by rw[<-hv];exact aX.k (k:=p st) ed,ae 7 ⟨rfl,?_⟩⟩);rw[uO];refine ae 2 (ae 9 ⟨d,_,rfl,bX.k (k:=p J) ed (bI<|(by omega)),?_⟩);have Vv:(upd H5 d<|.dK<|putK Y (p J)<|.bl<|b != od) M=some (Lg p r):=by rwa[au mr]
     refine gq (jQ<|ae 3 ⟨M,rfl,⟨_,Vv⟩,ae 9 ⟨_,Vv,by rw[Aa];exact bI (by omega),?_⟩⟩);have kT:∀c xs,H5 c=some (.tup xs)->(upd (upd H5 d<|.dK<|putK Y (p J)<|.bl<|b != od) M<|.lst<|r.map (λx=>kV<|p x)++[kV<|p J]) c=some (.tup xs):=λc xs h=>by
      rwa[au (bV h eM λz=>nomatch z),au<|bV h ed λz=>nomatch z]
     have mo:∀y,Nz.has p Y y->Nz.has p (putK Y (p J)<|.bl<|b != od) y:=λy h=>Nz.dh h;have hn:=df _ mo (λ_=>⟨.bl<|b != od,by rw[dC,BP rfl]⟩);refine a7<|a7 ⟨_,r++[J],_,_,cX (cX s5 hd) xu,?_,?_,kT _ _ e1,kT _ _ e2,kT _ _ e3,I',?_,λl hl=>⟨λe=>mo _<|(cn l hl).1 e,λe=>mo _<|(cn l hl).2 e⟩,hn.1,hn.2,rfl⟩
     ·rw[au<|CG mr];exact av
     ·rw[av];show some (HO.lst<|r.map (λx=>kV<|p x)++[kV<|p J])=some (HO.lst<|(r++[J]).map λx=>kV<|p x);rw[Aj];rfl
     ·rw[oZ,Ad];rw[oZ]at Ú;show _+(r.length+1)<m;clear hn df d1 d2 skip;omega
   ·rw[BK λh=>cP<|ki _ _<|x0p<|BX h];show if false=true then _ else _;rw[BK<|(by decide)];exact a7<|a7<|skip λh=>absurd h cP
  ·rintro O H5 ⟨Y,r,U,u9,s5,ed,eM,_,_,_,I,aV,cn,d1,d2,rfl⟩;refine a7 ⟨Y,r,_,_,_,_,_,s5,ed,eM,I,aV,λl hl=>?_,rfl⟩
   obtain q|q:=uQ l hl
   ·exact cn l q
   ·subst q;exact⟨d1 (by show 0<2;decide),d2<|by show 1<2;decide⟩
 ·rintro O H3 ⟨Y,r,u5,u6,u7,U,u9,s3,ed,eM,I,aV,cn,rfl⟩;rw[Aa,rG,Br]at cn;refine a7 ⟨_,aV,(by omega),Y,r,_,_,_,_,_,_,s3,ed,eM,I.close λy o ht=>?_,rfl,rfl⟩
  obtain h|h:=ht
  ·exact(cn _ h).1 rfl
  ·exact(cn _ h).2 rfl
def x16{ls:List Bl}{f:Str}(I:Nz.b5 Sum.inr ls f none Y []):b5 ls f none Y []:=by
 have c:∀{x:Str}{b:Bool},Nz.Way ls f x b->Way ls f x b:=λw=>by
  induction w with
  |here=>exact .here
  |there _ h a=>exact .there a h
  |back _ h a=>exact .back a h
 exact⟨I.de,I.txt,λx v h=>let ⟨b,e,w⟩:=I.val x v h;⟨b,e,c w⟩,I.fst,I.tW,I.AZ,I.cls⟩
def NJ(F:bo K "spread" "spread" vR f fd)(T:Txt mg):aD P w K mg Z bz 1 f fd ["first","links"] LO:=
 (Vr (λ_ _ h=>Sum.inr.inj h) (λ_ _=>rfl) F T).imp λj H Q E⟨f,L,us,ls,e,a,b,c,q⟩=>⟨f,L,us,ls,e,a,b,c,λd Y i s n e I=>q d Y i s n e<|x16 I⟩
open PyProof.Rows (sortedS)
def LW:Sp:=λc H Q _=>∃R p as n ps,c=[.ref R,.ref p]/\al H R as n/\aw n/\n.length<=60/\(ag n).length<=60/\H p=some (Ls ps) /\
 ∀L a b,ah H b->H L=none->b L=some (Ls a)->cD a->(∀z,z∈a↔ig n ps z)->a.length<=60->Q (.ref L) b
def LX:Sp:=λd H Q _=>∃R p as n b,d=[.ref R,.ref p]/\al H R as n/\aw n/\ce n/\0<n.length/\n.length<=60/\(ag n).length<=60/\H p=some (Ls b)/\cD b /\
 (∀L c a,ah H a->H L=none->a L=some (Ls c)->bg n b c->Q (.ref L) a)/\(∀a,ah H a->(∀c,¬ bg n b c)->Q .non a)
def xC(ps:Ñ)(x:Lk):Bool:=decide (x.2.1∈ps) != decide (x.2.2∈ps)
def dZ(ps:Ñ)(ls:List Lk):Ñ:=(ls.filter<|xC ps).map (·.1)
def ZB(h:B8 ls):cD (dZ ps ls):=by
 unfold cD dZ;rw[Cs];exact h.sublist List.filter_sublist
def cy{n:fo}(T:aw n)(h:∀x,x∈ls↔ph n x)(z:Str):z∈dZ ps ls↔ig n ps z:=by
 unfold dZ;rw[Ai]
 constructor
 ·rintro ⟨x,a,rfl⟩;rw[Bg]at a;exact(JE T<|(h x).mp a.1).mpr a.2
 ·intro b;obtain⟨e,c,_⟩:=id b
  obtain q|q:=TK T c
  ·exact⟨_,Bg.mpr ⟨(h _).mpr q,(JE T q).mp b⟩,rfl⟩
  ·exact⟨_,Bg.mpr ⟨(h _).mpr q,(JE T q).mp b⟩,rfl⟩
def Vw(ps:Ñ)(ls:List Lk):(dZ ps ls).length<=ls.length:=by
 unfold dZ;rw[Aa];exact Cp _ _
def Rs(ps:Ñ)(ls:List Lk)(x:Lk):dZ ps (ls++[x])=dZ ps ls++(if xC ps x=true then [x.1]else []):=by
 unfold dZ;rw[Ct,Aj]
 congr 1
 cases h:xC ps x<;>simp[h]
def rL(zs:Ñ)(z:Str):zs.contains z=decide (z∈zs):=by
 rw[Cr,CK];exact Cu
abbrev Vx:Ñ:=["rows","points"]
abbrev xD:Ñ:=["rows","points","tie","one","other"]
def LY:ak Vx ["rows","points"] (aP zX):=bZ
def LZ:xD.Nodup:=by decide +kernel
theorem y3(F:bo K "cut_of" "cut_of" zX f fd)(T:Txt mg)
  (G:aQ P w K mg Z 1 "links_of" ["rows"] B9):
  aD P w K mg Z bz 2 f fd ["rows","points"] LW:=by
 refine F.gc LY λb0 H vs Q E hr h=>?_;obtain⟨R,p,as,n,ps,rfl,hR,o,hn,ht,r,q⟩:=h;refine bQ (gu (aP zX) Vx xD 3 (eB bd)<|bG G hr<|ai<|ae 0<|ax ⟨R,as,n,rfl,hR,o,(by omega),ht,λL us ls j c n1 s t gP gg v=>?_⟩);refine⟨L,rfl,⟨_,aj.of s⟩,λD b=>?_⟩;have KA:=bh s b;have Lv:=bh (c _ _ r) b;have rG:=t.1;refine jS (xs:=us.map V.ref) (λi a d=>(∃v1 z A,a=[(some (.ref R)),(some (.ref p))]++[v1,z,A])/\d=upd j D (Ls<|dZ ps<|ls.take i)) ⟨⟨_,_,_,rfl⟩,rfl⟩ ?_ ?_ ?_
 ·rintro i a d _ ⟨_,rfl⟩;exact aj.of<|by rwa[au KA]
 ·rintro i x a d B ⟨⟨v1,z,A,rfl⟩,rfl⟩;rw[Ah,Ar]at B;obtain⟨u,C,rfl⟩:=B;have hi:i<ls.length:=by
   have:=(Ac.mp C).1;omega
  have I:=Ab hi;have J:=t.2 i u _ C I;have gZ:ls.take (i+1)=ls.take i++[ls[i]]:=by rw[Bx,I];rfl
  rw[gZ,Rs];generalize ls[i]=lx at J;obtain⟨k,l,m⟩:=lx;have L4:(upd j D<|Ls<|dZ ps<|ls.take i) u=some (.tup [.str k,.str l,.str m]):=by rwa[au<|bh J b]
  have M:(upd j D<|Ls<|dZ ps<|ls.take i) p=some (Ls ps):=by rw[au Lv];exact c _ _ r
  intro N O U Y ex;refine LJ rfl (aS.of L4) (a8 2 LZ<|a8 3 LZ<|a8 4 LZ ?_);intro N O U Y ex;refine hU<|cH yS<|hG lN<|ae 3<|ae 1 ⟨p,_,rfl,.inl<|aj.of M,rfl,kE _,?_⟩;refine hG lN<|ae 4<|ae 1 ⟨p,_,rfl,.inl<|aj.of M,rfl,kE _,rfl,_,rfl,?_⟩;have fF:∀(x y:Bool),(if false=true then x else y)=y:=λ_ _=>rfl;rw[fF,fF,kD,kD,rL,rL,uO];show if xC ps (k,l,m)=true then _ else _;have jN:=By (Vw ps<|ls.take i) (show(ls.take i).length<=ls.length by rw[Bh];omega)
  by_cases e:xC ps (k,l,m)=true
  ·rw[BP e];intro N O U Y ex;refine ae 2 ⟨_,av,by rw[Aa];exact bI (by omega),⟨_,_,_,rfl⟩,?_⟩;rw[pO,BP e];exact IU
  ·rw[BK e];refine⟨⟨_,_,_,rfl⟩,?_⟩;rw[BK e,Be]
 ·rintro a d ⟨_,rfl⟩;rw[Aa,rG,Br];have jN:=Vw ps ls;exact q D _ _ (c.trans<|aM b _) (jV c b) av (ZB gP) (cy o gg)<|(by omega)
abbrev xE(ss:Ñ)(x:Lk):Bl:=(x.2.1,x.2.2,decide (x.1∈ss))
abbrev L9:Ñ:=["rows","some","links","odds","side"]
abbrev xF:Ñ:=["rows","some","links","odds","side","tie","one","other"]
abbrev xG:Ñ:=["rows","some","links","odds","side","point"]
def xH:ak L9 ["rows","some"] (aP vS):=bZ
def Ma:xF.Nodup:=by decide +kernel
def GQ:xG.Nodup:=by decide +kernel
def xI:Key->Str
 |Sum.inr z=>z
 |_=>⟨#[]⟩
def jB:V->Bool
 |.bl b=>b
 |_=>false
def aZ(Y:List<|Key×V):Ñ:=(Y.filter λp=>jB p.2).map λp=>xI p.1
def bY(Y:List<|Key×V):(aZ Y).length<=Y.length:=by
 unfold aZ;rw[Aa];exact Cp _ _
def cV(Y:List<|Key×V)(p:Key×V):aZ (Y++[p])=aZ Y++(if jB p.2=true then [xI p.1]else []):=by
 unfold aZ;rw[Ct,Aj]
 congr 1
 cases h:jB p.2<;>simp[h]
def BC(d:(Y.map (·.1)).Nodup)(e:∀k∈Y.map (·.1),∃x,k=Sum.inr x)(x:Str):x∈aZ Y↔ao Y (Sum.inr x)=some (.bl true):=by
 rw[<-wA d];unfold aZ;rw[Ai]
 constructor
 ·rintro ⟨⟨k,v⟩,a,rfl⟩;rw[Bg]at a;obtain⟨y,f⟩:=e k<|Ai.mpr ⟨_,a.1,rfl⟩;have c:=a.2;subst f;cases v with
  |bl b=>
   have:b=true:=c;subst this;exact a.1
  |_=>cases c
 ·intro h;exact⟨_,Bg.mpr ⟨h,rfl⟩,rfl⟩
def k2x(b:(Y.map (·.1)).Nodup)(c:∀k∈Y.map (·.1),∃x,k=Sum.inr x):(aZ Y).Nodup:=by
 have e:((Y.filter λp=>jB p.2).map (·.1)).Nodup:=b.sublist<|List.filter_sublist.map _;unfold aZ;have d:((Y.filter λp=>jB p.2).map λp=>xI p.1).map Sum.inr=(Y.filter λp=>jB p.2).map (λp=>(p.1:Key)):=by
  rw[Cg];refine Bo λp f=>?_;obtain⟨y,i⟩:=c p.1<|Ai.mpr ⟨p,(Bg.mp f).1,rfl⟩;show Sum.inr (xI p.1)=p.1;rw[i];rfl
 rw[Ay];have a:(((Y.filter λp=>jB p.2).map λp=>xI p.1).map (Sum.inr:Str->Key)).Nodup:=by rwa[d]
 rw[Ay,Cs]at a;exact a.imp λh q=>h<|by rw[q]
theorem YA(F:bo K "side_of" "side_of" vS f fd)(T:Txt mg)
  (GL:aQ P w K mg Z 2 "links_of" ["rows"] B9)
  (GS:aQ P w K mg Z 2 "spread" ["first","links"] LO)
  (GC:aQ P w K mg Z 2 "cut_of" ["rows","points"] LW):
  aD P w K mg Z bz 3 f fd ["rows","some"] LX:=by
 refine F.gc xH λb0 H vs Q E M h=>?_;obtain⟨R,p,as,n,r,rfl,hR,N,xJ,h0,hn,ht,hp,rM,q1,q2⟩:=h;have nd:=xH.nd;have hu:=M.fQ;have cj:=M.u1;refine tj 2 (aP vS) L9 xF 3 nd (eB bd) (bG GL M<|ai<|ae 0<|ax ⟨R,as,n,rfl,hR,N,(by omega),ht,λL us ls H1 s1 n1 eL cN gP gg Ù=>?_⟩);refine⟨L,rfl,⟨_,aj.of eL⟩,λD hD=>?_⟩;have rG:=cN.1;have tl:=WP (ss:=r) N gg;refine jS (xs:=us.map V.ref) (λi a m=>(∃v1 v2 v3,a=[(some (.ref R)),(some (.ref p)),none,none,none]++[v1,v2,v3])/\∃o:List Addr,ah H1 m/\m D=some (.lst<|o.map V.ref)/\Vo m o ((ls.take i).map<|xE r)) ⟨⟨_,_,_,rfl⟩,[],aM hD _,av,rfl,λj u x h=>by simp at h⟩ ?_ ?_ ?_
 ·rintro i a m _ ⟨_,o,O,_⟩;exact aj.of<|O _ _ eL
 ·rintro i x a m hx ⟨⟨v1,v2,v3,rfl⟩,o,O,U,A⟩;rw[Ah,Ar]at hx;obtain⟨u,cj,rfl⟩:=hx;have hi:i<ls.length:=by
   have:=(Ac.mp cj).1;omega
  have mV:=Ab hi;have mq:=O _ _<|cN.2 i u _ cj mV;have gZ:(ls.take<|i+1).map (xE r)=(ls.take i).map (xE r)++[xE r ls[i]]:=by rw[Bx,mV,Aj];rfl
  rw[gZ];have lw:o.length=i:=by
   have:=A.1;rw[Aa,Bh]at this;omega
  generalize ls[i]=lx at mq;obtain⟨ti,on,ot⟩:=lx;have pA:=O _ _<|s1 _ _ hp;intro cl C' æ ç ex;refine LJ rfl (aS.of mq) (a8 5 Ma<|a8 6 Ma<|a8 7 Ma ?_);intro cl C' æ ç ex;refine iA ?_;rw[BP rfl];intro cl C' æ ç ex;refine fv<|ai<|ae 6<|ai<|ae 7<|ai<|hG lN<|ae 5<|ae 1 ⟨p,_,rfl,.inl<|aj.of pA,rfl,kE _,ax ⟨Z3,λt dX=>?_⟩⟩;have fF:∀(x y:Bool),(if false=true then x else y)=y:=λ_ _=>rfl;rw[fF,kD,rL];have BD:t≠D:=λe=>by rw[e,U]at dX;cases dX
  have sT:=aM dX<|.tup [.str on,.str ot,.bl<|decide (ti∈r)];refine⟨_,sT _ _ U,by rw[Aa];exact bI (by omega),⟨_,_,_,rfl⟩,o++[t],cX (O.trans sT) hD,?_,?_,?_⟩
  ·rw[av,Aj];rfl
  ·rw[Ad,Ad,A.1];rfl
  ·intro j v y G h2;have B:=A.1
   by_cases hj:j<o.length
   ·rw[Aq hj]at G;rw[Aq<|(by omega)]at h2;have e:=A.2 j v y G h2;rw[au<|bV (sT _ _ e) (sT _ _ U) λz=>nomatch z];exact sT _ _ e
   ·rw[Ba<|(by omega)]at G h2;have f9:j-o.length=0:=by
     have:=(Ac.mp G).1;simp at this;omega
    rw[f9]at G;rw[<-B,f9]at h2;cases G;cases h2;rw[au BD];exact av
 ·rintro a H2 ⟨_,o,s2,U,A⟩;rw[Aa,rG,Br]at A;have rh:=s1.trans s2;have Vy:=hR.same rh;obtain⟨a0,Ú,rd,JY,J0,Û⟩:=Vy.at h0;have hf:=(gW h0).symm;refine aT 3 nd<|bG GS M<|ai<|bb cv<|bb cL<|ae 0<|aE ⟨R,_,_,.ref a0.1,rfl,rfl,aj.of Vy.lst,rd,aE ⟨a0.1,_,_,.str n[0].1,rfl,rfl,aS.of JY,rfl,?_⟩⟩;refine ai (ae 2<|ax ⟨n[0].1,D,o,ls.map<|xE r,rfl,U,A,by rwa[Aa],λd Y s s3 Ö Ø I=>?_⟩);rw[hf]at I;have rE:ah H s:=rh.trans s3;have oZ:=nU N tl h0 I;have xK:∀k∈Y.map (·.1),∃x,k=Sum.inr x:=λk hk=>(I.txt k hk).imp λx h=>h.1;refine aT 4 nd<|bP vM T.sorted CW<|ai<|gu (aP vS) L9 xG 1 (Sw bd)<|ae 3 ⟨d,Y,rfl,Ø,λJ q rN=>?_⟩;have nE:q≠d:=λe=>by rw[e,av]at rN;cases rN
  have Mb:s q=none:=by rwa[au nE]at rN
  have pD:H d=none:=rh.free Ö;refine Sx (λi a m=>(∃v,a=[(some (.ref R)),(some (.ref p)),(some (.ref D)),(some (.ref d)),none]++[v])/\m=upd (upd s d<|.bB J<|.dK Y) q (Ls<|aZ<|Y.take i)) ⟨⟨_,rfl⟩,rfl⟩ ?_ ?_ ?_
  ·rintro i a m _ ⟨_,rfl⟩;rw[au<|CG nE,av]
  ·rintro i pr a m nQ ⟨⟨v,rfl⟩,rfl⟩;have hm:pr∈Y:=At nQ;have gZ:Y.take (i+1)=Y.take i++[pr]:=by rw[Bx,nQ];rfl
   obtain⟨k,vv⟩:=pr;obtain⟨z,rfl⟩:=xK k<|Ai.mpr ⟨_,hm,rfl⟩;have hv:=(wA I.de).mp hm;obtain⟨b,rfl,_⟩:=I.val z vv hv;rw[gZ,cV];intro cl C' æ ç ex;refine a8 5 GQ ?_;intro cl C' æ ç ex;have dg:aX (upd (upd s d<|.bB J<|.dK Y) q<|Ls<|aZ<|Y.take i) d (kV<|Sum.inr z) (some<|.bl b):=by
    rw[<-hv];exact .inl ⟨Y,Sum.inr z,.inr ⟨J,by rw[au<|CG nE,av]⟩,rfl,rfl⟩
   refine hU<|iu<|eU cj<|ae 3<|ae 5 ⟨d,.bl b,rfl,dg,b,rfl,?_⟩;have l7:=By (bY<|Y.take i) (show(Y.take i).length<=Y.length by rw[Bh];omega)
   by_cases hb:b=true
   ·rw[BP hb];intro cl C' æ ç ex;refine ae 5 ⟨_,av,by rw[Aa];exact bI (by omega),⟨_,rfl⟩,?_⟩;rw[pO,BP (show jB (.bl b)=true from hb)];exact IU
   ·rw[BK hb];refine⟨⟨_,rfl⟩,?_⟩;rw[BK (show ¬ jB (.bl b)=true from hb),Be]
  ·rintro a m ⟨_,rfl⟩;rw[Br];have l7:=bY Y;refine ax ⟨q,_,rfl,aj.of av,(by omega),λl C B db rO=>?_⟩;have Md:l≠q:=λe=>by rw[e,av]at B;cases B
   have Mf:l≠d:=λe=>by rw[e,au<|CG nE,av]at B;cases B
   have CA:s l=none:=by rwa[au Md,au Mf]at B
   have iw:H l=none:=rE.free CA;have Mg:H q=none:=rE.free Mb;have A5:ah H (upd (upd (upd s d<|.bB J<|.dK Y) q<|Ls<|aZ Y) l<|.lst<|C.map V.str):=λc o' hc=>by
    rw[au<|bh hc iw,au<|bh hc Mg,au<|bh hc pD];exact rE _ _ hc
   have Mh:(upd (upd (upd s d<|.bB J<|.dK Y) q<|Ls<|aZ Y) l<|.lst<|C.map V.str) l=some (Ls C):=av;generalize upd (upd (upd s d<|.bB J<|.dK Y) q<|Ls<|aZ Y) l (.lst<|C.map V.str)=H4 at A5 Mh ⊢;have nR:cD C:=tX rO<|db.nodup_iff.mpr<|k2x I.de xK;have key:=Sr N xJ h0 tl I nR λx=>by rw[db.mem_iff];exact BC I.de xK x
   refine bQ<|q19<|cH (vO hu)<|bG GC M<|ai<|ae 0<|ai<|ae 4<|ax ⟨R,l,as,n,C,rfl,hR.same A5,N,hn,ht,Mh,λL5 cs H5 s5 n5 e5 Mi m5 l5=>?_⟩;have ub:=A5.trans s5;refine ae 1 ⟨1,_,(by omega),tL e5<|ub _ _ hp,_,rfl,?_⟩
   by_cases dU:cs=r
   ·rw[BP<|BW dU];exact ae 4<|q1 l C H5 ub iw (s5 _ _ Mh)<|key.1 λz=>by rw[<-dU];exact m5 z
   ·rw[BK λh=>dU<|BX h];refine vi<|q2 H5 ub λfD gy=>?_;have e:=key.2 fD gy;subst e;exact dU<|A1 Mi rM λz=>(m5 z).trans (gy.cut z).symm
end
end Q1
namespace L2
open PySem PySem.Spec PyProof.Rows bK
variable{OK:Heap->Prop}{P:Nat->Value->Prop}{E:Î}{U:Program}
end L2
namespace L2
open PySem PySem.Spec PyProof.Rows
variable{tp:Pos}{elts:Ô}{K:aa}
def Mj(K:aa)(l:Addr):It:=
  ⟨λi H => ∃a x, aj K H l a ∧ a[i]?=some x,
   λi H v b=>∃T x,H T=none/\v=.ref T/\b=upd H T (.tup [.int (i:Int),x])/\∀a,aj K H l a->a[i]?=some x,
   λi H=>∃a,aj K H l a/\a.length<=i⟩
def Tu(m l:Addr)(i:Nat)(h:Heap):Prop:=(∃old,IsEnum h (m+1) m (i:Int) old)/\h.IsListIter m l i
theorem mx{P:Program}{w:World}{k:Nat}(m l:Addr):pi P w K (.Tuple elts k tp) (Mj K l) [m,m+1] (m+1) (Tu m l) where
 mem:=by simp
 obj:=λi h st c hc=>by
  obtain⟨⟨old,z1⟩,⟨o4,e4,c4,d4⟩⟩:=st;simp only[Al,Ch,FW]at hc
  obtain rfl|rfl:=hc
  ·exact⟨_,e4,λv z=>by rw[d4]at z;cases z⟩
  ·exact⟨_,z1,λv z=>by cases z⟩
 keep:=λi h h' st kp=>by
  obtain⟨⟨old,z1⟩,⟨o4,e4,r4⟩⟩:=st;exact⟨⟨old,kp _ (by simp) _ z1⟩,⟨o4,kp _ (by simp) _ e4,r4⟩⟩
 item:=by
  intro X hP hw hK hc i O s σ H E I hf st hg;subst hP hw hK;obtain⟨xs,x,fC,hx⟩:=hg;obtain⟨kG,m7,p1,qR⟩:=I.list fC;obtain⟨u1,cj,Jm⟩:=m7.get hx;obtain⟨⟨old,z1⟩,z4⟩:=id st;refine wpAny_pyNext_enum_item z1 z4 p1.isList (by simpa using cj) (by simp) λh' a1 a2 a3 a4 kp=>?_;have hT:=I.aF.fresh<|Am _;have nT:∀c∈[m,m+1],c≠s.heap.objs.size:=λc bu=>by
   have:∃o,s.heap.get? c=some o:=by
    obtain⟨o4,e4,_⟩:=z4;simp only[Al,Ch,FW]at bu
    obtain rfl|rfl:=bu
    ·exact⟨_,e4⟩
    ·exact⟨_,z1⟩
   obtain⟨o,e⟩:=this;exact Bi<|Ap e
  have I1:be X O σ (upd H s.heap.objs.size<|.tup [.int (i:Int),x]) {s with heap:=s.heap.push {cls:= .type "tuple",data:= .seq #[.int i s.toks,u1]},toks:=s.toks+1}:=
   I.laid (λb o e=>Ae _ e) (Am _) (show aB X.U X.w _ _ _ (.tup [.int (i:Int),x]) from⟨Z2,[.int i s.toks,u1],.cons ⟨_,rfl⟩<|.cons Jm .nil,⟨_,Ao _ rfl,rfl,_,rfl⟩⟩)
  have f1:∀ c∈[m,m+1],cr X O (upd H s.heap.objs.size<|.tup [.int (i:Int),x]) c:=λc bu=>⟨by rw[au<|nT c bu];exact(hf c bu).1,(hf c bu).2⟩;have qu:∀ c o,c∉[m,m+1]->(s.heap.push {cls:= .type "tuple",data:= .seq #[.int i s.toks,u1]}).get? c=some o->h'.get? c=some o:=λc o bu e=>by
   obtain⟨ec,eo⟩|e':=Gp e
   ·rwa[ec,eo]
   ·simp only[Al,Ch,FW,not_or]at bu;exact kp c o bu.2 bu.1 e'
  have I2:=be.bL (t':=s.toks+1) I1 f1 qu;refine⟨_,rfl,wpAny_letOwnedTupleGo_enum (s:={s with heap:=h',toks:=s.toks+1}) a1 λh2 b1 sb=>?_⟩;have AK:∀c o,c∉[m+1]->h'.get? c=some o->h2.get? c=some o:=λc o bu e=>(sb.2 c<|by simpa using bu).trans e;have I3:=be.bL (h':=h2) (t':=s.toks+1) I2 (ch:=[m+1]) (λc bu=>f1 c<|by simp at bu;simp[bu]) AK;refine⟨.ref s.heap.objs.size,_,I3,rfl,⟨_,x,hT,rfl,rfl,λzs hz=>by rw[I.cZ hz fC];exact hx⟩,?_,λc bu=>(f1 c bu).1⟩;obtain⟨o3,e3,r3⟩:=a2;exact⟨⟨u1,b1⟩,⟨o3,AK _ _ (by simp) e3,r3⟩⟩
 done:=by
  intro X hP hw hK hc i O s σ H E I hf st hg;subst hP hw hK;obtain⟨xs,fC,wa⟩:=hg;obtain⟨kG,m7,p1,qR⟩:=I.list fC;have l1:=m7.length;obtain⟨⟨old,z1⟩,z4⟩:=id st;refine wpAny_pyNext_enum_end (I.ok.hd hc) z1 z4 p1.isList (by simp;omega) λh' kp=>⟨rfl,I.bL (t':=s.toks) (ch:=[m,m+1]) hf λc o bu e=>?_⟩;simp only[Al,Ch,FW,not_or]at bu;exact kp c o bu.1 e
 self:=λ_ _ _ _ _ st h=>by
  obtain⟨⟨old,z1⟩,_⟩:=st;exact wpAny_pyIter_enum z1 h
variable{X:Cx}
def iZ(K:aa)(ta:TA):TI:=λc H R=>ta c H λd b=>∃a,d=[.ref a]/\(∃e,aj K b a e)/\R (Mj K a) b
theorem LM{k:Nat}{a:Expr}{ta:TA}{p pos:Pos}(l:Gl X "enumerate")(m:X.mg "enumerate" = none)(n:PA X [a] ta)(o:starEach [a] X.env=[(false,eval a X.env)]:=by rfl):
  PI X (.Tuple elts k tp) (.Call (.Name "enumerate" p) [a] [] pos) (iZ X.K ta):=by
 intro O s r H R I h;refine Call_<|oD I l m boot_enumerate<|IV (aN (n pos O s r H _ I h) λD c⟨E,t,f,v,w⟩=>?_) o rfl;obtain⟨x,e,⟨G,y⟩,q⟩:=w;subst e;obtain⟨u,rfl,z⟩:=v.one;cases (show u=Value.ref x from z);obtain⟨J,L,A,M⟩:=f.list y;refine call_enumerate_list A.isList λN i B Q C=>?_;refine wpAny_pyIter_enum i ?_;refine⟨c.heap.objs.size+1,[c.heap.objs.size,c.heap.objs.size+1],_,_,t,rfl,f.kept C,mx c.heap.objs.size x,⟨⟨_,i⟩,B⟩,λb j=>?_,q⟩;have d:c.heap.objs.size<=b:=by
  simp only[Al,Ch,FW]at j
  obtain rfl|rfl:=j<;>omega
 exact f.gF d<|f.aF.fresh d
theorem Vz(z:Str):∀zs:Ñ,countIn (.str z) (zs.map PyData.str)=(zs.count z:Int)
 |[]=>rfl
 |y :: r=>by
  rw[Bn,countIn,Vz z r,Dq];simp only[same]
  obtain a|a:=Bool.eq_false_or_eq_true (y == z)<;>simp only[a,Bb,DP,CV]<;>push_cast<;>omega
def kb(K:aa):V->List V->Hp->VK->Prop:=λx b H Q=>∃(l:Addr)(a:Ñ)(z:Str),x=.ref l/\b=[.str z]/\aj K H l (a.map V.str)/\Q (.int (a.count z:Int)) H
def VA:qd X "list.count" (kb X.K):=by
 intro O s i H x j v k Q I a b h;obtain⟨l,c,z,rfl,rfl,d,q⟩:=h;cases a;obtain⟨u,rfl,e⟩:=b.one;obtain⟨m,rfl⟩:=e;obtain⟨n,r,f,o⟩:=I.list d;refine count_list_strs f.isList (Ig r) ?_;rw[Vz];exact⟨.int (c.count z:Int),H,I.tok _,⟨_,rfl⟩,q⟩
variable{body:Õ}{tg:Expr}{Y:List (Key×V)}
section
variable{σ:St}{H:Hp}{D:mi}
def AS(b:TE):TI:=λσ H R=>b σ H λx a=>∃d o Y,x=.ref d/\a d=some (.bB o<|.dK Y)/\R (vY d o Y) a
def VC{l:Expr}{i:TE}(n:PE X l i):PI X tg l (AS i):=by
 intro O s σ H R I h;refine aN (n O s σ H _ I h) λv a⟨x,p,c,f,r⟩=>?_;obtain⟨d,o,Y,e,t,q⟩:=r;subst e;cases (show v=Value.ref d from f);obtain⟨u,z,w,E,rel,y⟩:=(show aB X.U X.w p a.heap d (.bB o<|.dK Y)from c.aF d _ t);obtain⟨A,B,j,k,f,m,C⟩:=y.dictAt;have:o=B:=Option.some.inj<|u.symm.trans k;subst this;refine wpAny_pyIter_dict w ⟨o,j,k,f,m,C⟩<|⟨a.heap.objs.size,[a.heap.objs.size],_,_,_,rfl,c.kept λb o e=>Ae _ e,Sv d _ o j A Y m,⟨_,Ao _ rfl,rfl,by rw[rel.length];rfl⟩,λb D=>?_,q⟩;have e:b=a.heap.objs.size:=by simpa using D
 subst e;exact c.gF (Am _)<|c.aF.fresh<|Am _
theorem VE{d:Addr}{o:Obj}{after:St->Hp->Prop}(Pv:Nat->St->Hp->Prop)(f:Pv 0 σ H)(h:∀i σ H,i<=Y.length->Pv i σ H->H d=some (.bB o<|.dK Y))
  (j:∀i p σ H,Y[i]?=some p->Pv i σ H->Eg X tg (kV p.1) σ H λa k=>ge X body {D with nx:=Pv<|i+1,ct:=Pv<|i+1,bk:=after} a k) (hd:∀σ H,Pv Y.length σ H->after σ H):uu X tg body (vY d o Y) D after σ H:=by
 refine⟨λi m σ H=>m=Y.length-i/\i<=Y.length/\Pv i σ H,⟨Y.length,by simp,Bu _,f⟩,?_⟩;rintro i m σ H ⟨rfl,l,p⟩;have q:=h i σ H l p
 by_cases c:i<Y.length
 ·refine .inr ⟨⟨q,c⟩,Pv<|i+1,λn r b=>⟨Y.length-(i+1),(by omega),rfl,c,b⟩,λx r y=>?_⟩;obtain⟨e,b,s,y⟩:=y;subst e y;exact j i b σ _ s p
 ·have e:i=Y.length:=(by omega)
  subst e;exact .inl ⟨⟨q,Am _⟩,hd σ H p⟩
end
end L2
namespace Q1
open PySem L2 Nt bD
open PyProof.Rows (sortedS)
open Classical
def ug:Sp:=λd H Q _=>∃R a as n b,d=[.ref R,.ref a]/\al H R as n/\n.length<=60/\(ag n).length<=1000/\H a=some (Ls b)/\∀c,ah H c->Q (.bl<|du n b) c
def dv(n:fo)(ss:Ñ):Prop:=du n ss=true/\∃a,bg n ss a
noncomputable def Mk:Sp:=λc H Q _=>∃R p as n a,c=[.ref R,.ref p]/\al H R as n/\aw n/\ce n/\0<n.length/\n.length<=60/\(ag n).length<=60/\H p=some (Ls a)/\cD a/\∀b,ah H b->Q (.bl<|decide (dv n a)) b
variable{Z:Heap}{mg:Ò}{K:aa}{ss:Ñ}{fd:FuncData}{f:Addr}
section
variable{P:Program}{w:World}
def Pf(n:fo)(ss:Ñ)(r:Str×List Str):du (n++[r]) ss=(du n ss && ((r.2.filter λz=>ss.contains z).length%2 == 0)):=by
 unfold du;rw[List.all_append];simp
theorem FA{n:fo}{i:Nat}(a:i<n.length)(h:¬((row n i).filter λz=>ss.contains z).length%2=0):du n ss=false:=by
 cases e:du n ss with
 |false=>rfl
 |true=>
  unfold du at e;have:=De.mp e n[i]<|Bp a;rw[JD,<-ic a]at this;exact absurd this h
def q41{X:Cx}{a:Expr}{pos:Pos}{σ:St}{H:Hp}{Q:VK}(h:Ev X a σ H λx b=>∃k,mB X.K x b k/\Q (.bl (!k)) b):Ev X (.UnaryOp .Not a pos) σ H Q:=by
 refine⟨λO s I=>PyProof.Rows.UnaryOp_<|aN (h.run O s I) λv e⟨x,b,f,i,k,j,l⟩=>?_⟩;exact PyProof.Rows.not_of<|aN (PD O e σ b x v (λc d=>Q (.bl (!c)) d) f i ⟨k,j,l⟩) λc o⟨d,m,n⟩=>⟨.bl (!c),d,m,rfl,n⟩
def jD(ss:Ñ)(r:Str×List Str):Bool:=(r.2.filter λz=>ss.contains z).length%2 == 0
def Ml:Sp:=λd H Q _=>∃R a as n ss,d=[.ref R,.ref a]/\al H R as n/\n.length<=60/\(ag n).length<=1000/\H a=some (Ls ss) /\
 ∀L c b,ah H b->H L=none->b L=some (Ls c)->c.Perm ((n.filter λr=>!jD ss r).map (·.1))->Q (.ref L) b
abbrev NR:Ñ:=["rows","some"]
abbrev Mm:Ñ:=["rows","some","point","ties"]
abbrev VI:Ñ:=["rows","some","point","ties","tie"]
def Qd:ak NR ["rows","some"] (aP iF):=bZ
def UF:ak NR ["rows","some"] (aP qD):=bZ
def xL:Mm.Nodup:=by decide +kernel
def vz:VI.Nodup:=by decide +kernel
def ry:Scope:=match gn iF with
 |[.Return (some<|.Call _ [.ListComp _ _ a _] _ _) _]=>a
 |_=>aP iF
def Mp:Scope:=relabel ry<|PyProof.Rows.envOfC "odd_points" (aP iF) 0 0 .none
theorem vG(F:bo K "odd_points" "odd_points" iF f fd)(T:Txt mg):aD P w K mg Z bz 1 f fd ["rows","some"] Ml:=by
 refine F.gc Qd λb0 H vs Q E hr h=>?_;obtain⟨R,a,as,n,ss,rfl,t,hn,Y,B,q⟩:=h;have b4:=t.len;refine bQ<|bP vM T.sorted CW<|ai<|gu (aP iF) NR Mm 2 (eB bd)<|ae 0 ⟨R,rfl,⟨_,aj.of t.lst⟩,λD G=>?_⟩;refine jS (xs:=as.map λa=>V.ref a.1) (λi e j=>(∃v1 I,e=[(some (.ref R)),(some (.ref a))]++[v1,I])/\j D=some (.lst<|((n.take i).filter λr=>!jD ss r).map λr=>V.str r.1)/\ah H j) ⟨⟨none,none,rfl⟩,av,aM G _⟩ ?_ ?_ ?_
 ·rintro i e j _ ⟨_,_,d⟩;exact aj.of<|d _ _ t.lst
 ·rintro i x e j A ⟨⟨v1,I,rfl⟩,k,d⟩;have J:i<n.length:=by
   have:=(Ac.mp A).1;rw[Aa]at this;omega
  obtain⟨b,eb,fA,et,L,er⟩:=(t.same d).at J;rw[Ah,eb]at A;cases A;have jU:(row n i).length<=1000:=By (ju n i) Y;have M:n.take (i+1)=n.take i++[n[i]]:=by rw[Bx,Ab J];rfl
  intro m N o p s;refine jT rfl (aS.of et) (a8 2 xL<|a8 3 xL ?_);intro m N o p s;refine hU<|cH jl<|aU cJ<|bP dH T.len DR<|ai<|gu Mp Mm VI 1 (eB bd)<|ae 3 ⟨b.2,rfl,⟨_,aj.of L⟩,λD2 u=>?_⟩;refine qO (λz=>ss.contains z) (bI<|(by omega)) L u (λm C o p s v v0 j R' h=>a8 4 vz h) (λm C o p s z ys T' h=>?_) (λm C o p s z j R' h=>ae 4 h) ?_
  ·refine hU (cH lN<|ae 4<|ae 1 ⟨a,_,rfl,.inl (aj.of<|by rw[au<|bh (d _ _ B) u];exact d _ _ B),rfl,kE _,_,rfl,?_⟩);show T' (j6 (.str z)<|ss.map V.str) _;rwa[kD]
  ·have Ö:=bh k u;have y:=aM u<|.lst<|((row n i).filter λz=>ss.contains z).map V.str;refine ax ⟨D2,_,rfl,.inl<|aj.of av,aE ⟨_,_,rfl,rfl,(by show(0:Int)<2;decide),aE ⟨rfl,_,rfl,?_⟩⟩⟩;have ek:decide (V.int ((((((row n i).filter λz=>ss.contains z).map V.str).length:Nat):Int)%2)=V.int 1) = !jD ss n[i]:=by
    unfold jD;rw[Aa,er]
    by_cases O:(n[i].2.filter λz=>ss.contains z).length%2=0
    ·rw[BR (λh=>by have:=V.int.inj h;omega),beq_iff_eq.mpr O];rfl
    ·rw[BW (BZ V.int<|(by omega)),beq_eq_false_iff_ne.mpr O];rfl
   show if decide (V.int ((((((row n i).filter λz=>ss.contains z).map V.str).length:Nat):Int)%2)=V.int 1)=true then _ else _;rw[ek];refine iq (λc=>?_) λc=>?_
   ·intro m N o p s;refine ae 2 ⟨_,y _ _ k,?_,⟨_,_,rfl⟩,?_,cX (d.trans y) G⟩
    ·rw[Aa];refine bI<|By (Cp ..) ?_;rw[Bh];omega
    ·rw[av,M,Ct,Aj];have:[n[i]].filter (λr=>!jD ss r)=[n[i]]:=by rw[TQ<|by simpa using c];rfl
     rw[this];rfl
   ·refine⟨⟨_,_,rfl⟩,?_,d.trans y⟩;rw[M,Ct];have:[n[i]].filter (λr=>!jD ss r)=[]:=by rw[List.filter_cons_of_neg<|by simpa using c];rfl
    rw[this,Be];exact y _ _ k
 ·rintro e j ⟨_,k,d⟩;rw[Aa,b4,Br]at k;have e2:((n.filter λr=>!jD ss r).map λr=>V.str r.1)=(((n.filter λr=>!jD ss r).map (·.1)).map V.str):=by rw[Cg];rfl
  rw[e2]at k;refine ax ⟨D,_,rfl,aj.of k,?_,λl zs U hp _=>?_⟩
  ·rw[Aa];exact QZ (Cp ..)<|(by omega)
  ·exact q l zs _ (d.trans<|aM U _) (jV d U) av hp
def Sy(F:bo K "is_round" "is_round" qD f fd)(T:Txt mg)
  (G:aQ P w K mg Z 1 "odd_points" ["rows","some"] Ml):aD P w K mg Z bz 2 f fd ["rows","some"] ug:=by
 refine F.gc UF λJ H M Q E b h=>?_;obtain⟨R,a,as,n,ss,rfl,i,j,k,l,q⟩:=h;refine bQ<|q41<|bG G b<|ai<|ae 0<|ai<|ae 1<|ax ⟨R,a,as,n,ss,rfl,i,j,k,l,λL d m o N p s=>?_⟩;refine⟨_,Or.inl ⟨_,aj.of p,rfl⟩,?_⟩;have e:(!(!(d.map V.str).isEmpty))=du n ss:=by
  rw[Bool.not_not];have t:(d.map V.str).isEmpty=(n.filter λr=>!jD ss r).isEmpty:=by
   have u:=s.length_eq;rw[Aa]at u;have v:∀{A B:Type}(x:List A)(y:List B),x.length=y.length->x.isEmpty=y.isEmpty:=λx y h=>by cases x<;>cases y<;>simp_all
   exact v _ _<|by rwa[Aa]
  rw[t];unfold du;cases c:(n.filter λr=>!jD ss r).isEmpty with
  |true=>
   have C:=List.isEmpty_iff.mp c;refine(De.mpr λr b=>?_).symm;have:=Ec.mp C r b
   simpa[jD]using this
  |false=>
   cases D:n.all λr=>(r.2.filter λz=>ss.contains z).length%2 == 0 with
   |false=>rfl
   |true=>
    exfalso
    have I:(n.filter λr=>!jD ss r)=[]:=Ec.mpr λr b=>by
     have:=De.mp D r b;unfold jD;rw[this];simp
    rw[I]at c;cases c
 rw[e];exact q m o
def Mq:ak ["rows","some"] ["rows","some"] (aP IC):=bZ
theorem tE(F:bo K "is_double" "is_double" IC f fd)(T:Txt mg)
  (s:aQ P w K mg Z 3 "is_round" ["rows","some"] ug)
  (t:aQ P w K mg Z 3 "side_of" ["rows","some"] LX):
  aD P w K mg Z bz 4 f fd ["rows","some"] Mk:=by
 refine F.gc Mq λC H D Q E l h=>?_;obtain⟨R,p,as,n,ss,rfl,m,u,v,x,o,y,r,z,q⟩:=h;refine bQ (F6<|bG s l<|ai<|ae 0<|ai<|ae 1<|ax ⟨R,p,as,n,ss,rfl,m,o,(by omega),r,λA a=>⟨_,rfl,?_⟩⟩);cases b:du n ss with
 |false=>
  rw[BK<|(by decide)];have e:decide (dv n ss)=false:=BR λk=>by rw[k.1]at b;cases b
  rw[<-e];exact q A a
 |true=>
  rw[BP rfl];refine F7<|hG Y6<|bG t l<|ai<|ae 0<|ai<|ae 1<|ax ⟨R,p,as,n,ss,rfl,m.same a,u,v,x,o,y,a _ _ r,z,λL c d i G I j=>vi ⟨rfl,?_⟩,λd i B=>vi ⟨rfl,?_⟩⟩
  ·have e:decide (dv n ss)=true:=BW ⟨b,c,j⟩;rw[BR (λk=>by cases k),Gx,<-e];exact q d<|a.trans i
  ·have e:decide (dv n ss)=false:=BR λk=>by
    obtain⟨_,c,j⟩:=k;exact B c j
   rw[BW rfl,Eb,<-e];exact q d<|a.trans i
open PyProof.Rows (sortedS)
def Mt:Sp:=λf H Q _=>∃a b d c,f=[.ref a,.ref b]/\H a=some (Ls d)/\H b=some (Ls c)/\d.length+c.length<64/\d.Nodup/\c.Nodup /\
 ∀l ss e,ah H e->H l=none->e l=some (Ls ss)->cD ss->(∀z,z∈ss↔(if z∈d then z∉c else z∈c))->Q (.ref l) e
abbrev VM:Ñ:=["_law_rows","_law_some","_law_point","_law_names_here"]
abbrev xM:Ñ:=["_law_rows","_law_some","_law_point","_law_names_here","_law_tie"]
def xN:ak VM ["_law_rows","_law_some"] (aP z8):=bZ
def TW:xM.Nodup:=by decide +kernel
theorem fy(F:bo K "_law_even" "_law_even" z8 f fd)(T:Txt mg):aD P w K mg Z bz 1 f fd ["_law_rows","_law_some"] ug:=by
 refine F.gc xN λb0 H vs Q E hr h=>?_;obtain⟨R,a,as,n,ss,rfl,l,hn,N,B,q⟩:=h;have nd:=xN.nd;have O:=l.len;refine lS<|ae 0 ⟨R,rfl,⟨_,aj.of l.lst⟩,lT (xs:=as.map λa=>V.ref a.1) (λi m d=>ah H d/\du (n.take i) ss=true/\∃u v,m=[(some (.ref R)),(some (.ref a)),u,v]) ⟨ah.refl H,rfl,_,_,rfl⟩ ?_ ?_ ?_⟩
 ·rintro i m d _ ⟨c,_,_,_,_⟩;exact aj.of<|c _ _ l.lst
 ·rintro i x m d t ⟨c,o,u,v,rfl⟩;have p:i<n.length:=by
   have:=(Ac.mp t).1;rw[Aa]at this;omega
  obtain⟨b,U,fA,Y,G,er⟩:=(l.same c).at p;rw[Ah,U]at t;cases t;have jU:(row n i).length<=1000:=By (ju n i) N;refine jT rfl (aS.of Y) (a8 2 nd<|a8 3 nd ?_);refine RF (λk r=>ah d r/\k=decide (((row n i).filter λz=>ss.contains z).length%2=1)) (λj s=>ah H s/\du (n.take<|i+1) ss=true/\∃u v,j=[(some (.ref R)),(some (.ref a)),u,v]) ?_ ?_ ?_ λj s h=>a7 h
  ·refine cH jl<|aU cJ<|bP dH T.len DR<|ai<|gu (aP z8) VM xM 1 (eB bd)<|ae 3 ⟨b.2,rfl,⟨_,aj.of G⟩,λD y=>?_⟩;refine qO (σ:=[(some (.ref R)),(some (.ref a)),some<|.str n[i].1,some<|.ref b.2]) (λz=>ss.contains z) (bI<|(by omega)) G y (λI C J L M v v0 s R' h=>a8 4 TW h) (λI C J L M z ys T' h=>?_) (λI C J L M z s R' h=>ae 4 h) ?_
   ·refine hU (cH lN<|ae 4<|ae 1 ⟨a,_,rfl,.inl (aj.of<|by rw[au<|bh (c _ _ B) y];exact c _ _ B),rfl,kE _,_,rfl,?_⟩);show T' (j6 (.str z)<|ss.map V.str) _;rwa[kD]
   ·refine ax ⟨D,_,rfl,.inl<|aj.of av,aE ⟨_,_,rfl,rfl,(by show(0:Int)<2;decide),aE ⟨rfl,_,rfl,aM y _,?_⟩⟩⟩;rw[Aa];refine decide_eq_decide.mpr ⟨λh=>?_,λh=>?_⟩
    ·have:=V.int.inj h;omega
    ·have:((((row n i).filter λz=>ss.contains z).length:Int))%2=1:=(by omega)
     exact BZ V.int this
  ·rintro r ⟨A,e⟩;have hb:=BX e.symm;refine bQ<|sX ?_;rw[<-FA (ss:=ss) p<|(by omega)];exact q r<|c.trans A
  ·rintro r ⟨A,e⟩;have hb:=GJ e.symm;refine a7 ⟨c.trans A,?_,_,_,rfl⟩;rw[Bx,Ab p];show du (n.take i++[n[i]]) ss=true;rw[Pf,o,<-ic p,Gz,JD];omega
 ·rintro m d ⟨c,o,u,v,rfl⟩;rw[Aa,O,Br]at o;refine bQ<|sX ?_;rw[<-o];exact q d c
abbrev Mu:Ñ:=["_law_one","_law_other_here","_law_first","_law_second"]
abbrev rP:Ñ:=["_law_one","_law_other_here","_law_first","_law_second","_law_x"]
def xO:ak Mu ["_law_one","_law_other_here"] (aP vV):=bZ
def VO:rP.Nodup:=by decide +kernel
theorem k9(F:bo K "_law_sum" "_law_sum" vV f fd)(T:Txt mg):aD P w K mg Z bz 1 f fd ["_law_one","_law_other_here"] Mt:=by
 refine F.gc xO λb0 H vs Q E hr h=>?_;obtain⟨a,b,c,d,rfl,t,O,hl,nx,ny,q⟩:=h;have nd:=xO.nd;refine tj 2 (aP vV) Mu rP 1 nd (eB bd)<|ae 0 ⟨a,rfl,⟨_,aj.of t⟩,λD u=>?_⟩;refine qO (λz=>!d.contains z) (bI<|(by omega)) t u (λj C m n o v v0 A B h=>a8 4 VO h) (λj C m n o z zs G h=>hU<|cH E4<|ae 4<|ae 1 ⟨b,_,rfl,.inl (aj.of<|by rwa[au<|bh O u]),rfl,kE _,_,rfl,?_⟩) (λj C m n o z A B h=>ae 4 h) ?_
 ·show G (!j6 (.str z) (d.map V.str)) _;rwa[kD]
 have r:=aM u<|.lst<|(c.filter λz=>!d.contains z).map V.str;have p:(upd H D<|.lst<|(c.filter λz=>!d.contains z).map V.str) D=some (Ls<|c.filter λz=>!d.contains z):=av;generalize upd H D (.lst<|(c.filter λz=>!d.contains z).map V.str)=U at r p;have I:=r _ _ t;have Y:=r _ _ O;refine tj 3 (aP vV) Mu rP 1 nd (eB bd)<|ae 1 ⟨b,rfl,⟨_,aj.of Y⟩,λs J=>?_⟩;refine qO (λz=>!c.contains z) (bI<|(by omega)) Y J (λj C m n o v v0 A B h=>a8 4 VO h) (λj C m n o z zs G h=>hU<|cH E4<|ae 4<|ae 0 ⟨a,_,rfl,.inl (aj.of<|by rwa[au<|bh I J]),rfl,kE _,_,rfl,?_⟩) (λj C m n o z A B h=>ae 4 h) ?_
 ·show G (!j6 (.str z) (c.map V.str)) _;rwa[kD]
 have M:=aM J<|.lst<|(d.filter λz=>!c.contains z).map V.str;have pJ:(upd U s<|.lst<|(d.filter λz=>!c.contains z).map V.str) s=some (Ls<|d.filter λz=>!c.contains z):=av;have p:=M _ _ p;generalize upd U s (.lst<|(d.filter λz=>!c.contains z).map V.str)=H2 at M pJ p;have f1:=Cp (λz=>!d.contains z) c;have f2:=Cp (λz=>!c.contains z) d;have N:((c.filter λz=>!d.contains z)++(d.filter λz=>!c.contains z)).Nodup:=Cj.mpr ⟨nx.filter _,ny.filter _,λx hx y hy e=>by
  rw[Bg]at hx hy;subst e;have:=hy.2;simp[hx.1]at this⟩
 have i:∀z,z∈(c.filter λz=>!d.contains z)++(d.filter λz=>!c.contains z)↔(if z∈c then z∉d else z∈d):=λz=>by
  rw[An,Bg,Bg]
  by_cases q1:z∈c<;>by_cases q2:z∈d<;>simp[q1,q2]
 refine bQ<|bP vM T.sorted CW<|ai<|aU yW<|ae 2<|ae 3 ⟨D,s,_,_,rfl,rfl,p,pJ,?_,λl g9=>?_⟩
 ·rw[Aa,Aa];exact r9<|(by omega)
 rw[<-Aj];generalize (c.filter λz=>!d.contains z)++(d.filter λz=>!c.contains z)=L at N i g9 ⊢;have s3:=M.trans<|aM g9<|Ls L;have lL:L.length<64:=by
  have:=aI N λz hz=>by
   have:=(i z).mp hz;rw[An]
   by_cases k:z∈c
   ·exact .inl k
   ·rw[BK k]at this;exact .inr this
  rw[Ad]at this;omega
 refine ax ⟨l,L,rfl,aj.of av,lL,λl4 ss uh db gP=>?_⟩;have s4:=r.trans s3;exact q l4 ss _ (s4.trans<|aM uh _) (s4.free uh) av (tX gP<|db.nodup_iff.mpr N) λz=>by rw[db.mem_iff];exact i z
end
end Q1
namespace Nt
open PySem L2
theorem VQ(x:Str):∀{f},cD f->∃b,cD b/\∀y,y∈b↔y=x\/y∈f
 |[],_=>⟨[x],TJ _ _,λy=>by simp⟩
 |a :: r,h=>by
  have c:=Do.mp h
  by_cases q:x.cps.toList<a.cps.toList
  ·refine⟨x :: a :: r,Do.mpr ⟨λy d=>?_,h⟩,λy=>by simp⟩
   obtain e|e:=Al.mp d
   ·rwa[e]
   ·exact Gm q<|c.1 y e
  ·obtain i|i:=Gq.mp (List.not_lt.mp q)
   ·obtain⟨b,k,j⟩:=VQ x c.2;refine⟨a :: b,Do.mpr ⟨λy d=>?_,k⟩,λy=>?_⟩
    ·obtain e|e:=(j y).mp d
     ·rwa[e]
     ·exact c.1 y e
    ·rw[Al,j,Al]
     constructor
     ·rintro (e|e|e)
      ·exact .inr<|.inl e
      ·exact .inl e
      ·exact .inr<|.inr e
     ·rintro (e|e|e)
      ·exact .inr<|.inl e
      ·exact .inl e
      ·exact .inr<|.inr e
   ·refine⟨a :: r,h,λy=>?_⟩;have:a=x:=bK.fX i;subst this;simp
theorem Mw:∀L:Ñ,∃a,cD a/\∀y,y∈a↔y∈L
 |[]=>⟨[],List.Pairwise.nil,λ_=>WM⟩
 |x :: L=>by
  obtain⟨a,b,c⟩:=Mw L;obtain⟨d,e,f⟩:=VQ x b;exact⟨d,e,λy=>by rw[f,c,Al]⟩
abbrev vB(b:Bool):V:= .int (if b then 1 else 0)
variable{b:Bool}
def Mx{c:Bool}(h:vB b=vB c):b=c:=by
 cases b<;>cases c<;>first|rfl|(exact absurd (V.int.inj h)<|(by decide))
structure gC(n:fo)(ss:Ñ)(Y:List<|Key×V):Prop where
 de:(Y.map (·.1)).Nodup
 num:∀k∈Y.map (·.1),∃r:Nat,k=Sum.inl (r:Int)/\r<n.length
 val:∀(r:Nat)v,ao Y (Sum.inl (r:Int))=some v->∃b,v=vB b/\Way (dE n ss) (bn n) (aH n r) b
 fst:ao Y (Sum.inl ((0:Nat):Int))=some (vB false)
variable{ss:Ñ}{n:fo}
theorem gC.start(b:0<n.length):gC n ss (putK [] (Sum.inl 0)<|.int 0):=by
 have a:∀r:Nat,ao (putK ([]:List<|Key×V) (Sum.inl 0)<|.int 0) (Sum.inl (r:Int))=if r=0 then some (.int 0)else none:=λr=>by
  rw[dC]
  by_cases h:r=0
  ·subst h;rfl
  ·rw[BK h,BK λq=>h<|by have:=Sum.inl.inj q;omega];rfl
 refine⟨by show([Sum.inl 0]:List Key).Nodup;simp,λk d=>⟨0,by simpa[putK]using d,b⟩,λr v h=>?_,(a 0).trans<|BP rfl⟩;rw[a]at h
 by_cases c:r=0
 ·rw[BP c]at h;cases h;subst c;exact⟨false,rfl,.here⟩
 ·rw[BK c]at h;cases h
variable{Y:List (Key×V)}
def gC.len(I:gC n ss Y):Y.length<=n.length:=by
 have:=aI I.de λk a=>by
  obtain⟨r,e,h⟩:=I.num k a;exact Ai.mpr ⟨r,Bc.mpr h,e.symm⟩
 rwa[Aa,Aa,Cy]at this
variable{z:Str}{e:ff}
def gC.way(I:gC n ss Y)(a:aJ n e=some z)(c:ao Y (Sum.inl (e.1:Int))=some (vB b)):Way (dE n ss) (bn n) (aH n (other n e).1) (b != decide (z∈ss)):=by
 obtain⟨d,q,w⟩:=I.val e.1 _ c;have:=Mx q;subst this
 obtain t|t:=(wC).to e z a
 ·exact .there w t
 ·exact .back w t
def gC.add(T:aw n)(I:gC n ss Y)(f:aJ n e=some z)(i:ao Y (Sum.inl (e.1:Int))=some (vB b))(h:ao Y (Sum.inl ((other n e).1:Int))=none):
  gC n ss (putK Y (Sum.inl ((other n e).1:Int))<|vB<|b != decide (z∈ss))/\(putK Y (Sum.inl ((other n e).1:Int))<|vB<|b != decide (z∈ss)).length=Y.length+1:=by
 have w:=I.way f i;have j:=pj T f;have d:=PP h;refine⟨⟨?_,λk c=>?_,λr v a=>?_,?_⟩,?_⟩
 ·rw[tV,BK d];exact lQ I.de d
 ·rw[tV,BK d]at c
  obtain c|c:=An.mp c
  ·exact I.num k c
  ·exact⟨_,Af.mp c,j⟩
 ·rw[dC]at a
  by_cases q:r=(other n e).1
  ·rw[BP<|by rw[q]]at a;cases a;exact⟨_,rfl,by rwa[q]⟩
  ·rw[BK<|x1l q]at a;exact I.val r v a
 ·have a:=I.fst;rwa[dC,BK λq=>by rw[q,h]at a;cases a]
 ·have:=BZ List.length<|tV Y (Sum.inl ((other n e).1:Int))<|vB<|b != decide (z∈ss);rwa[BK d,Ad,Aa,Aa]at this
def rQ(n:fo)(Y:List<|Key×V)(z:Str):Prop:=∀e,aJ n e=some z->ao Y (Sum.inl (e.1:Int))≠none->ao Y (Sum.inl ((other n e).1:Int))≠none
def gC.all(T:aw n)(w:ce n)(d:0<n.length)(m:(n.map (·.1)).Nodup)(I:gC n ss Y)(y:∀z∈ag n,rQ n Y z):∀r,r<n.length->∃b,ao Y (Sum.inl (r:Int))=some (vB b):=λr c=>by
 have one:∀i,ao Y (Sum.inl ((i:Nat):Int))≠none->∃b,ao Y (Sum.inl (i:Int))=some (vB b):=λi a=>by
  obtain⟨v,o⟩:=Option.ne_none_iff_exists'.mp a;obtain⟨b,e,_⟩:=I.val i v o;exact⟨b,by rw[o,e]⟩
 refine one r ?_;have:=w (λx=>∃i,i<n.length/\aH n i=x/\ao Y (Sum.inl ((i:Nat):Int))≠none) ⟨n[0],Bp d,0,d,gW d,by rw[I.fst];exact λz=>nomatch z⟩ (λr c s A t B C⟨i,a,e,f⟩=>?_) n[r]<|Bp c
 ·obtain⟨i,a,e,f⟩:=this;rw[<-gW c]at e;rwa[<-tZ m a c e]
 ·obtain⟨k,u,rfl⟩:=Co.mp c;obtain⟨j,h,rfl⟩:=Co.mp A;rw[<-gW u]at e;have:=tZ m a u e;subst this;obtain⟨p,E⟩:=Bj B;obtain⟨q,G⟩:=Bj C;have l:aJ n (i,p)=some t:=by show(row n i)[p]?=_;rwa[ic a]
  have D:aJ n (j,q)=some t:=by show(row n j)[q]?=_;rwa[ic h]
  refine⟨j,h,gW h,?_⟩
  obtain e|e:=(iH T l).mp D
  ·have:j=i:=BZ (·.1) e;subst this;exact f
  ·have:=y t (eG l) (i,p) l f;rwa[<-e]at this
def gC.bad(T:aw n)(I:gC n ss Y){c:Bool}(h:aJ n e=some z)(i:ao Y (Sum.inl (e.1:Int))=some (vB b))(j:ao Y (Sum.inl ((other n e).1:Int))=some (vB c))
  (k:(b != c)≠decide (z∈ss)):∀a,¬ bg n ss a:=λa d=>by
 obtain⟨m,q,w⟩:=I.val _ _ j;have:=Mx q;subst this;have l:=A2 T wC d w;have f:=A2 T wC d<|I.way h i;rw[l]at f;apply k;rw[f];cases b<;>cases decide (z∈ss)<;>rfl
def gC.whole(T:aw n)(v:(n.map (·.1)).Nodup)(w:0<n.length)(I:gC n ss Y)(D:∀r,r<n.length->∃b,ao Y (Sum.inl (r:Int))=some (vB b))(y:∀z∈ss,z∈ag n)
  (A:∀z∈ag n,∃e b c,aJ n e=some z/\ao Y (Sum.inl (e.1:Int))=some (vB b)/\ao Y (Sum.inl ((other n e).1:Int))=some (vB c)/\(b != c)=decide (z∈ss)):∃d,bg n ss d:=by
 obtain⟨d,B,s⟩:=Mw<|((range n.length).filter λ(r:Nat)=>decide (ao Y (Sum.inl (r:Int))=some (vB true))).map<|aH n;have a:∀r,r<n.length->∀b,ao Y (Sum.inl (r:Int))=some (vB b)->decide (aH n r∈d)=b:=λr t b j=>by
  have:aH n r∈d↔b=true:=by
   rw[s,Ai]
   constructor
   ·rintro ⟨i,f,e⟩;rw[Bg,Bc]at f;have:=tZ v f.1 t e;subst this;have u:=BX f.2;rw[j]at u;exact Mx<|Option.some.inj u
   ·intro e;subst e;exact⟨r,Bg.mpr ⟨Bc.mpr t,BW j⟩,rfl⟩
  by_cases q:b=true
  ·rw[q];exact BW<|this.mpr q
  ·rw[Bool.not_eq_true]at q;rw[q];exact BR λk=>by rw[this.mp k]at q;cases q
 refine⟨d,B,λx l=>?_,λl=>?_,λz=>?_⟩
 ·obtain⟨i,f,rfl⟩:=Ai.mp<|(s x).mp l;exact iI<|Bc.mp (Bg.mp f).1
 ·have:=a 0 w false I.fst;exact absurd l<|GJ this
 ·by_cases m:z∈ag n
  ·obtain⟨e,b,c,o,j,C,p⟩:=A z m;rw[kS T o,a _ (cS o) b j,a _ (pj T o) c C,p];exact⟨λh=>BW h,λh=>BX h⟩
  ·exact⟨λh=>absurd (y z h) m,λh=>absurd (wB h) m⟩
end Nt
namespace L2
open PySem PySem.Spec PyProof.Rows
section
variable{X:Cx}{σ:St}{H:Hp}{D:mi}{body rest:Õ}{a b:Expr}
def qz(i j:Nat){x y:Str}{c py pt pos:Pos}{d k2:Nat}{e:Pos}(f:X.N.Nodup)(k:i≠j)(h:Ea X [a,b] σ H λvs l=>∃v w,vs=[v,w]/\ge X rest D ((σ.set i<|some v).set j<|some w) l)
  (m:X.N[i]?=some x:=by rfl) (n:X.N[j]?=some y:=by rfl) (o:X.env.scope.names.lookup x=some .local:=by rfl) (p:X.env.scope.names.lookup y=some .local:=by rfl) (q:X.calm=true:=by rfl)
  (r:swappedStores [.Tuple [.Name x c,.Name y py] d pt] (.Tuple [a,b] k2 e) X.env=pure (some [x,y]):=by rfl)
  (s:swapsWithSole [.Tuple [.Name x c,.Name y py] d pt] (.Tuple [a,b] k2 e) pos.line X.env=pure false:=by rfl):
  ge X (.Assign [.Tuple [.Name x c,.Name y py] d pt] (.Tuple [a,b] k2 e) pos :: rest) D σ H:=
 jL (YD q f m n k o p gL r s) h
end
end L2
namespace Q1
open PySem L2 Nt bD
open PyProof.Rows (sortedS)
structure lj(H:Hp)(d:Addr)(o:Obj)(n:fo)(ks:Ñ):Prop where
 dict:∃Y,H d=some (.bB o<|.dK Y)/\Y.map (·.1)=ks.map Sum.inr/\∀z∈ag n,∃a ts,ao Y (Sum.inr z)=some (.ref a)/\H a=some (.lst<|ts.map V.ref)/\Pd H ts (pos n z)
 nodup:ks.Nodup
 mem:∀z,z∈ks↔z∈ag n
def Rp{n:fo}(T:aw n){z:Str}(h:z∈ag n):∃x,aJ n x=some z/\aJ n (other n x)=some z/\pos n z=[x,other n x]:=by
 rw[eV]at h;obtain⟨e,i⟩:=Es _ h;obtain⟨a,b,c,j,_⟩:=qB T<|aK.mp i;have d:=aK.mp (by rw[c];exact Ag ..);have f:aJ n b=some z:=aK.mp (by rw[c];simp);have e:b=other n a:=by
  obtain q|q:=(iH T d).mp f
  ·exact absurd q.symm j
  ·exact q
 subst e;exact⟨a,d,f,c⟩
def My:Sp:=λe H Q _=>∃R d p as n b f h,e=[.ref R,.ref d,.ref p]/\al H R as n/\lj H d h n f/\aw n/\ce n/\(n.map (·.1)).Nodup/\0<n.length/\n.length<=60/\H p=some (Ls b)/\(∀z∈b,z∈ag n) /\
 (∀L a,ah H a->(∃c,bg n b c)->Q (.ref L) a)/\(∀a,ah H a->(∀c,¬ bg n b c)->Q .non a)
variable{Z:Heap}{mg:Ò}{K:aa}{ks:Ñ}{iQ:List (Key×V)}{fd:FuncData}{f:Addr}
section
variable{P:Program}{w:World}
abbrev VS:Ñ:=["_law_rows","_law_seats_here","_law_some","_law_side_here","_law_more","_law_tie","_law_one","_law_other_here"]
abbrev xP:Ñ:=["_law_rows","_law_seats_here","_law_some","_law_side_here","_law_more","_law_tie","_law_one","_law_other_here","_law_r"]
def xQ:ak VS ["_law_rows","_law_seats_here","_law_some"] (aP z7):=bZ
def O7:xP.Nodup:=by decide +kernel
def VU(c:iQ.map (·.1)=ks.map Sum.inr){i:Nat}{a:Key×V}(h:iQ[i]?=some a):∃z,ks[i]?=some z/\a.1=Sum.inr z:=by
 have b:(iQ.map (·.1))[i]?=some a.1:=by rw[Ah,h];rfl
 rw[c,Ah,Ar]at b;obtain⟨z,d,e⟩:=b;exact⟨z,d,e.symm⟩
def uB(b c:Bool):((if b then(1:Int)else 0)+(if c then 1 else 0))%2=if(b != c)then 1 else 0:=by cases b<;>cases c<;>decide
set_option tactic.hygienic true in
theorem yH(F:bo K "_law_side" "_law_side" z7 f fd)(T:Txt mg):aD P w K mg Z bz 1 f fd ["_law_rows","_law_seats_here","_law_some"] My:=by
 refine F.gc xQ λb0 H vs Q E hr h=>?_;obtain⟨R,d,p,as,n,A,ks,ob,rfl,hR,hS,hT,xJ,CD,h0,hn,hp,rM,q1,q2⟩:=h;have nd:=xQ.nd;have t:=hr.u1;have b4:=hR.len;obtain⟨iQ,ed,ek,ev⟩:=hS.dict;have xR:∀{l:Hp}{z:Str},ah H l->z∈ag n->∃x a N ty,aJ n x=some z/\aJ n (other n x)=some z/\aX l d (.str z) ((some (.ref a)))/\l a=some (.lst [.ref N,.ref ty])/\l N=some (Tp x)/\l ty=some (Tp<|other n x):=λ{l z}sm G=>by
  obtain⟨x,O,lg,hp⟩:=Rp hT G;obtain⟨a,ts,v1,v2,v3⟩:=ev z G;rw[hp]at v3;cases v3 with
  |cons x1 v3=>
  cases v3 with
  |cons y1 v3=>
  cases v3;rename_i N ty;exact⟨x,a,N,ty,O,lg,by rw[<-v1];exact .inl ⟨iQ,Sum.inr z,.inr ⟨ob,sm _ _ ed⟩,rfl,rfl⟩,sm _ _ v2,sm _ _ x1,sm _ _ y1⟩
 refine aT 3 nd<|Vn t λr Ö=>aE<|aE ⟨_,bX.k (k:=Sum.inl 0) av<|bI<|Bu _,?_⟩;rw[pO];refine aT 4 nd<|sX ?_;have s0:ah H (upd H r<|.dK<|putK [] (Sum.inl 0)<|.int 0):=aM Ö _;have e0:(upd H r<|.dK<|putK [] (Sum.inl 0)<|.int 0) r=some (.dK<|putK [] (Sum.inl 0)<|.int 0):=av;generalize upd H r (.dK<|putK [] (Sum.inl 0)<|.int 0)=H0 at s0 e0;refine vP (λm J l=>∃Y s u5 u6 u7,ah H l/\l r=some (.dK Y)/\gC n A Y/\(s=false->∀ z∈ag n,rQ n Y z)/\m=2 * (n.length - Y.length)+(if s then 1 else 0) /\
   J=[(some (.ref R)),(some (.ref d)),(some (.ref p)),(some (.ref r)),some<|.bl s,u5,u6,u7])
  ⟨_,true,_,_,_,s0,e0,gC.start h0,λz=>(nomatch z),rfl,rfl⟩ ?_
 rintro m J H2 ⟨Y,s,u5,u6,u7,L,e2,I,sh,em,rfl⟩;refine iu<|ae 4 ⟨s,rfl,?_⟩;cases s with
 |true=>
  rw[BP rfl];refine aT 4 nd<|sX ?_;refine sZ (VC bd)<|ae 1 ⟨d,ob,iQ,rfl,L _ _ ed,VE (λi J l=>∃o s u5 u6 u7,ah H l/\l r=some (.dK o)/\gC n A o/\Y.length<=o.length/\(s=true->Y.length < o.length)/\(s=false->o=Y/\∀ j,j < i->∀ z,ks[j]?=some z->rQ n Y z) /\
    J=[(some (.ref R)),(some (.ref d)),(some (.ref p)),(some (.ref r)),some<|.bl s,u5,u6,u7]) ⟨Y,false,_,_,_,L,e2,I,Am _,λz=>(nomatch z),λ_=>⟨rfl,λj M=>absurd M<|Eh _⟩,rfl⟩ ?_ ?_ ?_⟩
  ·rintro i J l _ ⟨o,s,v5,v6,v7,s3,_⟩;exact s3 _ _ ed
  ·rintro i pr J H3 nQ ⟨o,s,v5,v6,v7,s3,U,I3,hl,Mz,MA,rfl⟩;obtain⟨z,G,MB⟩:=VU ek nQ;rw[MB];have cU:=(hS.mem z).mp<|At G;obtain⟨x,a,N,ty,O,lg,dg,ea,MC,MD⟩:=xR s3 cU;refine a8 5 nd<|aT 6 nd<|bb cv<|bb cL<|eU t<|ae 1<|ae 5 ⟨d,.ref a,rfl,dg,aE ⟨a,_,_,.ref N,rfl,rfl,aj.of ea,rfl,aE ⟨N,_,_,.int (x.1:Int),rfl,rfl,aS.of MC,rfl,?_⟩⟩⟩;refine aT 7 nd<|bb cv<|bb cL<|eU t<|ae 1<|ae 5 ⟨d,.ref a,rfl,dg,aE ⟨a,_,_,.ref ty,rfl,rfl,aj.of ea,rfl,aE ⟨ty,_,_,.int ((other n x).1:Int),rfl,rfl,aS.of MD,rfl,?_⟩⟩⟩;refine Ii (ao o (Sum.inl (x.1:Int))=none/\ao o (Sum.inl ((other n x).1:Int))≠none) (ao o (Sum.inl (x.1:Int))=none->ao o (Sum.inl ((other n x).1:Int))=none)
    (λB l=>l=H3/\∃e,aJ n e=some z/\aJ n (other n e)=some z/\other n (other n e)=e/\(ao o (Sum.inl (e.1:Int))=none->ao o (Sum.inl ((other n e).1:Int))=none)/\B=[(some (.ref R)),(some (.ref d)),(some (.ref p)),(some (.ref r)),some<|.bl s,some<|.str z,some<|.int (e.1:Int),some<|.int ((other n e).1:Int)]) (λT' qq=>?_) (λc=>?_) (λc=>a7 ⟨rfl,x,O,lg,(dk hT O).2.1,c,rfl⟩) ?_
   ·refine mQ<|zg<|Io t<|ae 6<|ae 3 ⟨r,_,rfl,aX.k (k:=Sum.inl (x.1:Int)) U,?_⟩;cases hg:ao o (Sum.inl (x.1:Int)) with
    |none=>
     refine cz ?_;refine zh<|zH t<|ae 7<|ae 3 ⟨r,_,rfl,aX.k (k:=Sum.inl ((other n x).1:Int)) U,?_⟩;cases rR:ao o (Sum.inl ((other n x).1:Int)) with
     |none=>exact qq false (λz=>nomatch z) λ_ _=>rR
     |some v=>exact qq true (λ_=>⟨hg,by rw[rR];exact λz=>nomatch z⟩) λz=>nomatch z
    |some v=>
     refine bH ?_;exact qq false (λz=>nomatch z) λ_ k=>by rw[hg]at k;cases k
   ·refine qz 6 7 nd (by decide)<|ai<|ae 7<|ai<|ae 6<|ax ⟨_,_,rfl,?_⟩;have oo:=(dk hT O).2.1;exact a7 ⟨rfl,other n x,lg,by rwa[oo],by rw[oo],λk=>absurd k c.2,by rw[oo];rfl⟩
   rintro B l ⟨rfl,e,qW,Ø,oo,bA,rfl⟩;refine vq (ao o (Sum.inl (e.1:Int))≠none/\ao o (Sum.inl ((other n e).1:Int))=none) (¬(ao o (Sum.inl (e.1:Int))≠none/\ao o (Sum.inl ((other n e).1:Int))=none)) (λT' qq=>?_) (λc=>?_) λc=>?_
   ·refine mQ<|zg<|zH t<|ae 6<|ae 3 ⟨r,_,rfl,aX.k (k:=Sum.inl (e.1:Int)) U,?_⟩;cases hg:ao o (Sum.inl (e.1:Int)) with
    |some v=>
     refine cz ?_;refine zh<|Io t<|ae 7<|ae 3 ⟨r,_,rfl,aX.k (k:=Sum.inl ((other n e).1:Int)) U,?_⟩;cases rR:ao o (Sum.inl ((other n e).1:Int)) with
     |none=>exact qq true (λ_=>⟨by rw[hg];exact λz=>(nomatch z),rR⟩) λz=>nomatch z
     |some v=>exact qq false (λz=>nomatch z) λ_ k=>by rw[rR]at k;cases k.2
    |none=>
     refine bH ?_;exact qq false (λz=>nomatch z) λ_ k=>k.1 hg
   ·obtain⟨c1,c2⟩:=c;obtain⟨v,hv⟩:=Option.ne_none_iff_exists'.mp c1;obtain⟨b,rfl,wy⟩:=I3.val e.1 v hv;obtain⟨I4,uh⟩:=I3.add hT qW hv c2;have lk:=I3.len;refine tG t (aU cJ<|aU fj<|eU t<|ae 3<|ae 6 ⟨r,vB b,rfl,by rw[<-hv];exact aX.k (k:=Sum.inl (e.1:Int)) U,?_⟩);refine mP Il T.m4 JZ<|ai<|hG lN<|ae 5<|ae 2 ⟨p,_,rfl,.inl<|aj.of<|s3 _ _ hp,rfl,kE _,?_⟩;refine ax ⟨_,rfl,_,_,rfl,rfl,aE ⟨_,_,rfl,rfl,(by show(0:Int)<2;decide),?_⟩⟩;rw[kD,rL];have e9:vB (b != decide (z∈A))=.int (((if b then(1:Int)else 0)+(if decide (z∈A)then 1 else 0))%2):=BZ V.int (uB b<|decide (z∈A)).symm;rw[e9]at I4 uh;refine ae 3 (ae 7 ⟨r,_,rfl,bX.k (k:=Sum.inl ((other n e).1:Int)) U (bI<|(by omega)),?_⟩);refine aT 4 nd<|sX ?_;refine a7<|a7 ⟨_,true,_,_,_,cX s3 Ö,av,I4,By (Nat.le_succ_of_le hl)<|WD uh.symm,λ_=>Bf (Nat.lt_succ_of_le hl)<|WD uh.symm,λz=>(nomatch z),rfl⟩
   ·refine a7<|a7 ⟨o,s,_,_,_,s3,U,I3,hl,Mz,λq=>?_,rfl⟩;obtain⟨r1,r2⟩:=MA q;refine⟨r1,λj M y hy=>?_⟩
    by_cases k:j<i
    ·exact r2 j k y hy
    ·have:j=i:=(by omega)
     subst this;rw[G]at hy;cases hy;subst r1;intro x' g8 xS
     obtain q'|q':=(iH hT qW).mp g8
     ·subst q';intro k';exact c ⟨xS,k'⟩
     ·subst q';rw[oo];intro k';exact xS<|bA k'
  ·rintro J H3 ⟨o,s,v5,v6,v7,s3,U,I3,hl,Mz,MA,rfl⟩;have CA:=I3.len;refine a7 ⟨_,?_,o,s,v5,v6,v7,s3,U,I3,λq=>?_,rfl,rfl⟩
   ·cases s with
    |true=>
     have:=Mz rfl;simp only[DP]at em ⊢;omega
    |false=>
     simp only[DP,Bb,CV]at em ⊢;omega
   ·obtain⟨r1,r2⟩:=MA q;subst r1;intro z G;obtain⟨j,M⟩:=Bj<|(hS.mem z).mpr G;have lk:iQ.length=ks.length:=by have:=BZ List.length ek;rwa[Aa,Aa]at this
    exact r2 j (by rw[lk];exact(Ac.mp M).1) z M
 |false=>
  rw[BK<|(by decide)];have all:=I.all hT xJ h0 CD<|sh rfl;refine sZ (VC bd)<|ae 1 ⟨d,ob,iQ,rfl,L _ _ ed,VE (λi J l=>∃(u5 u6 u7:Option V),l=H2/\(∀ j,j < i->∀ z,ks[j]?=some z->∃ e b c,aJ n e=some z/\ao Y (Sum.inl (e.1:Int))=some (vB b)/\ao Y (Sum.inl ((other n e).1:Int))=some (vB c)/\(b != c)=decide (z∈A)) /\
    J=[(some (.ref R)),(some (.ref d)),(some (.ref p)),(some (.ref r)),some<|.bl false,u5,u6,u7]) ⟨_,_,_,rfl,λj M=>absurd M<|Eh _,rfl⟩ ?_ ?_ ?_⟩
  ·rintro i J l _ ⟨v5,v6,v7,rfl,_⟩;exact L _ _ ed
  ·rintro i pr J H3 nQ ⟨v5,v6,v7,rfl,M,rfl⟩;obtain⟨z,G,MB⟩:=VU ek nQ;rw[MB];have cU:z∈ag n:=(hS.mem z).mp<|At G;obtain⟨x,a,N,ty,O,lg,dg,ea,MC,MD⟩:=xR L cU;obtain⟨b,hb⟩:=all x.1<|cS O;obtain⟨c,hc⟩:=all (other n x).1<|cS lg;refine a8 5 nd ?_;refine aT 6 nd (eU t<|ae 3<|bb cv<|bb cL<|eU t<|ae 1<|ae 5 ⟨d,.ref a,rfl,dg,aE ⟨a,_,_,.ref N,rfl,rfl,aj.of ea,rfl,aE ⟨N,_,_,.int (x.1:Int),rfl,rfl,aS.of MC,rfl,r,vB b,rfl,by rw[<-hb];exact aX.k (k:=Sum.inl (x.1:Int)) e2,?_⟩⟩⟩);refine aT 7 nd (eU t<|ae 3<|bb cv<|bb cL<|eU t<|ae 1<|ae 5 ⟨d,.ref a,rfl,dg,aE ⟨a,_,_,.ref ty,rfl,rfl,aj.of ea,rfl,aE ⟨ty,_,_,.int ((other n x).1:Int),rfl,rfl,aS.of MD,rfl,r,vB c,rfl,by rw[<-hc];exact aX.k (k:=Sum.inl ((other n x).1:Int)) e2,?_⟩⟩⟩);show ge _ _ _ [(some (.ref R)),(some (.ref d)),(some (.ref p)),(some (.ref r)),some<|.bl false,some<|.str z,some<|vB b,some<|vB c] H3;refine vq ((b != c)≠decide (z∈A)) ((b != c)=decide (z∈A)) (λT' qq=>?_) (λk=>?_) λk=>?_
   ·refine cH yS<|hG yS<|ae 6<|ae 7 ⟨rfl,?_⟩;refine hG lN<|ae 5<|ae 2 ⟨p,_,rfl,.inl<|aj.of<|L _ _ hp,rfl,kE _,rfl,_,rfl,?_⟩;rw[kD,rL];have e9:(!decide (V.bl (!decide (vB b=vB c))=V.bl (decide (z∈A))))=((b != c) != decide (z∈A)):=by
     rw[uO];cases b<;>cases c<;>rfl
    show T' (!decide (V.bl (!decide (vB b=vB c))=V.bl (decide (z∈A)))) H3;rw[e9];exact qq _ (λk=>bne_iff_ne.mp k) λk=>by generalize (b != c)=u at k ⊢;cases u<;>cases hd:decide (z∈A)<;>rw[hd]at k<;>first|rfl|cases k
   ·refine bQ<|vi ?_;exact q2 _ L<|I.bad hT O hb hc k
   ·refine a7<|a7 ⟨_,_,_,rfl,λj kq y hy=>?_,rfl⟩
    by_cases kk:j<i
    ·exact M j kk y hy
    ·have:j=i:=(by omega)
     subst this;rw[G]at hy;cases hy;exact⟨x,b,c,O,hb,hc,k⟩
  ·rintro J H3 ⟨v5,v6,v7,rfl,M,rfl⟩;have whole:∃sd,bg n A sd:=I.whole hT CD h0 all rM λz G=>by
    obtain⟨j,kq⟩:=Bj<|(hS.mem z).mpr G;have lk:iQ.length=ks.length:=by have:=BZ List.length ek;rwa[Aa,Aa]at this
    exact M j (by rw[lk];exact(Ac.mp kq).1) z kq
   have Ki:=(hR.same L).len;refine bQ<|gu (aP z7) VS xP 1 (yM rfl T.range gL)<|ai<|bP dH T.len DR<|ai<|ae 0<|ax ⟨R,_,rfl,.inl<|aj.of (hR.same L).lst,ax ⟨_,rfl,?_,?_,λD hD=>?_⟩⟩
   ·rw[Aa];omega
   ·rw[Aa];omega
   rw[Aa,Bm,b4];refine Ku (λi B l=>(∃v,B=[(some (.ref R)),(some (.ref d)),(some (.ref p)),(some (.ref r)),some<|.bl false,v5,v6,v7]++[v])/\ah H l/\l r=some (.dK Y)/\∃ys,l D=some (.lst ys)/\ys.length<=i) ⟨⟨_,rfl⟩,L.trans<|aM hD _,by rwa[au<|bh e2 hD],[],av,Am _⟩ ?_ ?_
   ·rintro i B l hi ⟨⟨v,rfl⟩,s4,e4,ys,eD,v9⟩;rw[Dw];obtain⟨b,hb⟩:=all i hi;intro cl C æ ç ex;refine a8 8 O7 ?_;intro cl C æ ç ex;refine hU (cH jl<|eU t<|ae 3<|ae 8 ⟨r,vB b,rfl,by rw[<-hb];exact aX.k (k:=Sum.inl (i:Int)) e4,aE ⟨rfl,_,rfl,?_⟩⟩);have nD:r≠D:=bV e4 eD λz=>nomatch z;refine iq (λc=>?_) (λc=>⟨⟨_,rfl⟩,s4,e4,ys,eD,(by omega)⟩);intro cl C æ ç ex;refine ae 8 ⟨ys,eD,bI (by omega),⟨_,rfl⟩,cX s4<|L.free hD,by rwa[au nD],_,av,by rw[Ad];show ys.length+1<=i+1;omega⟩
   ·rintro B l ⟨_,s4,_⟩;exact q1 D l s4 whole
open PyProof.Rows (sortedS)
def ME:Sp:=λf H Q _=>∃R W as n d a,f=[.ref R,.ref W]/\al H R as n/\(n.map (·.1)).Nodup/\n.length<=1000/\H W=some (.lst<|d.map V.ref)/\fb n H d a/\(∀e∈a,e∈ends n)/\a.length<=1000/\(∀l:Ñ,l.Nodup->(∀z∈l,z∈a.map (ay n))->l.length<64) /\
 ∀l b c,ah H c->H l=none->c l=some (Ls b)->cD b->(∀z,z∈b↔(a.map<|ay n).count z=1)->Q (.ref l) c
abbrev MG:Ñ:=["_law_rows","_law_walker","_law_ties"]
abbrev rS:Ñ:=["_law_rows","_law_walker","_law_ties","_law_end"]
abbrev xT:Ñ:=["_law_rows","_law_walker","_law_ties","_law_end","_law_row"]
abbrev xU:Ñ:=["_law_rows","_law_walker","_law_ties","_law_tie"]
def xV:ak MG ["_law_rows","_law_walker"] (aP oW):=bZ
def Sm:rS.Nodup:=by decide +kernel
def ez:xT.Nodup:=by decide +kernel
def So:xU.Nodup:=by decide +kernel
def N1:Scope:=match gn oW with
 |.Assign _ (.ListComp _ _ a _) _ :: _=>a
 |_=>aP oW
def VT:Scope:=relabel N1<|PyProof.Rows.envOfC "_law_core" (aP oW) 0 0 .none
theorem CF(L:Ñ):(L.filter λz=>decide (L.count z=1)).Nodup:=by
 rw[List.nodup_iff_count];intro z
 by_cases h:L.count z=1
 ·rw[List.count_filter<|by simpa using h];omega
 ·rw[List.count_eq_zero_of_not_mem]
  ·omega
  ·intro a;exact h<|BX (Bg.mp a).2
theorem VV(L:Ñ)(z:Str):z∈(L.filter λz=>decide (L.count z=1))↔L.count z=1:=by
 rw[Bg,CK];exact⟨λh=>h.2,λh=>⟨Ed.mp (by omega),h⟩⟩
theorem US(F:bo K "_law_core" "_law_core" oW f fd)(T:Txt mg):aD P w K mg Z bz 1 f fd ["_law_rows","_law_walker"] ME:=by
 refine F.gc xV λb0 H vs Q E hr h=>?_;obtain⟨R,W,as,n,ts,m,rfl,N,hN,hn,hW,hE,qS,Ö,ll,q⟩:=h;have nd:=xV.nd;have b4:=N.len;have hl:=hE.1;refine aT 2 nd<|gu (aP oW) MG rS 1 (eB bd)<|ae 1 ⟨W,rfl,⟨_,aj.of hW⟩,λD hD=>?_⟩;refine jS (xs:=ts.map V.ref) (λi d r=>(∃v,d=[(some (.ref R)),(some (.ref W)),none]++[v])/\ah H r/\r D=some (Ls<|(m.take i).map<|ay n)) ⟨⟨none,rfl⟩,aM hD _,av⟩ ?_ ?_ ?_
 ·rintro i d r _ ⟨_,o,_⟩;exact aj.of<|o _ _ hW
 ·rintro i x d r A ⟨⟨v,rfl⟩,o,y⟩;rw[Ah,Ar]at A;obtain⟨t,ht,rfl⟩:=A;have hi:i<m.length:=by have:=(Ac.mp ht).1;omega
  have O:=Ab hi;have me:m.take (i+1)=m.take i++[m[i]]:=by rw[Bx,O];rfl
  generalize nN:m[i]=e at O me;have mh:=hE.2 i t e ht O;have tQ:=qS e<|At O;obtain⟨z,B⟩:=af.mp tQ;have k6:=dJ B;intro s C G I u;refine a8 3 Sm ?_;intro s C G I u;refine iA ?_;rw[BP rfl];intro s C G I u;refine bb cL<|gu VT rS xT 1 (eB bd)<|ae 0 ⟨R,rfl,⟨_,aj.of<|o _ _ N.lst⟩,λD2 jy=>?_⟩;refine jS (xs:=as.map λa=>V.ref a.1) (λj d J=>(∃v,d=[(some (.ref R)),(some (.ref W)),none,(some (.ref t))]++[v])/\ah r J/\J D2=some (Ls (if e.1<j then [z]else []))) ⟨⟨none,rfl⟩,aM jy _,av⟩ ?_ ?_ ?_
  ·rintro j d J _ ⟨_,p,_⟩;exact aj.of<|p _ _<|o _ _ N.lst
  ·rintro j x d J A ⟨⟨v,rfl⟩,p,M⟩;have U:j<n.length:=by
    have:=(Ac.mp A).1;rw[Aa]at this;omega
   obtain⟨b,eb,fA,et,el,er⟩:=(N.same<|o.trans p).at U;rw[Ah,eb]at A;cases A;have xW:=(o.trans p) _ _ mh;intro s C G I u;refine a8 4 ez ?_;intro s C G I u;refine hU<|cH jl<|bb cv<|ae 4<|aE ⟨b.1,_,_,.str n[j].1,rfl,rfl,aS.of et,rfl,bb cv<|ae 3<|aE ⟨t,_,_,.str<|nameAt n e.1,rfl,rfl,aS.of xW,rfl,rfl,_,rfl,?_⟩⟩;have pq:=cS B;have Y:decide (V.str n[j].1=V.str (nameAt n e.1))=decide (e.1=j):=by
    refine decide_eq_decide.mpr ⟨λk=>?_,λk=>?_⟩
    ·have k:=V.str.inj k;exact(tZ hN U pq<|by rw[gW U];exact k).symm
    ·rw[<-ro U,k]
   show if decide (V.str n[j].1=V.str (nameAt n e.1))=true then _ else _;rw[Y];refine iq (λc=>?_) λc=>?_
   ·have c:=BX c;subst c;intro s C G I u;have cN:=B;refine bb cL<|bb cv<|ae 4<|aE ⟨b.1,_,_,.ref b.2,rfl,rfl,aS.of et,rfl,bb cv<|ae 3<|aE ⟨t,_,_,.int (e.2:Int),rfl,rfl,aS.of xW,rfl,b.2,_,_,.str z,rfl,rfl,aj.of el,zK cN,_,M,?_,⟨_,rfl⟩,cX p jy,?_⟩⟩
    ·rw[BK<|Cq _];exact bI<|(by decide)
    ·rw[av,BK<|Cq _,BP<|Fd _];rfl
   ·have c:=GJ<|Dk.mpr c;refine⟨⟨_,rfl⟩,p,?_⟩;rw[M]
    by_cases k:e.1<j
    ·rw[BP k,BP<|(by omega)]
    ·rw[BK k,BK<|(by omega)]
  ·rintro d J ⟨_,p,M⟩;rw[Aa,b4,BP<|cS B]at M;refine aE ⟨D2,_,_,.str z,rfl,rfl,aj.of M,rfl,_,p _ _ y,?_,⟨_,rfl⟩,cX (o.trans p) hD,?_⟩
   ·rw[Aa,Aa,Bh];exact bI<|(by omega)
   ·rw[av,me,Aj];show some (HO.lst<|((m.take i).map<|ay n).map V.str++[V.str z])=some (HO.lst<|((m.take i).map (ay n)++[ay n e]).map V.str);rw[Aj];show some (HO.lst<|((m.take i).map<|ay n).map V.str++[V.str z])=some (HO.lst<|((m.take i).map<|ay n).map V.str++[V.str<|ay n e]);rw[k6]
 rintro d r ⟨_,o,y⟩;have rT:m.take (ts.map V.ref).length=m:=Ck (by rw[Aa];omega);rw[rT]at y;generalize MH:m.map (ay n)=L at y ll q;have K6:L.length<=1000:=by rwa[<-MH,Aa]
 refine bQ<|bP vM T.sorted CW<|ai<|gu (aP oW) MG xU 1 (eB bd)<|ae 2 ⟨D,rfl,⟨_,aj.of y⟩,λD3 rV=>?_⟩;have n3:D≠D3:=bh y rV;refine qO (λz=>decide (L.count z=1)) (bI<|(by omega)) y rV (λs C s0 H0 u v v0 r R' h=>a8 3 So h) (λs C s0 H0 u z zs T' h=>hU<|cH jl<|zF DW TV TX VA<|ae 2 (v:= .ref D) ⟨Or.inl ⟨rfl,_,aj.of<|by rwa[au n3]⟩,ae 3 ⟨D,L,z,rfl,rfl,aj.of (by rwa[au n3]),aE ⟨rfl,_,rfl,?_⟩⟩⟩) (λs C s0 H0 u z r R' h=>ae 3 h) ?_
 ·have Y:decide (V.int (L.count z:Int)=V.int 1)=decide (L.count z=1):=decide_eq_decide.mpr ⟨λk=>by have:=V.int.inj k;omega,λk=>by rw[k];rfl⟩;show T' (decide (V.int (L.count z:Int)=V.int 1)) _;rwa[Y]
 refine ax ⟨D3,_,rfl,aj.of av,ll _ (CF L) λz B=>(Bg.mp B).1,λl ss g9 db gP=>?_⟩;have s3:=o.trans<|aM rV<|Ls<|L.filter λz=>decide (L.count z=1);exact q l ss _ (s3.trans<|aM g9 _) (s3.free g9) av (tX gP<|db.nodup_iff.mpr<|CF L) λz=>by rw[db.mem_iff];exact VV L z
end
end Q1
namespace L2
open PySem PySem.Spec PyProof.Rows
variable{H:Hp}{σ:St}{X:Cx}
structure Xo(h:Heap)(e T:Addr)(C fl:Value):Prop where
 ex:∃oe vs,h.get? e=some oe/\oe.cls=C/\oe.dict=none/\oe.data=.fields vs/\vs[1]?=some (.ref T)/\vs[2]?=some .none
 ne:T≠e
 tr:∃oT ts,h.get? T=some oT/\oT.data=.fields ts/\ts[3]?=some fl
structure Kp(fs bad:List Addr)(h h':Heap):Prop where
 keep:∀b o,h.get? b=some o->b∉fs->b∉bad->h'.get? b=some o
 slot:∀b o,h.get? b=some o->b∈fs->∃sl,h'.get? b=some {o with slots:=sl}
def ux(o:Obj)(f:Array Value->Array Value):(o.mapFields f).dict=o.dict:=by
 obtain⟨c,d,a,b⟩:=o;cases a<;>rfl
variable{s:Shared}{E:Î}{A:Around}{M:Model}{Q:Unit->Shared->Prop}{head:Value}{vs:Array Value}{oe:Obj}{outer:List Env}{env:Env}{Z:Heap}
theorem VW{L e:Addr}{nx:Bool}(N:A.frames=some (env :: outer))(p:s.heap.FunFrames Z<|env :: outer)(O:env.frame=some L)
  (r:s.heap.get? e=some oe) (hd:oe.data=.fields vs) (rW:oe.dict=none) (k:1<vs.size) (h2:vs[2]?=some .none)
  (h:∀h' T,s.heap.get? T=none->Xo h' e T oe.cls .none->Kp (dF<|env :: outer) [e] s.heap h'->Q () {s with heap:=h'}):
  wpAny M A (do let a <-frameOf env;let d <-entryPlaceOf L nx;let b <-EntryCells.newEntry head a .none (rawInt L) .none d;setField (.ref e) 1 b) (λ_ s'=>wpAny M A (setFlight (.ref e) none) Q E s') E s:=by
 have t:e∉dF (env :: outer):=λU=>by
  obtain⟨_,o,u,Y⟩:=p.mem U;rw[r]at u;cases u;exact Y vs hd
 refine BJ<|wpAny_frameOf_fun N p O λc j=>?_;refine BJ<|wpAny_entryPlaceOf λd ip=>?_;unfold EntryCells.newEntry newFields;refine BJ<|CZ ?_<|ip.sizeOk5 _ _ _ _ _;generalize v:({cls:= .type "traceback",dict:=none,data:= .fields ([head,.ref L,.none,rawInt L,.none]++(if d.isEmpty then replicate 6 Value.none else d)).toArray}:Obj)=i;have w:c.get? e=some oe:=(j.2.1 e t).trans r;have B:(c.push i).get? e=some oe:=Ae _ w;have tb:(c.push i).get? c.objs.size=some i:=Ao c (by rw[<-v];rfl);have l:c.objs.size≠e:=Cw<|Ap w;refine DX B hd k ?_;have m:=MJ hd (·.setIfInBounds 1 (Value.ref c.objs.size));have C:=Da (Obj.mapFields (·.setIfInBounds 1 (Value.ref c.objs.size))) B<|KC m;have D:((c.push i).update e (Obj.mapFields (·.setIfInBounds 1 (Value.ref c.objs.size)))).get? c.objs.size=some i:=(Cb _ _<|CG l).trans tb;unfold setFlight;refine BJ (JH C m (x:= .ref c.objs.size) (by simp[k]) ?_);rw[BP (show(Value.ref c.objs.size != Value.none)=true from by simp)];have dT:i.data=.fields ([head,.ref L,.none,rawInt L,.none]++(if d.isEmpty then replicate 6 Value.none else d)).toArray:=by rw[<-v]
 have G:3<([head,.ref L,.none,rawInt L,.none]++(if d.isEmpty then replicate 6 Value.none else d)).toArray.size:=by
  simp only[Aw,Ad,As,Eu];omega
 refine DX D dT G<|h _ c.objs.size (by
  cases hq:s.heap.get? c.objs.size with
  |none=>rfl
  |some o=>
   obtain⟨H,z⟩:=j.2.2 _ o hq;exact absurd (Ap z)<|Cq _) ?_ ?_
 ·have I:=MJ dT (·.setIfInBounds 3 ((none:Option Addr).elim Value.none λf=>rawInt f));refine⟨⟨_,_,(Cb _ _ l).trans C,Obj.cls_mapFields _ _,by rwa[ux],m,by simp[k],by rwa[Array.getElem?_setIfInBounds_ne<|(by decide)]⟩,l,⟨_,_,Da _ D<|KC I,I,?_⟩⟩;rw[Fo G];rfl
 ·have J:∀b o,b≠e->c.get? b=some o->(((c.push i).update e (Obj.mapFields (·.setIfInBounds 1 (Value.ref c.objs.size)))).update c.objs.size (Obj.mapFields (·.setIfInBounds 3 ((none:Option Addr).elim Value.none λf=>rawInt f)))).get? b=some o:=λb o n q=>by
   rw[Cb _ _<|Cw<|Ap q,Cb _ _<|CG n];exact Ae _ q
  refine⟨λb o q nf nb=>J b o (λz=>nb<|by simp[z])<|(j.2.1 b nf).trans q,λb o q n=>?_⟩;obtain⟨H,z⟩:=j.2.2 b o q;exact⟨H,J b _ (λy=>t<|y ▸ n) z⟩
def q15{L e:Addr}(d:A.frames=some (env :: outer))(f:s.heap.FunFrames Z<|env :: outer)(a:env.frame=some L)
  (b:s.heap.get? e=some oe) (hd:oe.data=.fields vs) (i:oe.dict=none) (c:vs[1]?=some .none) (j:vs[2]?=some .none)
  (h:∀h' T,s.heap.get? T=none->Xo h' e T oe.cls .none->Kp (dF<|env :: outer) [e] s.heap h'->Q () {s with heap:=h'}):
  wpAny M A (noteFrame (.ref e) env) (λ_ s'=>wpAny M A (setFlight (.ref e) none) Q E s') E s:=by
 unfold noteFrame;simp only[a];refine BJ<|JH b hd c ?_;rw[BK<|(by decide)];exact VW d f a b hd i (Er.mp c).1 j h
def i6{L e T:Addr}{C:Value}(u:A.frames=some (env :: outer))(j:s.heap.FunFrames Z<|env :: outer)(l:env.frame=some L)(x:Xo s.heap e T C .none)
  (h:∀h' a,s.heap.get? a=none->Xo h' e a C .none->Kp (dF<|env :: outer) [e,T] s.heap h'->Q () {s with heap:=h'}):
  wpAny M A (noteFrame (.ref e) env) (λ_ s'=>wpAny M A (setFlight (.ref e) none) Q E s') E s:=by
 obtain⟨⟨oe,vs,m,v,w,hd,n,B⟩,D,⟨Y,G,f,dT,p⟩⟩:=x;subst v;unfold noteFrame;simp only[l];refine BJ<|JH m hd n ?_;rw[BP (show(Value.ref T != Value.none)=true from by simp)];refine BJ<|JH f dT p ?_;rw[BK (show ¬((Value.none == rawInt L)=true)from by simp[rawInt])];refine BJ<|DX f dT (Er.mp p).1 ?_;have c:∀b,b≠T->(s.heap.update T (Obj.mapFields (·.setIfInBounds 3 Value.none))).get? b=s.heap.get? b:=λb i=>Cb _ _<|CG i;have r:∀b o,s.heap.get? b=some o->(∀vs,o.data ≠ .fields vs)->b≠T:=λb o q d z=>by
  rw[z,f]at q;cases q;exact d G dT
 have H:T∉dF (env :: outer):=λI=>by
  obtain⟨_,o,J,d⟩:=j.mem I;exact r T o J d rfl
 refine VW u (j.of_keeps λb o q d=>⟨o,(c b<|r b o q d).trans q,rfl⟩) l ((c e<|CG D).trans m) hd w (Er.mp n).1 B λh' a z x k=>h h' a ?_ x ⟨λb o q N t=>?_,λb o q i=>?_⟩
 ·cases O:s.heap.get? a with
  |none=>rfl
  |some o=>
   by_cases y:a=T
   ·have:=Da (Obj.mapFields (·.setIfInBounds 3 Value.none)) f<|KC<|MJ dT _;rw[y]at z;exact absurd (this.symm.trans z)<|by simp
   ·have:=(c a y).trans O;exact absurd (this.symm.trans z)<|by simp
 ·have U:b≠T:=λy=>t (by simp[y]);exact k.keep b o ((c b U).trans q) N λy=>t<|by simp at y;simp[y]
 ·exact k.slot b o ((c b λy=>H<|y ▸ i).trans q) i
def k57{e T:Addr}{C:Value}(x:Xo s.heap e T C .none)(h:∀h',Xo h' e T C .none->(∀b o,b≠T->s.heap.get? b=some o->h'.get? b=some o)->Q () {s with heap:=h'}):wpAny M A (setFlight (.ref e) none) Q E s:=by
 obtain⟨⟨oe,vs,a,l,m,hd,c,n⟩,d,⟨t,u,i,dT,p⟩⟩:=x;unfold setFlight;refine BJ<|JH a hd c ?_;rw[BP (show(Value.ref T != Value.none)=true from by simp)];have j:=(Er.mp p).1;have k:=MJ dT (·.setIfInBounds 3 ((none:Option Addr).elim Value.none λf=>rawInt f));refine DX i dT j<|h _ ⟨⟨oe,vs,(Cb _ _ d).trans a,l,m,hd,c,n⟩,d,⟨_,_,Da _ i<|KC k,k,?_⟩⟩ λb o r q=>(Cb _ _<|CG r).trans q;rw[Fo j];rfl
variable{h h1:Heap}
def ML{a f2 bad:List Addr}{H':Hp}{e:Heap}(u:Un a [] H H' h h1)(k:Kp f2 bad h1 e)(j:∀b o,h.get? b=some o->b∈f2->b∈a)(l:∀b∈bad,h.get? b=none):Un a [] H H' h e:=by
 have c:∀b o,h.get? b=some o->b∉bad:=λb o q z=>by rw[l b z]at q;cases q
 refine⟨λb o q n f _=>k.keep b o (u.keep b o q n f<|by simp) (λz=>f<|j b o q z)<|c b o q,λb o q n m _=>?_,u.free,λb o q _=>?_,u.eJ,u.dN,u.eN⟩
 ·obtain⟨p,z⟩:=u.slot b o q n m<|by simp
  by_cases y:b∈f2
  ·obtain⟨i,d⟩:=k.slot b _ z y;exact⟨i,d⟩
  ·exact⟨p,k.keep b _ z y<|c b o q⟩
 ·obtain⟨r,z⟩:=u.there b o q<|by simp
  by_cases y:b∈f2
  ·obtain⟨i,d⟩:=k.slot b _ z y;exact⟨_,d⟩
  ·exact⟨r,k.keep b _ z y<|c b o q⟩
variable{w:World}{P:Program}
def VZ{f2 bad:List Addr}{c:Heap}(x:cg P w H h1)(k:Kp f2 bad h1 c)(f:∀b∈f2,H b=none)(h:∀b∈bad,H b=none):cg P w H c:=λa o e=>by
 refine(x a o e).fK (λb u d q=>k.keep b u q (λz=>?_) λz=>?_) (λ_ q=>q) λ_ _ q=>q
 ·have:=f b z
  obtain y|y:=d
  ·rw[y,e]at this;cases this
  ·rw[y]at this;cases this
 ·have:=h b z
  obtain y|y:=d
  ·rw[y,e]at this;cases this
  ·rw[y]at this;cases this
variable{o:HO}
theorem BN{a:Addr}(x:aB P w H h a o):∃u,h.get? a=some u:=by
 cases o with
 |lst b=>obtain⟨_,_,_,_,q⟩:=x;exact⟨_,q⟩
 |tup b=>obtain⟨_,_,_,u,q,_⟩:=x;exact⟨_,q⟩
 |dK Y=>obtain⟨_,_,_,_,u,_,_,q,_⟩:=x;exact⟨_,q⟩
 |dT Y=>obtain⟨_,_,_,_,u,_,_,q,_⟩:=x;exact⟨_,q⟩
 |set S n=>obtain⟨u,_,_,_,q,_⟩:=x;exact⟨_,q⟩
 |ins C d c=>obtain⟨_,_,_,q,_⟩:=x;exact⟨_,q⟩
 |own y=>exact x
 |xd c=>obtain⟨_,⟨_,_,_,q,_⟩,_⟩:=x;exact⟨_,q⟩
 |oj lo e=>obtain⟨_,_,_,q⟩:=x;exact⟨_,q⟩
 |bB i u=>obtain⟨q,_⟩:=x;exact⟨_,q⟩
 |oq j=>exact⟨_,x⟩
 |met f y=>exact⟨_,x⟩
 |ext k=>obtain⟨_,q,_⟩:=x;exact q
def XF(P:Program)(w:World):jJ:=λouter H s E e a=>∃c T C b,e=.ref c/\E C none b/\a.os=s.os/\AllBare a.gens/\Un (dF outer) [] H b s.heap a.heap/\cg P w b a.heap/\Xo a.heap c T C .none /\
 s.heap.get? c=none/\s.heap.get? T=none/\b c=none/\b T=none
variable{cd:Value}{f b:Addr}{scope:Scope}{qual:Str}{N:Ñ}{mg:Ò}{K:aa}{Ha:Hp}
section
variable{E:XK}
def PM:dF (envOfC qual scope s.heap.objs.size f cd :: outer)=s.heap.objs.size :: dF outer:=rfl
theorem MM{a ex:List Addr}{c:Hp}(u:Un a ex Ha c h h1)(d:b∉ex)(n:h1.get? b=none):h.get? b=none:=by
 cases q:h.get? b with
 |none=>rfl
 |some o=>obtain⟨e,z⟩:=u.there b o q d;rw[n]at z;cases z
theorem MO(x:cg P w Ha h1)(n:h1.get? b=none):Ha b=none:=by
 cases q:Ha b with
 |none=>rfl
 |some o=>
  exfalso
  obtain⟨u,z⟩:=BN<|x b o q;rw[n]at z;cases z
end
abbrev nV:Ó:=[.type "ValueError",.type "Exception",.type "BaseException",.type "object"]
def XC(K:aa)(C:Addr):Prop:=PySem.W.excIn K C nV "ValueError.__new__" = true
variable{C:Addr}
set_option tactic.hygienic true in
def XC.obj(q:XC K C)(X:K.In h):∃ bm N nm a bs hdct sn sub ab col dd k0 k1 k2 k3 k5 mN,h.get? C=some (excClassObj nm a C N bs bm hdct sn sub ab col dd k0 k1 k2 k3 k5 "ValueError.__new__")/\h.Ns N mN/\mN "__init__" = none/\OwnTail h nV bm:=by
 unfold XC PySem.W.excIn at q
 split at q
 ·rename_i dd cd d k
  split at q
  ·rename_i D bm k0 k1 k2 k3 n k5 e f;simp only[Bq,JD,RM]at q;obtain⟨⟨⟨⟨⟨l,m⟩,i⟩,o⟩,b⟩,j⟩:=q;obtain⟨nm,bs,p,r,a,hd,sn,sub,ab,col,del⟩:=cd
   dsimp only at e i b j
   subst l m e i;have c:d=#[k0,k1,k2,k3,some<|.builtin "ValueError.__new__",k5]:=by
    cases d;simp only at f;rw[f]
   subst c;exact⟨bm,r,nm,a,bs,hd,sn,sub,ab,col,dd,k0,k1,k2,k3,k5,_,X _ _ k,.of_isNs<|PySem.W.isNs_of_in X b,PySem.W.nsMap_none_of_in X b j,PySem.W.tail_of_in X o⟩
  ·cases q
 ·cases q
variable{D:mi}{x:Str}
section
variable{rest:Õ}
def Rz(X:Cx)(E:St->XK):Prop:=∀O σ H s a e C args,be X O σ H s->Heap.MadeExcOf s.heap a e (.ref C) args->E σ (.ref C) none H->X.xe (.ref e) {s with heap:=a}
def V0{E:St->XK}(l:Rz X E){a:Expr}{np i pos:Pos}(m:X.mg x=some (.ref C))(n:XC X.K C)(o:X.calm=true)(h:Ea X [a] σ H λvs d=>vs.length<=sizeLine/\E σ (.ref C) none d)(p:Gl X x:=by rfl)(u:(x == ("__debug__" : Str))=false:=by decide)
  (j:starEach [a] X.env=(false,eval a X.env):: starEach [] X.env:=by rfl):ge X (.Raise (some<|.Call (.Name x np) [a] [] i) none pos :: rest) D σ H:=by
 refine jL (t:=λD σ H=>Ea X [a] σ H λvs d=>vs.length<=sizeLine/\E σ (.ref C) none d) ?_ h;intro O s σ H D I h;obtain⟨v,N,nm,w,y,b,z,sub,A,f,B,G,J,L,M,Q,T,U,Y,oi,k⟩:=n.obj I.ok.mod.sy;refine wpAny_Raise_call_subT (nm:=nm) (q:=w) (N:=N) (bs:=y) (bm:=v) (hdct:=b) (sn:=z) (sub:=sub) (ab:=A) (col:=f) (dd:=B) (k0:=G) (k1:=J) (k2:=L) (k3:=M) (k5:=Q) PySem.F.excBase_ValueError (mN:=T) (k.hasType PySem.F.excBase_ValueError.hasBase) (I.ok.hd o) (by rw[j];rfl) oi<|uG I p m ⟨rfl,?_⟩ u;have q:=h.run i O s I;rw[j]at q ⊢;refine PX<|aN q λus s2⟨vs,H2,c,r,z2,q2⟩=>⟨rfl,by rwa[<-r.length],c.bk _ _ U,Y.keeps c.bk,k.keeps c.bk,λh' e hx=>l O σ H2 s2 h' e C us c hx q2⟩
end
variable{h':Heap}{sp:Sp}{ps:Ñ}{fd:FuncData}{st:Stmt}
section
variable{E:XK}
def hQ(k:∀b o,h.get? b=some o->h'.get? b=some o):Kp [] [] h h':=⟨λb o q _ _=>k b o q,λb o q z=>absurd z<|by simp⟩
def FC:Rz (fq (XF P w) P w K mg Z N qual scope f cd A outer s H E) (λ_=>E):=by
 intro O σ j h h' e C args I c l;obtain⟨t,m,_,_⟩:=c.there;show wpAny (model P w) (A.deeper<|envOfC qual scope s.heap.objs.size f cd) (leaving (envOfC qual scope s.heap.objs.size f cd)<|.ref e) _ _ _;unfold leaving;have n:=MO I.aF c.new;have p:=hQ c.keeps;refine BJ<|q15 I.ok.frames (I.stack.of_keeps λb o q _=>⟨o,c.keeps b o q,rfl⟩) rfl m rfl rfl rfl rfl λv T z x k=>?_;have r:=I.aF.kept c.keeps;have d:=ML I.Z p (λb o q a=>absurd a<|by simp) λb a=>absurd a (by simp);have i:h.heap.get? T=none:=by
  cases q:h.heap.get? T with
  |none=>rfl
  |some o=>have:=c.keeps _ _ q;exact absurd (this.symm.trans z)<|by simp
 have u:=MM (ex:=[]) I.Z (by simp) c.new;refine⟨e,T,.ref C,j,rfl,l,I.os,I.bare,ML d k (λb o q a=>?_) λb a=>?_,VZ r k (λb a=>I.d8 b a) λb a=>?_,x,u,MM (ex:=[]) I.Z (by simp) i,n,MO I.aF i⟩
 ·rw[PM]at a
  obtain y|y:=Al.mp a
  ·exact absurd (Ap q)<|by rw[y];exact Cq _
  ·exact y
 ·rwa[Af.mp a]
 ·rwa[Af.mp a]
def V1(N:Ñ)(qual:Str)(scope:Scope)(P:Program)(w:World)(K:aa)(mg:Ò)(Z:Heap)(b:tq):Cx:=fq (XF P w) P w K mg Z N qual scope b.f b.bF b.A b.outer b.s b.H b.E
def bo.gx{k:Nat}(F:bo K x qual st f fd)(S:ak N ps<|aP st)(len:∀vs H Q E,sp vs H Q E->vs.length=ps.length)
  (a:∀b H vs Q,bv k (b.A.deeper<|envOfC qual (aP st) b.s.heap.objs.size b.f b.bF)->sp vs H Q b.E->ge (V1 N qual (aP st) P w K mg Z b) (gn st) (En Q) (jp N vs) H):aD P w K mg Z (XF P w) (k+1) f fd ps sp:=by
 obtain⟨j,l,kV,c,pm,m,d,n,o,rfl,lk,e⟩:=F.ex;refine P2 lk e S len λA outer s H vs Q E h i=>?_;exact⟨_,oK,a ⟨f,d,A,outer,s,H,E⟩ H vs Q h i⟩
def V2{b:tq}:Rz (V1 N qual scope P w K mg Z b) (λ_=>b.E):=FC
end
structure d3(P:Program)(w:World)(K:aa)(mg:Ò)(Z:Heap)(k:Nat)(x:Str)(ps:Ñ)(sp:Sp):Prop where
 ex:∃f fd,aD P w K mg Z (XF P w) k f fd ps sp/\ma K fd ps []/\PySem.W.keepIn K (.ref f)=true/\mg x=some (.ref f)
def d3.mono{P:Program}{w:World}{K:aa}{mg:Ò}{Z:Heap}{j k:Nat}{x:Str}{ps:Ñ}{sp:Sp}(h:d3 P w K mg Z j x ps sp)(le:j<=k):d3 P w K mg Z k x ps sp:=
 let ⟨f,fd,F,r⟩:=h.ex;⟨f,fd,F.mono le,r⟩
variable{es:Ô}{e:Expr}
def MR{k:Nat}{Q:VK}{E:XK}{p pos:Pos}(G:d3 X.U X.w X.K X.mg X.Z k x ps sp)(a:bv k X.A)(c:p9 (XF X.U X.w) X E)
  (h:Ea X (e :: es) σ H λvs d=>sp vs d Q E) (f:Gl X x:=by rfl) (i:(x == ("__debug__" : Str))=false:=by decide) (j:gr (e :: es)=true:=by rfl):Ev X (.Call (.Name x p) (e :: es) [] pos) σ H Q:=
 let ⟨_,_,F,b,l,m⟩:=G.ex;Qv F a m l b c h f i j
def Df.MS{k:Nat}(d:Df K x st)(X:K.In h)(G:h.Ns mainGlobals mg)
  (e:∀kV b pm i j ct c,c.length=ps.length->bindArgs (PySem.W.fnOf x x (lP st) (gn st) (aP st) .none kV b pm i j ct) ⟨c,[]⟩=pure (ps.zip c))
  (ok:∀{f}{fd},bo K x x st f fd->aD P w K mg Z (XF P w) k f fd ps sp):d3 P w K mg Z k x ps sp:=
 let ⟨f,fd,a,F⟩:=d;⟨f,fd,ok F,F.binds e,F.kp,NZ X G a⟩
def MT(CX:jJ)(X:Cx)(σ:St)(E:XK):Prop:=∀O H s e a,be X O σ H s->CX X.stack H s E e a->X.xe e a
section
variable{CX:jJ}{k:Nat}{E:XK}{p pos:Pos}{Q:VK}
theorem vI(F:aD X.U X.w X.K X.mg X.Z CX k f fd ps sp)(l:bv k X.A)(m:X.mg x=some (.ref f))(n:PySem.W.keepIn X.K (.ref f)=true)(o:ma X.K fd ps [])(t:MT CX X σ E)(h:Ea X (e :: es) σ H λvs d=>sp vs d Q E)
  (v:Gl X x:=by rfl) (w:(x == ("__debug__" : Str))=false:=by decide) (z:starEach (e :: es) X.env=(false,eval e X.env):: starEach es X.env:=by rfl) (A:(backTo pos<|starEach es X.env).any (·.1)=false:=by rfl):Ev X (.Call (.Name x p) (e :: es) [] pos) σ H Q:=by
 refine⟨λO s I=>JR<|uG I v m ?_ w⟩;refine PySem.W.callWith_K I.ok.mod.sy n (aN (h.run pos O s I) λa i⟨vs,d,b,r,q⟩=>⟨b.fh,?_⟩) z A;have G:a.length=ps.length:=by rw[<-r.length];exact F.len _ _ _ _ q
 have B:(a++[]).length=ps.length:=by rwa[Be]
 have j:=o i a b.fh B;rw[Be]at j;refine RT<|JK (F.run X.A X.stack i d ⟨a,[]⟩ a vs Q E l b.uR j r q) λr C c=>?_;cases r with
 |error y=>exact t O d i y C b c
 |ok D=>
  cases D with
  |ret u=>exact b.after c
  |next=>exact False.elim c
  |brk=>exact False.elim c
  |cont=>exact False.elim c
def q6x(G:d3 X.U X.w X.K X.mg X.Z k x ps sp)(a:bv k X.A)(c:MT (XF X.U X.w) X σ E)(h:Ea X (e :: es) σ H λvs d=>sp vs d Q E)
  (f:Gl X x:=by rfl) (i:(x == ("__debug__" : Str))=false:=by decide) (j:starEach (e :: es) X.env=(false,eval e X.env):: starEach es X.env:=by rfl) (l:(backTo pos<|starEach es X.env).any (·.1)=false:=by rfl):Ev X (.Call (.Name x p) (e :: es) [] pos) σ H Q:=
 let ⟨_,_,F,b,n,m⟩:=G.ex;vI F a m n b c h f i j l
end
abbrev XO(oe:Obj):HO:= .bB oe<|.own 0
structure CH(oe:Obj)(C:Value):Prop where
 cls:oe.cls=C
 dict:oe.dict=none
 data:∃vs,oe.data=.fields vs/\vs[2]?=some .none
abbrev Cx.bU(X:Cx)(p:Ð):Cx:={X with pn:=X.pn++p}
structure xY(X:Cx)(O:Ð)(b:Addr):Prop where
 l:b≠X.env.locals
 c:∀x c,X.env.cells.lookup x=some c->c≠b
 p:∀q∈X.pn++O,q.1≠b
 f:b∉X.fs
 s:X.æ.heap.get? b=none
variable{O:Ð}
def MU(I:be X O σ H s)(hex:X.ex=[])(n:s.heap.get? b=none):xY X O b:=by
 refine⟨λz=>?_,λx c e z=>?_,λq d z=>?_,λz=>?_,MM I.Z (by rw[hex];simp) n⟩
 ·obtain⟨m,⟨o,_,_,a,_⟩,_⟩:=I.loc;rw[<-z,n]at a;cases a
 ·obtain⟨v,o,a,_⟩:=I.cell x c e;rw[z,n]at a;cases a
 ·have:=(I.pin q d).1;rw[z,n]at this;cases this
 ·obtain⟨_,o,a,_⟩:=I.cF.mem z;rw[n]at a;cases a
def be.kp{bad:List Addr}{t':Nat}(I:be X O σ H s)(hex:X.ex=[])(k:Kp (dF X.stack) bad s.heap h')(h:∀b∈bad,xY X O b)(C:∀b∈bad,H b=none):be X O σ H {s with heap:=h',toks:=t'}:=by
 have l:∀x c,X.env.cells.lookup x=some c->∀v,s.heap.IsCell c v->h'.IsCell c v:=λx c e v⟨o,a,hd⟩=>by
  by_cases y:c∈dF X.stack
  ·obtain⟨D,z⟩:=k.slot c o a y;exact⟨_,z,hd⟩
  ·exact⟨o,k.keep c o a y λw=>(h c w).c x c e rfl,hd⟩
 have E:∀m,s.heap.Ns X.env.locals m->h'.Ns X.env.locals m:=λm j=>by
  obtain⟨o,es,t,a,r⟩:=j
  by_cases y:X.env.locals∈dF X.stack
  ·obtain⟨D,z⟩:=k.slot _ o a y;exact⟨_,es,t,z,r⟩
  ·exact⟨o,es,t,k.keep _ o a y λw=>(h _ w).l rfl,r⟩
 refine⟨I.ok,I.os,I.bare,?_,?_,λx c e=>?_,I.free,I.bC,λp A=>?_,VZ I.aF k (λb f=>I.d8 b f) C,I.len⟩
 ·have u:=I.Z;rw[hex]at u ⊢;refine ML u k (λb o q f=>?_) λb f=>(h b f).s
  obtain y|y:=Al.mp (I.dw b f)
  ·exact absurd (Bf (Ap q) I.ok.above)<|by rw[y];exact Cq _
  ·exact y
 ·obtain⟨m,j,G⟩:=I.loc;refine⟨m,E m j,λi x v J L M=>?_⟩;obtain⟨u,r,q⟩:=G i x v J L M;refine⟨u,r,?_⟩
  obtain q|⟨y,c,e,z⟩:=q
  ·exact .inl q
  ·exact .inr ⟨y,c,e,l x c e _ z⟩
 ·obtain⟨v,z⟩:=I.cell x c e;exact⟨v,l x c e v z⟩
 ·obtain⟨e,n,ne,B,d⟩:=I.pin p A;refine⟨k.keep _ _ e (λy=>?_) λw=>(h _ w).p p A rfl,n,ne,B,d⟩
  obtain z|z:=Al.mp (I.dw _ y)
  ·exact ne z
  ·exact B z
def be.xZ(I:be X O σ H s)(hex:X.ex=[])(a:xY X O b)(n:H b=none)(l:aB X.U X.w (upd H b o) s.heap b o):be X O σ (upd H b o) s:=by
 have u:=I.Z;have ne:∀c f,H c=some f->c≠b:=λc f q z=>by rw[z,n]at q;cases q
 refine⟨I.ok,I.os,I.bare,⟨u.keep,u.slot,λc f q i t=>?_,u.there,λc j q=>?_,λc f v q=>?_,λc ps q=>?_⟩,I.loc,I.cell,by rw[au<|CG a.l];exact I.free,λx c e=>by rw[au<|a.c x c e];exact I.bC x c e,λp k=>?_,λc f q=>?_,I.len⟩
 ·have:c≠b:=λz=>by rw[z,a.s]at q;cases q
  rw[au this];exact u.free c f q i t
 ·have h:=u.eJ c j q;rw[au<|ne _ _ h];exact h
 ·have h:=u.dN c f v q;rw[au<|ne _ _ h];exact h
 ·obtain⟨m,h⟩:=u.eN c ps q;exact⟨m,by rw[au<|ne _ _ h];exact h⟩
 ·obtain⟨e,i,r⟩:=I.pin p k;exact⟨e,by rw[au<|a.p p k];exact i,r⟩
 ·by_cases y:c=b
  ·subst y;rw[av]at q;cases q;exact l
  ·rw[au y]at q;exact(I.aF c f q).fK (λ_ _ _ z=>z) (λd z=>by rwa[au<|ne _ _ z]) λd j z=>by rwa[au<|ne _ _ z]
def Cgt(X:Cx)(b:Value->St->Hp->Prop)(e:Value)(s':Shared):Prop:=∃O σ H a T C,e=.ref a/\be X O σ H s'/\Xo s'.heap a T C .none/\xY X O a/\xY X O T/\H a=none/\H T=none/\b C σ H
abbrev CI(X:Cx)(p:Ð)(a:Value->St->Hp->Prop):Cx:=(X.bU p).dP<|Cgt (X.bU p) a
variable{Φ:Value->St->Hp->Prop}{p:Ð}
def Pe(hex:X.ex=[]):MT (XF X.U X.w) (CI X p Φ) σ (λC _ H'=>Φ C σ H'):=by
 rintro O H s e m I ⟨c,T,C,H',rfl,d,os,a,un,f,x,h,i,j,k⟩;have l:=I.call' os un f a (λb z=>absurd z<|by simp);have J:=I.bN;exact⟨O,σ,H',c,T,C,rfl,l.bN,x,MU J hex h,MU J hex i,j,k,d⟩
abbrev g7(X:Cx)(p:Ð)(a:Addr):Cx:={X with A:=X.A.mark<|some<|.ref a,calm:=false,pn:=X.pn++p,xe:=λ_ _=>False}
variable{ea:Addr}
def be.hd(I:be (X.bU p) O σ H s):be (g7 X p ea) O σ H s:=
 ⟨⟨I.ok.mod,I.ok.kind,I.ok.glob,I.ok.blt,I.ok.above,I.ok.inj,I.ok.has,I.ok.mw,(λz=>(nomatch z)),I.ok.frames,I.ok.lI,I.ok.sG,I.ok.bs,I.ok.jH,I.ok.fN,I.ok.gE,I.ok.cF,I.ok.lJ⟩,I.os,I.bare,I.Z,I.loc,I.cell,I.free,I.bC,I.pin,I.aF,I.len⟩
def be.MV{x5:Ð}(I:be (g7 X p ea) O σ H s)(a:X.calm=true->X.A.handled=none):be (X.bU p) O σ H s:=
 ⟨⟨I.ok.mod,I.ok.kind,I.ok.glob,I.ok.blt,I.ok.above,I.ok.inj,I.ok.has,I.ok.mw,a,I.ok.frames,I.ok.lI,I.ok.sG,I.ok.bs,I.ok.jH,I.ok.fN,I.ok.gE,I.ok.cF,I.ok.lJ⟩,I.os,I.bare,I.Z,I.loc,I.cell,I.free,I.bC,I.pin,I.aF,I.len⟩
def be.rX{O:Ð}(I:be X p σ H s):be (X.bU p) [] σ H s:=
 ⟨⟨I.ok.mod,I.ok.kind,I.ok.glob,I.ok.blt,I.ok.above,I.ok.inj,I.ok.has,I.ok.mw,I.ok.hd,I.ok.frames,I.ok.lI,I.ok.sG,I.ok.bs,I.ok.jH,I.ok.fN,I.ok.gE,I.ok.cF,I.ok.lJ⟩,I.os,I.bare,I.Z,I.loc,I.cell,I.free,I.bC,λq a=>I.pin q (by simpa using a),I.aF,I.len⟩
def be.jg(I:be (X.bU p) O σ H s):be X p σ H s:=
 ⟨⟨I.ok.mod,I.ok.kind,I.ok.glob,I.ok.blt,I.ok.above,I.ok.inj,I.ok.has,I.ok.mw,I.ok.hd,I.ok.frames,I.ok.lI,I.ok.sG,I.ok.bs,I.ok.jH,I.ok.fN,I.ok.gE,I.ok.cF,I.ok.lJ⟩,I.os,I.bare,I.Z,I.loc,I.cell,I.free,I.bC,λq a=>I.pin q<|Az _ a,I.aF,I.len⟩
def uj(K:aa)(C S:Addr):Bool:=match K.lookup C with
 |some ⟨_,_,.cls cd,_⟩=>cd.mro.contains<|.ref S
 |_=>false
variable{nid:String}{dd:Option Addr}{col:Option Bool}{sn:Ñ}{hdct:Bool}{S:Addr}
set_option tactic.hygienic true in
def MI(X:K.In h)(q:uj K C S=true){nm a:Str}{N:Addr}{bs bm:Ó}{sub:Ó}{ab:Bool}{k0 k1 k2 k3 k5:Option Value}
  (b:h.get? C=some (excClassObj nm a C N bs bm hdct sn sub ab col dd k0 k1 k2 k3 k5 nid)):(Value.ref C :: bm).contains (.ref S)=true:=by
 unfold uj at q
 split at q
 ·rename_i c;have:=(X _ _ c).symm.trans b;cases this;exact q
 ·cases q
def I7{e:Addr}{Q:Bool->Shared->Prop}(X:K.In s.heap)(j:XC K C)(k:XC K S)(l:uj K C S=true)(m:s.heap.get? e=some oe)(n:oe.cls=.ref C)(h:Q true s):wpAny M A (excMatches (.ref e)<|.ref S) Q E s:=by
 obtain⟨J,N,nm,L,O,hdct,sn,sub,T,col,dd,U,Y,k2,k3,k5,mN,c,oN,oi,oT⟩:=j.obj X;obtain⟨a,N',o,p,q,V3,r,t,u,v,jo,w,G',x,y,z,B,i,D,G,b⟩:=k.obj X;have H:=MI X l c;have I:(Value.ref S :: a).contains (.type "BaseException")=true:=by rw[List.contains_cons,b.hasType PySem.F.excBase_ValueError.hasBase,Bool.or_true]
 have f:=tc_notTuple;obtain⟨hh,g,d,tk,os⟩:=s;unfold excMatches
 repeat (first|(with_reducible refine wpAny_loadPart_at m ?_;rw[n])|with_reducible refine wpAny_loadPart_at i ?_|(with_reducible refine wpAny_isSubtype_exc i ?_;rw[I])|(with_reducible refine wpAny_isSubtype_exc c ?_;rw[H])|wp_step)
 exact h
def be.cE{i:Nat}{n:Str}{pos:Pos}(I:be X O σ H s)(N:X.N.Nodup)(G:X.N[i]?=some n)(T:X.env.scope.names.lookup n=some .local)
  (h:∀s',be X O (σ.set i none) H s'->Q () s'):wpAny M A (do bindName X.env n .none;unbindBehindTheSuite X.env n pos) Q E s:=by
 obtain⟨m,J,U⟩:=id I.loc;have Y:(X.env.scope.kind == .class || (X.env.scope.kind == .module && X.env.locals != X.env.globals))=false:=by rw[I.ok.kind];rfl
 have l:i<σ.length:=by rw[I.len];exact(Ac.mp G).1
 obtain⟨oL,_,_,jI,_⟩:=id J;refine wpAny_nameGoes_keeps T J Y λh' v oB a=>h _ ?_;have low:∀b o,X.æ.heap.get? b=some o->b≠X.env.locals:=λb o q=>Bi<|Bf (Ap q) I.ok.above;refine⟨I.ok,I.os,I.bare,⟨λb o q t C x=>(a.2 b<|low b o q).trans<|I.Z.keep b o q t C x,λb o q t C x=>?_,I.Z.free,λb o q x=>?_,I.Z.eJ,I.Z.dN,I.Z.eN⟩,⟨_,oB,λj y v' L B e3=>?_⟩,λy c q=>?_,I.free,I.bC,λp hp=>?_,λb u q=>?_,by rw[List.length_set];exact I.len⟩
 ·obtain⟨sl,z⟩:=I.Z.slot b o q t C x;exact⟨sl,(a.2 b<|low b o q).trans z⟩
 ·obtain⟨o',z⟩:=I.Z.there b o q x;exact⟨o',(a.2 b<|low b o q).trans z⟩
 ·by_cases D:j=i
  ·subst D;rw[Gc l]at B;cases B
  ·rw[Go<|CG D]at B;obtain⟨u,r,q⟩:=U j y v' L B e3;refine⟨u,r,?_⟩
   obtain⟨k,z⟩|⟨k,c,z,w⟩:=q
   ·have:y≠n:=λz=>D<|DV N L<|z ▸ G;exact .inl ⟨k,by simp[this,z]⟩
   ·exact .inr ⟨k,c,z,w.sameBut a<|I.j4 y c z⟩
 ·obtain⟨v2,z⟩:=I.cell y c q;exact⟨v2,z.sameBut a<|I.j4 y c q⟩
 ·obtain⟨e,t,ne,nf,d⟩:=I.pin p hp;exact⟨(a.2 p.1 ne).trans e,t,ne,nf,d⟩
 ·refine(I.aF b u q).fK (λc w' f z=>(a.2 c ?_).trans z) (λ_ z=>z) λ_ _ z=>z;rintro rfl
  obtain f|f:=f
  ·rw[<-f,I.free]at q;cases q
  ·rw[I.free]at f;cases f
def SI(X:Cx)(D:mi)(a:Õ)(i:Nat):mi:={nx:=λσ H=>ge X a D (σ.set i none) H,rt:=D.rt,bk:=λσ H=>D.bk (σ.set i none) H,ct:=λσ H=>D.ct (σ.set i none) H}
variable{Ë:Stmt}
def fx{d body pK:Õ}{n:Str}{np hp pos:Pos}(i:Nat)(Φ:Value->St->Hp->Prop)(hm:X.mg x=some (.ref S))(hS:XC X.K S)(M:X.N.Nodup)
  (m:∀p,ge (CI X p Φ) body {D with nx:=λa H'=>ge X d D a H'} σ H)
  (hh:∀C a H',Φ C a H'->∃Ca,C=.ref Ca/\XC X.K Ca/\uj X.K Ca S=true/\∀p ea oe,CH oe C->H' ea=none->ge (g7 X p ea) (Ë :: pK) (SI X D d i) (a.set i<|some<|.ref ea) (upd H' ea<|XO oe))
  (N:X.N[i]?=some n:=by rfl) (Q:X.env.scope.names.lookup n=some .local:=by rfl) (hex:X.ex=[]:=by rfl) (cP:X.stack=X.env :: X.outer:=by rfl) (i0:X.env.frame=some X.env.locals:=by rfl)
  (uE:X.fn n=true\/X.env.scope.names.lookup n=some .local:=by first | exact .inl rfl | exact .inr rfl) (hg:Gl X x:=by rfl) (cQ:(x == ("__debug__" : Str))=false:=by decide):
  ge X (.Try body [.ExceptHandler (some<|.Name x np) (some n) (Ë :: pK) hp] [] [] pos :: d) D σ H:=by
 refine jL (t:=λD' σ H=>∀p,ge (CI X p Φ) body {D with nx:=λa H'=>ge X d D a H'} σ H/\D'={D with nx:=λa H'=>ge X d D a H'}) ?_ λp=>⟨m p,rfl⟩;intro j s σ H D' I h;obtain⟨m,rfl⟩:=h j;refine wpAny_Try_except<|CT (m.run [] s<|(I.rX (O:=[])).dP _) (λf l q=>?_) λe l q=>?_
 ·have c:∀{B:Ð}{a:St}{H':Hp},be (CI X j Φ) B a H' l->be X j a H' l:=λJ=>(J.bN).jg;cases f with
  |next=>
   obtain⟨a,H',J,q⟩:=q;exact Pa j l a H' _ (c J) q
  |brk=>obtain⟨a,H',J,q⟩:=q;exact⟨a,H',c J,q⟩
  |cont=>obtain⟨a,H',J,q⟩:=q;exact⟨a,H',c J,q⟩
  |ret u=>obtain⟨v,a,H',J,r,q⟩:=q;exact⟨v,a,H',c J,r,q⟩
 ·obtain⟨B,a,H',ea,T,C,rfl,J,x1,U,a2,n1,n2,Ö⟩:=q;obtain⟨Ca,rfl,hC,qo,MY⟩:=hh C a H' Ö;have fr:(X.bU j).A.frames=some (X.env :: X.outer):=by rw[<-cP];exact J.ok.frames
  have lI:l.heap.FunFrames X.Z (X.env :: X.outer):=by rw[<-cP];exact J.stack
  refine i6 fr lI i0 x1 λY T' z x2 k=>?_;have k':Kp (dF (X.bU j).stack) [ea,T] l.heap Y:=by
   show Kp (dF X.stack) [ea,T] l.heap Y;rw[cP];exact k
  have J2:be (X.bU j) B a H' {l with heap:=Y}:=J.kp (t':=l.toks) hex k' (λb m=>by
   obtain y|y:=Al.mp m
   ·rwa[y]
   ·rwa[Af.mp y]) (λb m=>by
   obtain y|y:=Al.mp m
   ·rwa[y]
   ·rwa[Af.mp y])
  have a3:=MU J hex z;have n3:H' T'=none:=MO J.aF z;have J3:be (g7 X j ea) B a H' {l with heap:=Y}:=J2.hd;obtain⟨⟨oe,vs,he,hc,rW,hd,h1,oM⟩,bA,MZ⟩:=id x2;refine wpAny_handleBy_cons (codeAny_handlers_test<|uG J3 hg hm ?_ cQ) (by intro q;cases q);refine I7 J3.fh hC hS qo he hc ?_;refine codeAny_handlers_suite_as<|k57 x2 λh3 x3 k3=>?_;have J4:be (g7 X j ea) B a H' {l with heap:=h3}:=J3.kp (s:={l with heap:=Y}) (t':=l.toks) (bad:=[T']) hex ⟨λb o q _ nb=>k3 b o (λy=>nb<|by simp[y]) q,λb o q m=>⟨o.slots,k3 b o (λy=>by
   obtain⟨_,o',cW,oB⟩:=J3.stack.mem m;obtain⟨oT,ts,hT,dT,_⟩:=MZ;rw[y]at cW;have:=cW.symm.trans hT;cases this;exact oB _ dT) q⟩⟩ (λb m=>by rw[Af.mp m];exact⟨a3.l,a3.c,a3.p,a3.f,a3.s⟩) λb m=>by rwa[Af.mp m]
  obtain⟨⟨V4,Ø,V5,Ù,M0,Ú,CM,x6⟩,_,_⟩:=x3;have J5:be (g7 X j ea) B a (upd H' ea<|XO V4) {l with heap:=h3}:=J4.xZ hex ⟨U.l,U.c,U.p,U.f,U.s⟩ n1 ⟨V5,⟨_,V5⟩⟩;refine uF (X:=g7 X j ea) J5 M N (Or.inl Q) (v:= .ref ea) rfl (λs4 J6=>?_) uE;refine CT ((MY j ea V4 ⟨Ù,M0,Ø,Ú,x6⟩ n1).run B s4 J6) (λf s5 q=>?_) λ_ _ z=>z.elim;have c:∀{w:St}{A:Hp}{L:Shared},be (g7 X j ea) B w A L->be X j w A L:=λJ=>((J.MV (x5:=[]) J2.ok.hd).jg);cases f with
  |next=>
   obtain⟨w,A,E,q⟩:=q;exact E.cE M N Q λL G=>⟨_,A,c G,q⟩
  |brk=>
   obtain⟨w,A,E,q⟩:=q;exact E.cE M N Q λL G=>⟨_,A,c G,q⟩
  |cont=>
   obtain⟨w,A,E,q⟩:=q;exact E.cE M N Q λL G=>⟨_,A,c G,q⟩
  |ret u=>
   obtain⟨v,w,A,E,r,q⟩:=q;exact E.cE M N Q λL G=>⟨v,_,A,c G,r,q⟩
open PySem.W
variable{U:Program}
section
variable{K:Frag}{a:Addr}{o:Obj}
def nW(K:Frag)(C:Addr):Bool:=findIn K (.ref C) "__getattribute__" == some (some<|.builtin "BaseException.__getattribute__") && findIn K (.ref C) "__getattr__" == some none && findIn K (.ref C) "__class__" == some (some<|.builtin "object.__class__") &&
 mroIn K C (.type "object") == some true && mroIn K C (.type "BaseException") == some true && (clsIn K C).isSome
def x4{Q:Option Value->Shared->Prop}(X:K.In s.heap)(I:InstAt s.heap a o C none)(q:nW K C=true)(f:Q ((some (.ref C))) {s with toks:=s.toks+1}):bc U w A (getAttr? (.ref a) "__class__") Q E s:=by
 unfold nW at q;simp only[Bq,JD]at q;obtain⟨⟨⟨⟨⟨h1,i⟩,j⟩,k⟩,l⟩,_⟩:=q;obtain⟨e,g,d,t,os⟩:=s;have m:=I.type (M:=model U w);have n:=looks_findIn (M:=model U w) X h1;have L2:=looks_findIn (M:=model U w) X i;have x:=looks_findIn (M:=model U w) X j;have p:=looks_mroIn (M:=model U w) X l;unfold getAttr? getAttrBy? getAttrBy;refine BJ<|wpAny_mkText<|BJ<|JQ<|CJ<|BJ<|m.at (BJ<|n.at ?_);show wpAny _ _ (getAttrByItsOwn _ _ _ _ _ _) _ _ _;unfold getAttrByItsOwn hookBefore callGetattribute boundAndCalled;have r:=F.attr_ValueError.ga.bind<|.ref a;refine BJ ?_;show wpAny _ _ (typeLookup (.ref C) "__getattr__") _ _ _;refine L2.at ?_;refine BJ<|JQ<|CJ ?_;rw[BK<|(by decide)];rw[r];refine BJ<|BL ?_;refine RT<|QD F.attr_ValueError.ga.plain F.entry_bexc_ga ?_;have u:builtinKind "BaseException.__getattribute__" = some .slot:=by decide +kernel
 have v:splitId "BaseException.__getattribute__" = some ("BaseException","__getattribute__"):=by decide +kernel
 have y:=F.args_bexc_ga (.ref a)<|.str "__class__" t;simp only[checkBuiltinCall,u,v];refine BJ ?_;unfold isInstance;have z:Looks (model U w) e (isSubtype (.ref C)<|.type "BaseException") true:=p
 repeat lk
 have b:(toString "getset_descriptor"++toString "."++toString (Str.ofString "__get__").toString:String) = "getset_descriptor.__get__":=by decide +kernel
 rw[b];refine wpAny_run (c:= .call (.builtin "getset_descriptor.__get__") ⟨[.builtin "object.__class__",.ref a,.ref C],[]⟩) (h:=none) ?_;refine class_get (s:=⟨e,g,d,t+1,os⟩) (K:=K) X I k ?_
 repeat lk
 exact f
set_option tactic.hygienic true in
def V6(q:nW K C=true):KitX K (.ref a) (.ref C) (λh=>∃o,InstAt h a o C none) where
 ty:=λ_ _ _⟨_,I⟩=>I.type
 it:=λ_ _ X _=>by
  unfold nW at q;rw[Bq]at q;have z:=q.2;unfold clsIn at z
  split at z
  ·rename_i ho;intro A' Q' E' s' k r;unfold isType loadHead;exact BJ<|wpAny_loadPart (k _ _<|X _ _ ho)<|BL r
  ·cases z
 ne:=λh tp dd è n sl X x8=>by
  unfold nW at q;rw[Bq]at q;have z:=q.2;refine Dk.mpr λy=>?_;have e:=Value.ref.inj<|beq_iff_eq.mp y;subst e;unfold clsIn at z
  split at z
  ·rename_i ho;cases (X _ _ ho).symm.trans x8
  ·cases z
 ca:=λX⟨_,I⟩k=>x4 X I q k
end
end L2
namespace L2
open PySem PySem.Spec PyProof.Rows
def V7{h:Heap}{b C:Addr}{a:Obj}(c:h.get? b=some a)(x:CH a<|.ref C):PySem.W.InstAt h b a C none:=by
 obtain⟨d,hd,_⟩:=x.data;refine⟨c,x.cls,?_,?_⟩
 ·unfold PySem.W.notCls;rw[hd]
 ·rw[x.dict];exact True.intro
variable{X:Cx}
def V8:fE X (.builtin "isinstance") (λxs H Q=>∃a C d c v b,xs=[.ref a,v]/\(∀u,fg v u->u=c)/\H a=some (XO d)/\CH d (.ref C)/\nW X.K C=true/\PySem.W.kitOne X.K (.ref C) c=some b/\Q (.bl b) H):=by
 intro O s p H xs t Q I r h;obtain⟨a,C,d,c,v,b,rfl,f,i,j,k,e,q⟩:=h;obtain⟨u,w,rfl,l,m⟩:=re r;cases (show u=Value.ref a from l);cases f _ m;have n:=(show aB X.U X.w H s.heap a (XO d)from I.aF a _ i).1;exact EY (V6 k) I.fh ⟨d,V7 n j⟩ e (λz=>nomatch z) λo=>⟨.bl b,H,I.tok o,rfl,q⟩
variable{E:Î}{U:Program}
variable{tg:Expr}
variable{wi:TI}{N':Ñ}{scope:Scope}{ifs:Ô}
variable{T:Bool->Hp->Prop}{Q:VK}{H:Hp}{σ:St}
variable{es:Ô}{sp:Addr->Obj->Sp}{ps:Ñ}
end L2
namespace Q1
open PySem L2 Nt bD bK
open PyProof.Rows (sortedS)
def rY:Sp:=λd H Q _=>∃R as n,d=[.ref R]/\al H R as n/\n.length<=1000/\(ag n).length<=900/\(∀b:Ñ,b.Nodup->(∀z∈b,z∈ag n)->b.length<64) /\
 ∀L a c,ah H c->H L=none->c L=some (Ls a)->a.Nodup->sortedS a=true->(∀z,z∈a↔z∈ag n)->Q (.ref L) c
variable{zs:Ñ}
set_option tactic.hygienic true in
def Iq{z:Str}(h:zs.Nodup):(added zs z).Nodup:=by
 unfold added
 split
 ·exact h
 ·rename_i a;exact lQ h a
set_option tactic.hygienic true in
def LH{z y:Str}:y∈added zs z↔y∈zs\/y=z:=by
 unfold added
 split
 ·rename_i a;refine⟨.inl,λh=>h.elim id λe=>?_⟩;rwa[e]
 ·rw[An,Af]
def V9{n:fo}{r:Nat}(h:r<n.length):ag (n.take<|r+1)=ag (n.take r)++row n r:=by
 rw[ic h];unfold ag;rw[Bx,Ab h,Dj];simp
def cB:Ñ:=["NoWalker","NoDouble","NoTie"]
structure Cl(K:aa)(mg:Ò)(c:Str->Addr):Prop where
 net:mg "NetError" = some (.ref<|c "NetError")
 M1:XC K<|c "NetError"
 at':∀ x∈cB,mg x=some (.ref<|c x)/\XC K (c x)/\uj K (c x) (c "NetError")=true/\nW K (c x)=true/\PySem.W.kitOne K (.ref<|c x) (.type "ValueError")=some true
 M3:∀x∈cB,∀y∈cB,PySem.W.kitOne K (.ref<|c x) (.ref<|c y)=some (decide (x=y))
def jE(K:aa)(x:Str):Addr:=match PySem.W.nsIn K mainGlobals x with
 |some ((some (.ref a)))=>a
 |_=>0
def M4(K:aa):Bool:=(PySem.W.nsIn K mainGlobals "NetError" == some (some<|.ref<|jE K "NetError")) && PySem.W.excIn K (jE K "NetError") nV "ValueError.__new__" &&
 cB.all λx=>(PySem.W.nsIn K mainGlobals x == some (some<|.ref<|jE K x)) && PySem.W.excIn K (jE K x) nV "ValueError.__new__" && uj K (jE K x) (jE K "NetError") && nW K (jE K x) && (PySem.W.kitOne K (.ref<|jE K x) (.type "ValueError") == some true) &&
  cB.all λy=>PySem.W.kitOne K (.ref<|jE K x) (.ref<|jE K y) == some (decide (x=y))
variable{mg:Ò}{K:aa}
def Sz{h:Heap}(X:K.In h)(G:h.Ns mainGlobals mg)(q:M4 K=true):Cl K mg (jE K):=by
 unfold M4 at q;simp only[Bq,De,JD]at q;obtain⟨⟨c,d⟩,b⟩:=q;exact⟨NZ X G c,d,λx a=>by obtain⟨⟨⟨⟨⟨e,f⟩,i⟩,j⟩,k⟩,_⟩:=b x a;exact⟨NZ X G e,f,i,j,k⟩,λx a y l=>(b x a).2 y l⟩
def Rm(n:fo):Prop:=∀zs:Ñ,zs.Nodup->(∀z∈zs,z∈ag n)->zs.length<64
variable{Z:Heap}{fd:FuncData}
section
variable{P:Program}{w:World}
abbrev x9:Ñ:=["rows"]
abbrev ya:Ñ:=["rows","point","ties","tie"]
def lr:ak x9 ["rows"] (aP zW):=bZ
def M5:ya.Nodup:=by decide +kernel
theorem uH{f:Addr}(F:bo K "ties_of" "ties_of" zW f fd)(T:Txt mg):aD P w K mg Z bz 1 f fd ["rows"] rY:=by
 refine F.gc lr λb0 H vs Q E hr h=>?_;obtain⟨R,as,n,rfl,u,hn,ht,Y,q⟩:=h;have b4:=u.len;have M6:∀r,r<n.length->∀z,z∈ag (n.take r)\/z∈row n r->z∈ag n:=λr kR z I=>by
  have e:ag n=ag (n.take<|r+1)++ag (n.drop<|r+1):=by
   unfold ag;rw[<-Dj,Db]
  rw[e,V9 kR]
  obtain h|h:=I<;>simp[h]
 refine bQ<|bP (Ry rfl) T.sorted CW<|ai<|q0r (aP zW) x9 ya 3 (eB bd)<|ae 0 ⟨R,rfl,⟨_,aj.of u.lst⟩,λD hD cl C æ ç ex=>?_⟩;refine w6 (xs:=as.map λa=>V.ref a.1) (λr c i=>(∃v1 v2 j,c=[(some (.ref R))]++[v1,v2,j])/\∃zs:Ñ,ah H i/\i D=some (bj P w D zs)/\zs.Nodup/\∀z,z∈zs↔z∈ag (n.take r)) ⟨⟨none,none,none,rfl⟩,[],aM hD _,av,Cn,λz=>WM⟩ ?_ ?_ ?_
 ·rintro r c i _ ⟨_,zs,d,_⟩;exact aj.of<|d _ _ u.lst
 ·rintro r x c i k ⟨⟨v1,v2,j,rfl⟩,zs,d,v,A,m⟩;have J:r<n.length:=by
   have:=(Ac.mp k).1;rw[Aa]at this;omega
  obtain⟨a,ea,fA,et,L,er⟩:=(u.same d).at J;rw[Ah,ea]at k;cases k;refine jT rfl (aS.of et) (a8 1 M5<|a8 2 M5 ?_);refine iA ?_;rw[BP rfl];refine AM rfl rfl (eB bd) (ae 2 ⟨a.2,rfl,⟨_,aj.of L⟩,?_⟩);have M:=bV L v λz=>nomatch z;refine w6 (xs:=(row n r).map V.str) (λp c s=>(∃j,c=[(some (.ref R))]++[some<|.str n[r].1,some<|.ref a.2,j])/\∃zs:Ñ,(∀b o,b≠D->i b=some o->s b=some o)/\s D=some (bj P w D zs)/\zs.Nodup/\∀z,z∈zs↔z∈ag (n.take r)\/z∈(row n r).take p)
   ⟨⟨_,rfl⟩,zs,λb o _ h=>h,v,A,λz=>by rw[m z];simp⟩ ?_ ?_ ?_
  ·rintro p c s _ ⟨_,zs,t,_⟩;exact aj.of<|t _ _ M L
  ·rintro p x c s k ⟨⟨j,rfl⟩,zs,t,N,B,G⟩;rw[Ah,Ar]at k;obtain⟨z,I,rfl⟩:=k;refine a8 3 M5<|iA ?_;rw[BP rfl];have O:=Y zs B λy U=>M6 r J y<|((G y).mp U).imp id λh=>List.mem_of_mem_take h;refine NG (ae 3 ⟨z,zs,rfl,N,(by omega),⟨_,rfl⟩,added zs z,λb o hb h=>by rw[au hb];exact t b o hb h,av,Iq B,λy=>?_⟩);rw[LH,G y,Bx,I,or_assoc];simp
  ·rintro c s ⟨⟨j,rfl⟩,zs,t,N,B,G⟩;refine⟨⟨_,_,_,rfl⟩,zs,λb o h=>t b o (bh h hD)<|d _ _ h,N,B,λz=>?_⟩;rw[G z,Aa,Br,V9 J,An]
 ·rintro c i ⟨_,zs,d,v,A,m⟩;rw[Aa,b4,Br]at m;refine ax ⟨D,zs,rfl,v,Y zs A λy U=>(m y).mp U,λl ss O hp hs=>?_⟩;exact q l ss _ (d.trans<|aM O _) (jV d O) av (hp.nodup_iff.mpr A) hs λz=>by rw[hp.mem_iff,m z]
end
end Q1
namespace Q1
open PySem L2 Nt bD
open PyProof.Rows (sortedS)
def M7:Sp:=λf H Q _=>∃R W as n d a,f=[.ref R,.ref W]/\al H R as n/\(n.map (·.1)).Nodup/\n.length<=1000/\(ag n).length<=1000/\H W=some (.lst<|d.map V.ref)/\fb n H d a/\(∀e∈a,e∈ends n)/\a.length<=1000/\(∀l:Ñ,l.Nodup->(∀z∈l,z∈a.map (ay n))->l.length<64) /\
 ∀l b c,ah H c->H l=none->c l=some (Ls b)->cD b->(∀z,z∈b↔(a.map<|ay n).count z=1)->Q (.ref l) c
variable{Z:Heap}{mg:Ò}{K:aa}{fd:FuncData}{f:Addr}
section
variable{P:Program}{w:World}
abbrev M8:Ñ:=["rows","walker","names","gone"]
abbrev yb:Ñ:=["rows","walker","names","gone","end"]
abbrev yc:Ñ:=["rows","walker","names","gone","tie"]
def yd:ak M8 ["rows","walker"] (aP vT):=bZ
def ei:yb.Nodup:=by decide +kernel
def eu:yc.Nodup:=by decide +kernel
theorem cb(F:bo K "core_of" "core_of" vT f fd)(T:Txt mg)
  (GT:aQ P w K mg Z 2 "ties_by_end" ["rows"] nJ):aD P w K mg Z bz 3 f fd ["rows","walker"] M7:=by
 refine F.gc yd λb0 H vs Q E B h=>?_;obtain⟨R,W,as,n,G,a,rfl,hR,hN,hn,iN,hW,I,qS,Ö,J,q⟩:=h;have nd:=yd.nd;have cj:=B.u1;have hl:=I.1;refine aT 2 nd<|bG GT B<|ai<|ae 0<|ax ⟨R,as,n,rfl,hR,hN,hn,iN,λd Y H1 u Jt ed qm=>?_⟩;have M:=u _ _ hW;have y:=I.same u;refine aT 3 nd<|gu (aP vT) M8 yb 1 (eB bd)<|ae 1 ⟨W,rfl,⟨_,aj.of M⟩,λD N=>?_⟩;refine jS (xs:=G.map V.ref) (λi b c=>(∃v,b=[(some (.ref R)),(some (.ref W)),(some (.ref d)),none]++[v])/\ah H1 c/\c D=some (Ls<|(a.take i).map<|ay n)) ⟨⟨none,rfl⟩,aM N _,av⟩ ?_ ?_ ?_
 ·rintro i b c _ ⟨_,j,_⟩;exact aj.of<|j _ _ M
 ·rintro i x b c O ⟨⟨v,rfl⟩,j,m⟩;rw[Ah,Ar]at O;obtain⟨t,U,rfl⟩:=O;have hi:i<a.length:=by have:=(Ac.mp U).1;omega
  have r:=Ab hi;have me:a.take (i+1)=a.take i++[a[i]]:=by rw[Bx,r];rfl
  generalize nN:a[i]=e at r me;have mh:=j _ _<|y.2 i t e U r;have tQ:=qS e<|At r;obtain⟨z,s⟩:=af.mp tQ;have k6:=dJ s;intro o C æ ç p;refine a8 4 ei ?_;intro o C æ ç p;refine iA ?_;rw[BP rfl];intro o C æ ç p;refine eU cj<|ae 2<|ae 4 ⟨d,.str z,rfl,(by rw[<-qm e z s];exact aX.t (j _ _ ed) mh),_,m,?_,⟨_,rfl⟩,cX j N,?_⟩
  ·rw[Aa,Aa,Bh];exact bI<|(by omega)
  ·rw[av,me,Aj];show some (HO.lst<|((a.take i).map<|ay n).map V.str++[V.str z])=some (HO.lst<|((a.take i).map (ay n)++[ay n e]).map V.str);rw[Aj];show some (HO.lst<|((a.take i).map<|ay n).map V.str++[V.str z])=some (HO.lst<|((a.take i).map<|ay n).map V.str++[V.str<|ay n e]);rw[k6]
 rintro b c ⟨_,j,m⟩;have rT:a.take (G.map V.ref).length=a:=Ck (by rw[Aa];omega);rw[rT]at m;generalize MH:a.map (ay n)=L at m J q;have K6:L.length<=1000:=by rwa[<-MH,Aa]
 refine bQ<|bP vM T.sorted CW<|ai<|gu (aP vT) M8 yc 1 (eB bd)<|ae 3 ⟨D,rfl,⟨_,aj.of m⟩,λD3 A=>?_⟩;have n3:D≠D3:=bh m A;refine qO (λz=>decide (L.count z=1)) (bI<|(by omega)) m A (λo C s0 H0 p v v0 c R' h=>a8 4 eu h) (λo C s0 H0 p z zs T' h=>hU<|cH jl<|zF DW TV TX VA<|ae 3 (v:= .ref D) ⟨Or.inl ⟨rfl,_,aj.of<|by rwa[au n3]⟩,ae 4 ⟨D,L,z,rfl,rfl,aj.of (by rwa[au n3]),aE ⟨rfl,_,rfl,?_⟩⟩⟩) (λo C s0 H0 p z c R' h=>ae 4 h) ?_
 ·have ek:decide (V.int (L.count z:Int)=V.int 1)=decide (L.count z=1):=decide_eq_decide.mpr ⟨λk=>by have:=V.int.inj k;omega,λk=>by rw[k];rfl⟩;show T' (decide (V.int (L.count z:Int)=V.int 1)) _;rwa[ek]
 refine ax ⟨D3,_,rfl,aj.of av,J _ (CF L) λz s=>(Bg.mp s).1,λl ss g9 db gP=>?_⟩;have s3:=u.trans<|j.trans<|aM A<|Ls<|L.filter λz=>decide (L.count z=1);exact q l ss _ (s3.trans<|aM g9 _) (s3.free g9) av (tX gP<|db.nodup_iff.mpr<|CF L) λz=>by rw[db.mem_iff];exact VV L z
abbrev Lz(l:List Int):HO:= .lst<|l.map V.int
abbrev mI(x:Nz.Bl Int):HO:= .tup [.int x.1,.int x.2.1,.bl x.2.2]
abbrev cm(H:Hp)(a:List Addr)(b:List<|Nz.Bl Int):Prop:=li (Sum.inl:Int->Key) H a b
abbrev M9:Sp:=Vq (Sum.inl:Int->Key)
def TZ(F:bo K "spread" "spread" vR f fd)(T:Txt mg):aD P w K mg Z bz 1 f fd ["first","links"] M9:=Vr (λ_ _ h=>Sum.inl.inj h) (λ_ _=>rfl) F T
end
end Q1
namespace Nt
open PySem L2
theorem Nb(z:Str):∀L:Ñ,decide (L.count z%2=1)=aC (L.map λy=>decide (z=y))
 |[]=>rfl
 |y :: L=>by
  show _=(decide (z=y) ^^ aC (L.map λy=>decide (z=y)));rw[<-Nb z L,Dq]
  by_cases h:z=y
  ·subst h;rw[BW rfl,OJ,BP rfl,Bool.true_xor,<-decide_not];exact decide_eq_decide.mpr<|(by omega)
  ·rw[BR h,BK λq=>h (eq_of_beq q).symm,Gf];rfl
theorem Nc{α c:Type}(f:α->c->Bool)(M:List c):∀L:List α,aC (L.map λa=>aC<|M.map λb=>f a b)=aC (M.map λb=>aC<|L.map λa=>f a b)
 |[]=>(qY M).symm
 |a :: L=>by
  show(aC (M.map λb=>f a b) ^^ aC (L.map λa=>aC<|M.map λb=>f a b))=aC (M.map λb=>f a b ^^ aC (L.map λa=>f a b));rw[Nc f M L,kL (λb=>f a b) λb=>aC<|L.map λa=>f a b]
theorem map_range{α b:Type}(l:List α)(f:α->b)(g:Nat->b)(h:∀k x,l[k]?=some x->g k=f x):l.map f=(range l.length).map g:=by
 apply Dv;intro k;rw[Ah,Ah]
 by_cases a:k<l.length
 ·rw[Ab a,Ek a];exact BZ some (h k _<|Ab a).symm
 ·rw[Bd (by omega),Bd<|by simp;omega];rfl
def rx{α:Type}(l:List α)(f g:α->Bool)(h:∀k,k<l.length->∃x y,l[k]?=some x/\l[(k+1)%l.length]?=some y/\g x=f y):aC (l.map g)=aC (l.map f):=by
 let F:Nat->Bool:=λk=>match l[k]? with|some x=>f x|none=>false
 have c:=map_range l f F λk x a=>by show(match l[k]? with|some x=>f x|none=>false)=_;rw[a]
 have d:l.map g=(range l.length).map λk=>F ((k+1)%l.length):=map_range l g _ λk x a=>by
  obtain⟨j,y,b,e,i⟩:=h k (Ac.mp a).1;rw[a]at b;cases b;show(match l[(k+1)%l.length]? with|some x=>f x|none=>false)=_;rw[e];exact i.symm
 rw[c,d,Jw]
theorem Nf(F:Nat->Bool):∀m,(∀i,i<m->F (2*i+1)=F (2*i))->aC ((range<|2*m).map F)=false
 |0,_=>rfl
 |m+1,h=>by
  rw[show 2*(m+1)=2*m+1+1 by omega,Dc,Dc,Aj,Aj,ni,ni,Nf F m λi a=>h i<|(by omega)];show((false ^^ (F (2*m) ^^ false)) ^^ (F (2*m+1) ^^ false))=false;rw[h m<|(by omega)];cases F (2*m)<;>rfl
variable{e:ff}{n:fo}
def Wa(T:aw n)(h:e∈ends n):step n (other n<|go (-1) n e)=other n e:=by
 have a:=gB (c:=-1) T h;obtain⟨z,b⟩:=af.mp a;show left n (other n<|other n<|go (-1) n e)=_;rw[(dk T b).2.1,AO a];show dW 1 n (dW (-1) n<|other n e)=_;have:=o6 (c:=-1)<|dD T h;rwa[Int.neg_neg]at this
def di(n:fo)(w:List ff)(z:Str):Bool:=decide ((w.map<|ay n).count z%2=1)
variable{w:List ff}
def ey(T:aw n)(W:kI n w):fm n (di n w):=λr=>by
 have b:(row n r).map (di n w)=(row n r).map λz=>aC (w.map λe=>decide (z=ay n e)):=Bo λz _=>by
  unfold di;rw[Nb,Cg];rfl
 rw[b,Nc λz e=>decide (z=ay n e)];have d:(w.map λe=>aC<|(row n r).map λz=>decide (z=ay n e))=w.map λe=>(decide (r=e.1) ^^ decide (r=(other n e).1)):=Bo λe f=>by
  obtain⟨z,a⟩:=af.mp<|W.ends e f;rw[dJ a];exact T6 T a r
 rw[d,kL (λe=>decide (r=e.1)) λe=>decide (r=(other n e).1)];rw[rx w (λe=>decide (r=e.1)) (λe=>decide (r=(other n e).1)) λk h=>by
  obtain⟨c,i,j⟩:=W.at' k h;exact⟨c,_,i,j,rfl⟩]
 cases aC (w.map λe=>decide (r=e.1))<;>rfl
variable{χ:ff->Bool}
theorem Sb(T:aw n)(W:kI n w){t:Str->Bool}(h:a9 n t χ):aC (w.map λe=>t<|ay n e)=false:=by
 have o:(w.map λe=>t<|ay n e)=w.map λe=>(χ e ^^ χ (other n e)):=Bo λe q=>by
  obtain⟨z,l⟩:=af.mp<|W.ends e q;rw[dJ l];exact h.dq e z l
 rw[o,kL χ λe=>χ<|other n e];obtain⟨m,f⟩:∃m,w.length=2*m:=⟨w.length/2,by have:=W.even;omega⟩;have r:aC (w.map χ)=false:=by
  let F:Nat->Bool:=λk=>match w[k]? with|some x=>χ x|none=>false
  rw[map_range w χ F λk x j=>by show(match w[k]? with|some x=>χ x|none=>false)=_;rw[j],f];refine Nf F m λi s=>?_;obtain⟨c,a,b⟩:=W.at' (2*i) (by omega);rw[Cf (by omega),show(1:Int)-2*(((2*i:Nat):Int)%2)=1 by omega]at b;show(match w[2*i+1]? with|some x=>χ x|none=>false)=(match w[2*i]? with|some x=>χ x|none=>false);rw[a,b];have d:=W.ends c<|At a;show χ (go 1 n c)=χ c;rw[<-Tc T d];exact h.go c d
 have u:aC (w.map λe=>χ<|other n e)=false:=by
  let F:Nat->Bool:=λk=>match w[k]? with|some x=>χ (other n x)|none=>false
  rw[map_range w (λe=>χ<|other n e) F λk x j=>by show(match w[k]? with|some x=>χ (other n x)|none=>false)=_;rw[j],<-Jw F,f];refine Nf (λp=>F<|(p+1)%(2*m)) m λi s=>?_;obtain⟨c,a,b⟩:=W.at' (2*i+1) (by omega);rw[f,show(1:Int)-2*(((2*i+1:Nat):Int)%2)=-1 by omega]at b;show(match w[(2*i+1+1)%(2*m)]? with|some x=>χ (other n x)|none=>false)=(match w[(2*i+1)%(2*m)]? with|some x=>χ (other n x)|none=>false);rw[b,Cf (show 2*i+1<2*m by omega),a];have d:=W.ends c<|At a;show χ (other n<|go (-1) n c)=χ (other n c);rw[<-Wa T d];exact(h.go _<|dD T<|gB T d).symm
 rw[r,u];rfl
def cf(zs:Ñ)(t s:Str->Bool):Bool:=aC<|zs.map λz=>t z && s z
def Wb(zs:Ñ)(t u s:Str->Bool):cf zs (λz=>t z ^^ u z) s=(cf zs t s ^^ cf zs u s):=by
 unfold cf;rw[<-kL (λz=>t z && s z) λz=>u z && s z]
 congr 1
 refine Bo λz _=>?_;show((t z ^^ u z) && s z)=_;cases t z<;>cases u z<;>cases s z<;>rfl
theorem Ng{s:Str->Bool}{y:Str}:∀{zs},zs.Nodup->y∈zs->cf zs (λz=>decide (z=y)) s=s y
 |z :: zs,a,b=>by
  have a:=Bk.mp a;show((decide (z=y) && s z) ^^ cf zs (λz=>decide (z=y)) s)=s y
  by_cases h:z=y
  ·subst h;have:cf zs (λx=>decide (x=z)) s=false:=by
    unfold cf;have e:(zs.map λx=>decide (x=z) && s x)=zs.map λ_=>false:=Bo λx c=>by
     have ne:¬ x=z:=λq=>a.1<|q ▸ c;rw[BR ne];rfl
    rw[e,qY]
   rw[this,BW rfl];cases s z<;>rfl
  ·rw[BR h,Ng a.2<|(Al.mp b).resolve_left<|CG h];cases s y<;>rfl
variable{zs:Ñ}
theorem qx{n:fo}(a:zs.Nodup){t:Str->Bool}:∀{L:Ñ},(∀y∈L,y∈zs)->cf zs t (λz=>decide (L.count z%2=1))=aC (L.map t)
 |L,b=>by
  unfold cf;have e:(zs.map λz=>t z && decide (L.count z%2=1))=zs.map λz=>aC (L.map λy=>t z && decide (z=y)):=Bo λz _=>by
   rw[Nb];cases t z
   ·show false=aC (L.map λ_=>false);rw[qY]
   ·rfl
  rw[e,Nc λz y=>t z && decide (z=y)]
  congr 1
  refine Bo λy c=>?_;have:=Ng (s:=t) a<|b y c;rw[<-this];unfold cf
  congr 1
  refine Bo λz _=>?_;rw[Bool.and_comm]
variable{ss:Ñ}
theorem Wc(T:aw n)(w:(n.map (·.1)).Nodup)(A:zs.Nodup)(f:∀z,z∈zs↔z∈ag n){x:Str}{b:Bool}(h:Way (dE n ss) (bn n) x b):
  ∃t:Str->Bool,(∀r,r<n.length->aC ((row n r).map t)=(decide (aH n r=bn n) ^^ decide (aH n r=x)))/\cf zs t (λz=>decide (z∈ss))=b:=by
 have add:∀{x y}{o b},(∃e z,aJ n e=some z/\((x=aH n e.1/\y=aH n (other n e).1)\/(y=aH n e.1/\x=aH n (other n e).1))/\o=decide (z∈ss))->(∃t:Str->Bool,(∀r,r<n.length->aC ((row n r).map t)=(decide (aH n r=bn n) ^^ decide (aH n r=x)))/\cf zs t (λz=>decide (z∈ss))=b) ->
   ∃t:Str->Bool,(∀r,r<n.length->aC ((row n r).map t)=(decide (aH n r=bn n) ^^ decide (aH n r=y)))/\cf zs t (λz=>decide (z∈ss))=(b != o):=by
  rintro x y o b ⟨e,z,d,B,rfl⟩ ⟨t,c,a⟩;refine⟨λu=>t u ^^ decide (u=z),λr s=>?_,?_⟩
  ·rw[kL t λu=>decide (u=z),c r s,T6 T d r];have v:∀i,i<n.length->decide (r=i)=decide (aH n r=aH n i):=λi C=>decide_eq_decide.mpr ⟨λq=>by rw[q],λq=>tZ w s C q⟩;rw[v _<|cS d,v _<|pj T d]
   obtain⟨j,k⟩|⟨j,k⟩:=B
   ·rw[<-j,<-k];cases decide (aH n r=bn n)<;>cases decide (aH n r=x)<;>cases decide (aH n r=y)<;>rfl
   ·rw[<-j,<-k];cases decide (aH n r=bn n)<;>cases decide (aH n r=x)<;>cases decide (aH n r=y)<;>rfl
  ·rw[Wb,a,Ng A<|(f z).mpr<|eG d]
 have lk:∀{x y:Str}{o:Bool},(x,y,o)∈dE n ss->∃e z,aJ n e=some z/\((x=aH n e.1/\y=aH n (other n e).1))/\o=decide (z∈ss):=λ{x y o}f=>by
  obtain⟨e,z,c,a⟩:=(wC).JI _ f;exact⟨e,z,c,⟨BZ (·.1) a,BZ (·.2.1) a⟩,BZ (·.2.2) a⟩
 induction h with
 |here=>exact⟨λ_=>false,λr _=>by rw[qY];cases decide (aH n r=bn n)<;>rfl,by unfold cf;exact qY zs⟩
 |there _ l m=>
  obtain⟨e,z,c,a,p⟩:=lk l;exact add ⟨e,z,c,.inl a,p⟩ m
 |back _ l m=>
  obtain⟨e,z,c,a,p⟩:=lk l;exact add ⟨e,z,c,.inr ⟨a.1,a.2⟩,p⟩ m
theorem t6(T:aw n)(J:ce n)(A:(n.map (·.1)).Nodup)(B:0<n.length)(E:zs.Nodup)(G:∀z,z∈zs↔z∈ag n)(L:∀z∈ss,z∈ag n)(M:∀t,fm n t->cf zs t (λz=>decide (z∈ss))=false):∃w,bg n ss w:=by
 classical
 have y:∀{x b c},Way (dE n ss) (bn n) x b->Way (dE n ss) (bn n) x c->b=c:=λ{x b c}o v=>by
  obtain⟨t,N,O⟩:=Wc T A E G o;obtain⟨u,Q,U⟩:=Wc T A E G v;have:=M (λz=>t z ^^ u z) λr=>by
   by_cases a:r<n.length
   ·rw[kL t u,N r a,Q r a];cases decide (aH n r=bn n)<;>cases decide (aH n r=x)<;>rfl
   ·have:row n r=[]:=by
     unfold row;rw[Bd<|(by omega)];rfl
    rw[this];rfl
  rw[Wb,O,U]at this;cases b<;>cases c<;>first|rfl|cases this
 have next:∀{e:ff}{z:Str}{b:Bool},aJ n e=some z->Way (dE n ss) (bn n) (aH n e.1) b->Way (dE n ss) (bn n) (aH n (other n e).1) (b != decide (z∈ss)):=λ{e z b}l h=>by
  obtain t|t:=(wC).to e z l
  ·exact .there h t
  ·exact .back h t
 have all:=λr a=>by
  have:=J (λx=>∃b,Way (dE n ss) (bn n) x b) ⟨n[0],Bp B,false,by rw[<-gW B];exact .here⟩ (λr a s Y t tr ts⟨b,d⟩=>?_) n[r]<|Bp a
  ·rwa[<-gW a]at this
  ·obtain⟨i,f,rfl⟩:=Co.mp a;obtain⟨j,H,rfl⟩:=Co.mp Y;obtain⟨p,I⟩:=Bj tr;obtain⟨q,hq⟩:=Bj ts;have o:aJ n (i,p)=some t:=by show(row n i)[p]?=_;rwa[ic f]
   have v:aJ n (j,q)=some t:=by show(row n j)[q]?=_;rwa[ic H]
   obtain e|e:=(iH T o).mp v
   ·have:j=i:=BZ (·.1) e;subst this;exact⟨b,d⟩
   ·rw[<-gW f]at d;have:=next o d;rw[<-e]at this;exact⟨_,by rwa[<-gW H]⟩
 obtain⟨w,o,v⟩:=Mw<|((range n.length).filter λr=>decide (Way (dE n ss) (bn n) (aH n r) true)).map<|aH n;have m:∀r,r<n.length->∀b,Way (dE n ss) (bn n) (aH n r) b->decide (aH n r∈w)=b:=λr a b d=>by
  have:aH n r∈w↔b=true:=by
   rw[v,Ai]
   constructor
   ·rintro ⟨i,f,e⟩;rw[Bg,Bc]at f;have:=tZ A f.1 a e;subst this;exact y d<|BX f.2
   ·intro e;subst e;exact⟨r,Bg.mpr ⟨Bc.mpr a,BW d⟩,rfl⟩
  by_cases q:b=true
  ·rw[q];exact BW<|this.mpr q
  ·rw[Bool.not_eq_true]at q;rw[q];exact BR λk=>by rw[this.mp k]at q;cases q
 refine⟨w,o,λx C=>?_,λC=>?_,λz=>?_⟩
 ·obtain⟨i,f,rfl⟩:=Ai.mp<|(v x).mp C;exact iI<|Bc.mp (Bg.mp f).1
 ·have:=m 0 B false .here;exact absurd C<|GJ this
 ·by_cases D:z∈ag n
  ·obtain⟨p,I⟩:∃p,p∈pos n z:=by
    have:pos n z≠[]:=λq=>by have:=qA n z;rw[q,T z D]at this;cases this
    exact Es _ this
   have l:=aK.mp I;obtain⟨b,d⟩:=all p.1<|cS l;have hc:=next l d;rw[kS T l,m _ (cS l) b d,m _ (pj T l) _ hc]
   constructor
   ·intro h;rw[BW h];cases b<;>rfl
   ·intro h;refine GK λk=>?_;rw[BR k]at h;cases b<;>cases h
  ·exact⟨λh=>absurd (L z h) D,λh=>absurd (wB h) D⟩
def Ni(T:aw n)(h:e∈ends n):two n (other n<|two n e)=other n e:=by
 have g1:=gB (c:=1) T h;have a:=m9 T h;obtain⟨z,b⟩:=af.mp a;obtain⟨y,d⟩:=af.mp g1;have f:go 1 n (other n<|two n e)=other n (go 1 n e):=by
  show dW 1 n (other n<|other n<|two n e)=_;rw[(dk T b).2.1];show dW 1 n (dW (-1) n<|other n<|go 1 n e)=_;have:=o6 (c:=-1)<|dD T g1;rwa[Int.neg_neg]at this
 show go (-1) n (go 1 n<|other n<|two n e)=_;rw[f];show dW (-1) n (other n<|other n<|go 1 n e)=_;rw[(dk T d).2.1];exact o6<|dD T h
def jZ(T:aw n)(h:e∈ends n)(k:Nat):it (two n) k e∈ends n:=kz (λa b=>m9 T b) h k
theorem Wd{α:Type}(f:α->α)(a:α):∀k,it f k (f a)=it f (k+1) a
 |0=>rfl
 |k+1=>by show f (it f k<|f a)=f (it f (k+1) a);rw[Wd f a k]
theorem uk{α:Type}(f:α->α)(a:α)(i:Nat):∀j,it f (i+j) a=it f j (it f i a)
 |0=>rfl
 |j+1=>by show f (it f (i+j) a)=f (it f j<|it f i a);rw[uk f a i j]
def oy(T:aw n)(h:e∈ends n):two n e≠other n e:=λq=>by
 have g1:=gB (c:=1) T h;obtain⟨y,a⟩:=af.mp g1;have b:dW (-1) n (go 1 n e)=other n e:=o6<|dD T h;have d:=q;exact(dk T a).2.2<|Ta (dD T g1) g1<|d.trans b.symm
theorem Wf{n:fo}(T:aw n):∀k{e},e∈ends n->it (two n) k e≠other n e
 |0,e,h=>λq=>by
  obtain⟨z,b⟩:=af.mp h;exact(dk T b).2.2 q.symm
 |1,e,h=>oy T h
 |k+2,e,h=>λq=>by
  have c:two n (it (two n) (k+1) e)=two n (other n<|two n e):=by rwa[Ni T h]
  have a:=wm T (jZ T h<|k+1) (dD T<|m9 T h) c;rw[<-Wd]at a;exact Wf T k (m9 T h) a
def ye(T:aw n){a b:ff}(e:a∈ends n)(f:b∈ends n)(h:ay n a=ay n b):b=a\/b=other n a:=by
 obtain⟨z,c⟩:=af.mp e;obtain⟨y,d⟩:=af.mp f;rw[dJ c,dJ d]at h;subst h;exact(iH T c).mp d
theorem Sc(T:aw n)(h:e∈ends n){k:Nat}(p:jw n e k){i j:Nat}(o:i<j)(r:j<k):it (two n) i e≠it (two n) j e:=λq=>by
 have inj:∀(m:Nat){a b:ff},a∈ends n->b∈ends n->it (two n) m a=it (two n) m b->a=b:=λm=>by
  induction m with
  |zero=>intro a b _ _ q;exact q
  |succ m f=>intro a b c d q;exact f c d<|wm T (jZ T c m) (jZ T d m) q
 have l:it (two n) j e=it (two n) i (it (two n) (j-i) e):=by rw[<-uk,show j-i+i=j by omega]
 rw[l]at q;have:=inj i h (jZ T h _) q;exact p.first (j-i) (by omega) (by omega) this.symm
theorem i3(T:aw n)(h:e∈ends n){k:Nat}(p:jw n e k){i j:Nat}(a:i<j)(b:j<k):ay n (it (two n) i e)≠ay n (it (two n) j e):=λq=>by
 obtain c|c:=ye T (jZ T h i) (jZ T h j) q
 ·exact Sc T h p a b c.symm
 ·rw[show j=i+(j-i) by omega,uk]at c;exact Wf T (j-i) (jZ T h i) c
variable{x:ff}
def qp(T:aw n){y:ff}(a:x∈ends n)(b:y∈ends n)(q:ay n (go 1 n x)=ay n (go 1 n y)):x=y\/two n y=other n x:=by
 have g1:=gB (c:=1) T a
 obtain c|c:=ye T g1 (gB T b) q
 ·exact .inl (go_inj T b a c).symm
 ·refine .inr ?_;obtain⟨z,d⟩:=af.mp g1;show go (-1) n (go 1 n y)=_;rw[c];show dW (-1) n (other n<|other n<|go 1 n x)=_;rw[(dk T d).2.1];exact o6<|dD T a
theorem Wg(n:fo)(e:ff):∀k,((wk n e k).map<|ay n).Perm<|((range k).map λi=>ay n<|it (two n) i e)++(range k).map λi=>ay n<|go 1 n<|it (two n) i e
 |0=>List.Perm.refl _
 |k+1=>by
  rw[Dc,Aj,Aj];show((wk n e k++[it (two n) k e,go 1 n<|it (two n) k e]).map<|ay n).Perm _;rw[Aj];refine((Wg n e k).append_right _).trans ?_;generalize ((range k).map λi=>ay n<|it (two n) i e)=A;generalize ((range k).map λi=>ay n<|go 1 n<|it (two n) i e)=B;show(A++B++[ay n<|it (two n) k e,ay n<|go 1 n<|it (two n) k e]).Perm ((A++[ay n<|it (two n) k e])++(B++[ay n<|go 1 n<|it (two n) k e]));rw[Au,Au];refine PB A ?_;show(B++([ay n<|it (two n) k e]++[ay n<|go 1 n<|it (two n) k e])).Perm ([ay n<|it (two n) k e]++(B++[ay n<|go 1 n<|it (two n) k e]));rw[<-Au,<-Au];exact VF _ Ci
noncomputable def cY(n:fo)(e:ff):List ff:=aq<|walker n e
def Nj{k:Nat}(p:jw n e k):cY n e=(range k).map λi=>it (two n) i e:=by
 unfold cY walker;rw[wo p,MX]
theorem Wh{n:fo}{e:ff}{k:Nat}(h:it (two n) k e=e):∀m,it (two n) (k*m) e=e
 |0=>rfl
 |m+1=>by rw[Nat.mul_succ,Nat.add_comm,uk,h,Wh h m]
def jF(T:aw n)(h:e∈ends n):x∈cY n e↔∃i,it (two n) i e=x:=by
 obtain⟨k,p,_⟩:=tR T h;rw[Nj p,Ai]
 constructor
 ·rintro ⟨i,_,q⟩;exact⟨i,q⟩
 ·rintro ⟨i,q⟩;have a:=p.pos;refine⟨i%k,Bc.mpr<|Gw _ a,?_⟩;rw[<-q];have:=Nat.div_add_mod i k
  conv=>rhs;rw[<-this]
  rw[uk,Wh p.back]
def ul(T:aw n)(h:e∈ends n):∀x∈cY n e,x∈ends n:=λx a=>by
 obtain⟨i,q⟩:=(jF T h).mp a;rw[<-q];exact jZ T h i
theorem Nk(T:aw n)(h:e∈ends n)(a:x∈cY n e):∃y∈cY n e,two n y=x:=by
 obtain⟨i,q⟩:=(jF T h).mp a;obtain⟨k,p,_⟩:=tR T h;have b:=p.pos;refine⟨it (two n) (i+k-1) e,(jF T h).mpr ⟨_,rfl⟩,?_⟩;show it (two n) (i+k-1+1) e=x;rw[show i+k-1+1=k+i by omega,uk,p.back,q]
def Nm(T:aw n)(h:e∈ends n)(a:x∈cY n e):two n x∈cY n e:=by
 obtain⟨i,q⟩:=(jF T h).mp a;exact(jF T h).mpr ⟨i+1,by rw[<-q];rfl⟩
def Wi(T:aw n)(h:e∈ends n)(b:x∈ends n):ay n x∈(cY n e).map (ay n)↔x∈cY n e\/other n x∈cY n e:=by
 rw[Ai]
 constructor
 ·rintro ⟨y,a,q⟩
  obtain c|c:=ye T b (ul T h y a) q.symm
  ·exact .inl<|c ▸ a
  ·exact .inr<|c ▸ a
 ·rintro (c|c)
  ·exact⟨x,c,rfl⟩
  ·refine⟨_,c,?_⟩;obtain⟨z,d⟩:=af.mp b;rw[dJ d,dJ (dk T d).1]
def Wj(T:aw n)(h:e∈ends n):other n (other n e)=e:=by
 obtain⟨z,a⟩:=af.mp h;exact(dk T a).2.1
def yf(n:fo)(a:Ñ):Prop:=∀x∈ends n,(ay n (two n x)∈a↔ay n x∈a)
theorem Wk{n:fo}(T:aw n){a:Ñ}(C:yf n a){e:ff}(h:e∈ends n):∀i,ay n (it (two n) i e)∈a↔ay n e∈a
 |0=>WM
 |i+1=>(C _<|jZ T h i).trans<|Wk T C h i
def q9c(T:aw n)(h:e∈ends n):yf n ((cY n e).map<|ay n):=λx a=>by
 rw[Wi T h<|m9 T a,Wi T h a]
 constructor
 ·rintro (c|c)
  ·obtain⟨y,b,q⟩:=Nk T h c;exact .inl<|wm T (ul T h y b) a q ▸ b
  ·have:=Nm T h c;rw[Ni T a]at this;exact .inr this
 ·rintro (c|c)
  ·exact .inl<|Nm T h c
  ·obtain⟨y,b,q⟩:=Nk T h c;have d:=ul T h y b;have f:two n x=other n y:=by
    rw[<-Wj T a,<-q,Ni T d]
   exact .inr<|by rwa[f,Wj T d]
structure pL(n:fo)(es:List ff)(told:Ñ)(ws:List<|List ff):Prop where
 nd:((ws.flatMap aq).map<|ay n).Nodup
 new:∀x∈ws.flatMap aq,x∈ends n/\ay n x∉told
 cov:∀e∈es,ay n e∈told\/ay n e∈(ws.flatMap aq).map (ay n)
 wk:∀w∈ws,∃e,e∈ends n/\w=walker n e
theorem Nn{n:fo}(T:aw n):∀o c,(∀e∈o,e∈ends n)->yf n c->pL n o c (eW n o c)
 |[],c,_,_=>by
  unfold eW;exact⟨Cn,λx f=>(nomatch f),λe l=>(nomatch l),λw m=>(nomatch m)⟩
 |e :: r,c,l,C=>by
  have h:=l e<|Ag ..;unfold eW
  by_cases q:ay n e∈c
  ·rw[BP q];have I:=Nn T r c (λa d=>l a<|Ak _ d) C;refine⟨I.nd,I.new,λa d=>?_,I.wk⟩
   obtain rfl|d:=Al.mp d
   ·exact .inl q
   ·exact I.cov a d
  ·rw[BK q];have t:yf n (c++(aq<|walker n e).map (ay n)):=λx f=>by
    rw[An,An];exact or_congr (C x f)<|q9c T h x f
   have I:=Nn T r _ (λa d=>l a<|Ak _ d) t;have fresh:∀x∈cY n e,x∈ends n/\ay n x∉c:=λx f=>by
    obtain⟨i,k⟩:=(jF T h).mp f;refine⟨ul T h x f,λz=>q ?_⟩;rw[<-k]at z;exact(Wk T C h i).mp z
   refine⟨?_,λx f=>?_,λa d=>?_,λw m=>?_⟩
   ·rw[Cm,Aj,Cj];refine⟨?_,I.nd,λa d b u k=>?_⟩
    ·obtain⟨k,p,_⟩:=tR T h;show((cY n e).map<|ay n).Nodup;rw[Nj p,Cg,Ay,Cs,Cc];intro i j y s v;rw[Ff,Ff];rw[Cy]at s;exact i3 T h p v s
    ·subst k;obtain⟨x,f,rfl⟩:=Ai.mp u;exact(I.new x f).2<|Av _ d
   ·rw[Cm]at f
    obtain k|k:=An.mp f
    ·exact fresh x k
    ·exact⟨(I.new x k).1,λz=>(I.new x k).2<|Az _ z⟩
   ·rw[Cm,Aj]
    obtain rfl|d:=Al.mp d
    ·exact .inr<|Az _<|Ai.mpr ⟨a,(jF T h).mpr ⟨0,rfl⟩,rfl⟩
    ·obtain k|k:=I.cov a d
     ·obtain k|k:=An.mp k
      ·exact .inl k
      ·exact .inr<|Az _ k
     ·exact .inr<|Av _ k
   ·obtain rfl|m:=Al.mp m
    ·exact⟨e,h,rfl⟩
    ·exact I.wk w m
def Wl(T:aw n)(h:e∈ends n):((walker n e).map<|ay n).Perm ((cY n e).map (ay n)++(cY n e).map λx=>ay n<|go 1 n x):=by
 obtain⟨k,p,_⟩:=tR T h;rw[Nj p,Cg,Cg];unfold walker;rw[wo p];exact Wg n e k
theorem Wm{n:fo}(T:aw n):∀{a:List (List ff)},(∀w∈a,∃e,e∈ends n/\w=walker n e)->(a.flatMap λw=>w.map<|ay n).Perm ((a.flatMap aq).map (ay n)++(a.flatMap aq).map λx=>ay n<|go 1 n x)
 |[],_=>List.Perm.refl _
 |w :: a,h=>by
  obtain⟨e,b,rfl⟩:=h w<|Ag ..;have I:=Wm T λw c=>h w<|Ak _ c;rw[Cm,Cm,Aj,Aj];refine((Wl T b).append I).trans ?_;show(((cY n e).map (ay n)++(cY n e).map λx=>ay n<|go 1 n x)++_).Perm (((cY n e).map (ay n)++_)++((cY n e).map (λx=>ay n<|go 1 n x)++_));generalize (cY n e).map (ay n)=A;generalize ((cY n e).map λx=>ay n<|go 1 n x)=B;generalize (a.flatMap aq).map (ay n)=D;generalize ((a.flatMap aq).map λx=>ay n<|go 1 n x)=F;rw[Au,Au];refine PB A ?_;rw[<-Au,<-Au];exact VF _ Ci
noncomputable abbrev aG(n:fo):List (List ff):=eW n (ends n) []
def q5j(n:fo):yf n []:=λx _=>by simp
def rZ(T:aw n):pL n (ends n) [] (aG n):=Nn T (ends n) [] (λ_ h=>h)<|q5j n
variable{z:Str}
def Np(T:aw n)(b:z∈ag n):(((aG n).flatMap aq).map<|ay n).count z=1:=by
 have I:=rZ T;rw[List.Nodup.count I.nd,BP];have:pos n z≠[]:=λq=>by have:=qA n z;rw[q,T z b]at this;cases this
 obtain⟨p,a⟩:=Es _ this;have a:=aK.mp a;have:=I.cov p<|af.mpr ⟨z,a⟩;rw[dJ a]at this
 obtain k|k:=this
 ·cases k
 ·exact k
def ku(T:aw n)(a:x∈(aG n).flatMap aq):two n x∈(aG n).flatMap aq:=by
 obtain⟨w,b,a⟩:=Di.mp a;obtain⟨e,c,rfl⟩:=(rZ T).wk w b;exact Di.mpr ⟨_,b,Nm T c a⟩
theorem Wn{α d:Type}{f:α->d}:∀{l:List α},l.Nodup->(∀a∈l,∀b∈l,f a=f b->a=b)->(l.map f).Nodup
 |[],_,_=>Cn
 |a :: l,h,inj=>by
  have h:=Bk.mp h;refine Bk.mpr ⟨λe=>?_,Wn h.2 λx i y j=>inj x (Ak _ i) y<|Ak _ j⟩;obtain⟨b,c,q⟩:=Ai.mp e;have:=inj a (Ag ..) b (Ak _ c) q.symm;exact h.1<|this ▸ c
theorem CY{α m:Type}{f:α->m}:∀{l:List α},(l.map f).Nodup->∀a∈l,∀b∈l,f a=f b->a=b
 |c :: l,h,a,n,b,i,q=>by
  rw[Bn,Bk]at h
  obtain j|k:=Al.mp n
  ·obtain d|e:=Al.mp i
   ·rw[j,d]
   ·exact absurd (Ai.mpr ⟨b,e,by rw[<-q,j]⟩) h.1
  ·obtain d|e:=Al.mp i
   ·exact absurd (Ai.mpr ⟨a,k,by rw[q,d]⟩) h.1
   ·exact CY h.2 a k b e q
theorem Wo{α b:Type}{f:α->b}:∀{l:List α},(l.map f).Nodup->l.Nodup
 |[],_=>Cn
 |a :: l,h=>by
  rw[Bn,Bk]at h;exact Bk.mpr ⟨λk=>h.1<|Ai.mpr ⟨a,k,rfl⟩,Wo h.2⟩
def Wp(T:aw n):(((aG n).flatMap aq).map λx=>ay n<|go 1 n x).Perm (((aG n).flatMap aq).map<|ay n):=by
 have I:=rZ T;refine wv (Wn (Wo I.nd) λx d y b q=>?_) (λz a=>?_)<|by rw[Aa,Aa];exact Am _
 ·have e:=(I.new x d).1;have f:=(I.new y b).1
  obtain c|c:=qp T e f q
  ·exact c
  ·exfalso
   have t:ay n (two n y)=ay n x:=by
    obtain⟨z,a⟩:=af.mp e;rw[c,dJ a,dJ (dk T a).1]
   have:=CY I.nd _ (ku T b) x d t;obtain⟨z,a⟩:=af.mp e;exact(dk T a).2.2<|c.symm.trans this
 ·obtain⟨x,d,rfl⟩:=Ai.mp a;obtain⟨y,b⟩:=af.mp<|gB (c:=1) T (I.new x d).1;rw[dJ b];refine Ed.mp ?_;rw[Np T<|eG b];exact Fr
def dV(T:aw n)(a:z∈ag n):((aG n).flatMap λw=>w.map<|ay n).count z=2:=by
 rw[(Wm T (rZ T).wk).count_eq,Fm,(Wp T).count_eq,Np T a]
theorem Wq(n:fo)(z:Str):∀a:List<|List ff,(a.flatMap λw=>w.map<|ay n).count z=(a.map λw=>(w.map<|ay n).count z).sum
 |[]=>rfl
 |w :: a=>by rw[Cm,Fm,Wq n z a];rfl
theorem Wr:∀(l:List Nat)(x:Nat),x∈l->x<=l.sum
 |y :: l,x,h=>by
  rw[Gn]
  obtain rfl|h:=Al.mp h
  ·omega
  ·have:=Wr l x h;omega
theorem Ms(T:aw n)(a:z∈ag n)(b:w∈aG n):(w.map<|ay n).count z<=2:=by
 have h:=dV T a;rw[Wq]at h;have:=Wr ((aG n).map λw=>(w.map<|ay n).count z) _<|Ai.mpr ⟨w,b,rfl⟩;omega
def C0(b:∀c∈w,c∈ends n)(h:∀z,z∈ss↔(w.map<|ay n).count z=1):∀z∈ss,z∈ag n:=λz d=>by
 have:=Ed.mp (by rw[(h z).mp d];exact Fr);obtain⟨e,f,rfl⟩:=Ai.mp this;obtain⟨y,a⟩:=af.mp<|b e f;rw[dJ a];exact eG a
theorem Nq(T:aw n)(a:w∈aG n)(h:∀z,z∈ss↔(w.map<|ay n).count z=1)(b:z∈ag n):decide (z∈ss)=di n w z:=by
 have:=Ms T b a;unfold di;refine decide_eq_decide.mpr<|(h z).trans ?_;omega
def Ks(T:aw n)(a:w∈aG n)(h:∀z,z∈ss↔(w.map<|ay n).count z=1):du n ss=true:=by
 refine Nd (ey T<|ng T (ends n) [] (λ_ h=>h) w a) λz b=>?_;rw[<-Nq T a h b]
 by_cases k:z∈ss
 ·rw[BW k];exact Cu.mpr k
 ·rw[BR k];exact Dk.mpr λq=>k<|Cu.mp q
def I0(T:aw n)(f:HF n)(k:(n.map (·.1)).Nodup)(l:0<n.length)(i:w∈aG n)(h:∀z,z∈ss↔(w.map<|ay n).count z=1):∃m,bg n ss m:=by
 have W:=ng T (ends n) [] (λ_ h=>h) w i;have b:=C0 W.ends h;obtain⟨zs,j,c⟩:=A3<|ag n;refine t6 T f.1 k l (tY j) c b λt o=>?_;obtain⟨χ,d⟩:=f.2.2 t o;have:=Sb T W d;have e:cf zs t (λz=>decide (z∈ss))=cf zs t (λz=>decide ((w.map<|ay n).count z%2=1)):=by
  unfold cf
  congr 1
  refine Bo λz p=>?_;show(t z && decide (z∈ss))=(t z && decide ((w.map<|ay n).count z%2=1));rw[Nq T i h<|(c z).mp p];rfl
 rw[e,qx (n:=n) (tY j) λy a=>?_]
 ·rwa[Cg]
 ·obtain⟨x,q,rfl⟩:=Ai.mp a;obtain⟨y,a⟩:=af.mp<|W.ends x q;rw[dJ a];exact(c y).mpr<|eG a
end Nt
namespace L2
open PySem PySem.Spec PyProof.Rows bD
variable{es:Ô}
section
variable{X:Cx}{a b e:Expr}{σ:St}{H:Hp}{Q:VK}{pos p kp cp:Pos}{j:Nat}
theorem Ws:∀{ns}{a},az (ns.map V.int) a->IntsAre a ns
 |[],[],.nil=> .nil
 |n :: ns,u :: a,.cons r t=>by
  obtain⟨b,rfl⟩:=(show ∃t,u=Value.int n t from r);exact .cons _ _<|Ws t
theorem Wt{ns}{a}(h:IntsAre a ns):az (ns.map V.int) a:=by
 induction h with
 |nil=>exact .nil
 |cons _ _ _ i=>exact .cons ⟨_,rfl⟩ i
def iD:fE X (.builtin "isinstance") (λxs H Q=>∃a C c d f vs b,xs=[.ref a,.ref d]/\H d=some (.tup f)/\(∀i,az f i->i=vs)/\H a=some (XO c)/\CH c (.ref C)/\nW X.K C=true/\PySem.W.kitAny X.K (.ref C) vs=some b/\Q (.bl b) H):=by
 intro O s σ H xs i Q I r h;obtain⟨a,C,c,d,f,vs,b,rfl,k,l,m,p,t,e,q⟩:=h;obtain⟨u,v,rfl,w,x⟩:=re r;cases (show u=Value.ref a from w);cases (show v=Value.ref d from x);obtain⟨y,A,B,_⟩:=I.tuple<|aS.of k;obtain rfl:=l y A;obtain⟨o,D,j,n,hd⟩:=B;obtain⟨L,M,E,N⟩:=o;have j:=j;have hd:=hd;subst j hd;have G:=(show aB X.U X.w H s.heap a (XO c)from I.aF a _ m).1;exact PySem.W.kia_tup (V6 t) I.fh ⟨c,V7 G p⟩ D e (λz=>nomatch z) λJ=>⟨.bl b,H,I.tok J,rfl,q⟩
end
end L2
namespace L2
open PySem PySem.Spec PyProof.Rows bK
variable{acc:Value}{H:Hp}{σ:St}{scope:Scope}{X:Cx}
variable{inner:Sem Unit}{ifs:Ô}
end L2
namespace Nt
open PySem L2 Classical
def gD{α:Type}(k:Nat)(w:List α):List α:=aq<|w.drop k
def d6(k:Nat):Nat->List (List ff)->List (Nat×ff)
 |_,[]=>[]
 |m,w :: a=>((gD k w).map λe=>(m,e))++d6 k (m+1) a
def d7(k:Nat)(a:List<|List ff):List (Nat×ff):=d6 k 0 a
theorem Wu(k:Nat):∀(m:Nat)(a:List<|List ff),(d6 k m a).map (·.2)=a.flatMap (gD k)
 |m,[]=>rfl
 |m,w :: a=>by
  unfold d6;rw[Aj,Wu k (m+1) a,Cg,Cm]
  congr 1
  exact List.map_id' _
variable{e:ff}{n:fo}
theorem C1:gD 1 (walker n e)=(aq<|walker n e).map (go 1 n):=by
 unfold walker gD;have l:=qU n e<|wn n e;apply Dv;intro i;rw[Ah,qT,qT,RG]
 by_cases h:i<wn n e
 ·rw[show 1+2*i=2*i+1 by omega,AQ n e _ i h,qV n e _ i h];rfl
 ·rw[Bd (by omega),Bd<|(by omega)];rfl
theorem Wv{n:fo}:∀{a:List (List ff)},(∀w∈a,∃e,e∈ends n/\w=walker n e)->a.flatMap (gD 1)=(a.flatMap aq).map (go 1 n)
 |[],_=>rfl
 |w :: a,h=>by
  obtain⟨e,_,rfl⟩:=h w<|Ag ..;rw[Cm,Cm,Aj,C1,Wv λv b=>h v<|Ak _ b]
theorem Ww(T:aw n){k:Nat}(a:k<=1):((d7 k<|aG n).map λp=>ay n p.2).Perm (((aG n).flatMap aq).map<|ay n):=by
 have e:((d7 k<|aG n).map λp=>ay n p.2)=((aG n).flatMap<|gD k).map (ay n):=by
  unfold d7;rw[<-Wu k 0<|aG n,Cg];rfl
 rw[e]
 match k,a with
 |0,_=>exact List.Perm.refl _
 |1,_=>
  rw[Wv (rZ T).wk,Cg];exact Wp T
def Nu(T:aw n){k:Nat}(a:k<=1):((d7 k<|aG n).map λp=>ay n p.2).Nodup:=(Ww T a).nodup_iff.mpr (rZ T).nd
variable{z:Str}
def se(T:aw n){k:Nat}(b:k<=1):z∈((d7 k<|aG n).map λp=>ay n p.2)↔z∈ag n:=by
 rw[(Ww T b).mem_iff];refine⟨λh=>?_,λh=>Ed.mp<|by rw[Np T h];exact Fr⟩;obtain⟨x,c,rfl⟩:=Ai.mp h;obtain⟨y,a⟩:=af.mp ((rZ T).new x c).1;rw[dJ a];exact eG a
noncomputable def cI(n:fo)(k:Nat)(z:Str):List (Nat×ff):=(d7 k<|aG n).filter λp=>decide (ay n p.2=z)
theorem C2{α:Type}{f:α->Str}:∀{l:List α},(l.map f).Nodup->∀{p},p∈l->(l.filter λx=>decide (f x=f p))=[p]
 |a :: l,b,p,c=>by
  rw[Bn,Bk]at b;rw[Cv]
  by_cases h:f a=f p
  ·rw[BP<|BW h];have e:a=p:=by
    obtain q|q:=Al.mp c
    ·exact q.symm
    ·exact absurd (by rw[h];exact Ai.mpr ⟨p,q,rfl⟩) b.1
   subst e
   congr 1
   rw[Ec];intro x d q;exact b.1<|by rw[<-BX q];exact Ai.mpr ⟨x,d,rfl⟩
  ·rw[BK λq=>h<|BX q]
   obtain q|q:=Al.mp c
   ·exact absurd (by rw[q]) h
   ·exact C2 b.2 q
def j3(T:aw n){k:Nat}(a:k<=1)(c:z∈ag n):∃p,p∈d7 k (aG n)/\ay n p.2=z/\cI n k z=[p]:=by
 obtain⟨p,b,rfl⟩:=Ai.mp<|(se T a).mpr c;exact⟨p,b,rfl,C2 (Nu T a) b⟩
theorem Nv{n:fo}(T:aw n):∀d b,(∀e∈d,e∈ends n)->∀i w,(eW n d b)[i]?=some w ->
  ∃e l r,d=l++e :: r/\(∀x∈l,ay n x∈b++(((eW n d b).take i).flatMap aq).map (ay n))/\ay n e∉b++(((eW n d b).take i).flatMap aq).map (ay n)/\w=walker n e
 |[],b,_,i,w,h=>by simp[eW]at h
 |e :: r,b,s,i,w,h=>by
  have t:=λa u=>s a<|Ak _ u;unfold eW at h ⊢
  by_cases c:ay n e∈b
  ·rw[BP c]at h ⊢;obtain⟨x,l,j,k,m,o,p⟩:=Nv T r b t i w h;refine⟨x,e :: l,j,by rw[k];rfl,λy f=>?_,o,p⟩
   obtain q|q:=Al.mp f
   ·rw[q];exact Az _ c
   ·exact m y q
  ·rw[BK c]at h ⊢
   match i with
   |0=>
    cases h;refine⟨e,[],r,rfl,λy f=>(nomatch f),?_,rfl⟩
    simpa using c
   |i+1=>
    obtain⟨x,l,j,k,m,o,p⟩:=Nv T r (b++(aq<|walker n e).map (ay n)) t i w h;have eq:(b++(((walker n e :: eW n r (b++(aq<|walker n e).map (ay n))).take<|i+1).flatMap aq).map (ay n))=(b++(aq<|walker n e).map (ay n))++(((eW n r<|b++(aq<|walker n e).map (ay n)).take i).flatMap aq).map (ay n):=by
     rw[List.take_succ_cons,Cm,Aj,Au]
    rw[eq];refine⟨x,e :: l,j,by rw[k];rfl,λy f=>?_,o,p⟩
    obtain q|q:=Al.mp f
    ·rw[q];refine Az _<|Av _<|Ai.mpr ⟨e,?_,rfl⟩;exact(jF T<|s e<|Ag ..).mpr ⟨0,rfl⟩
    ·exact m y q
noncomputable def Wx(n:fo)(i:Nat):Ñ:=(((aG n).take i).flatMap aq).map<|ay n
variable{w:List ff}{i:Nat}
def c0(T:aw n)(h:(aG n)[i]?=some w):∃e l r,ends n=l++e :: r/\(∀x∈l,ay n x∈Wx n i)/\ay n e∉Wx n i/\w=walker n e:=by
 obtain⟨e,l,r,a,b,c,d⟩:=Nv T (ends n) [] (λ_ h=>h) i w h;exact⟨e,l,r,a,b,c,d⟩
def so(T:aw n)(h:e∈ends n):(walker n e)[0]?=some e:=by
 obtain⟨k,p,_⟩:=tR T h;unfold walker;rw[wo p];have:=qV n e k 0 p.pos;exact this
structure dv(n:fo)(s:Str->Bool)(c:Nat->Bool)(χ:ff->Bool):Prop where
 face:a9 n s χ
 cut:∀e z,aJ n e=some z->s z=(c e.1 ^^ c (other n e).1)
def jG(n:fo)(c:Nat->Bool)(a:ff->Bool)(x:ff):Bool:=c x.1 ^^ a (other n x)
def uo(c:Nat->Bool)(a:ff->Bool)(y:ff):Bool:=c y.1 ^^ a y
variable{χ:ff->Bool}{c:Nat->Bool}{s:Str->Bool}{x y:ff}{ws:List (List ff)}
def dv.odd(T:aw n)(D:dv n s c χ)(a:x∈ends n):uo c χ (go 1 n x)=jG n c χ x:=by
 obtain⟨z,b⟩:=af.mp a;have d:=D.face.go x a;rw[Tc T a]at d;have f:=D.face.dq x z b;have e:=D.cut x z b;unfold uo jG;rw[d,show(go 1 n x).1=(other n x).1 from rfl];rw[f]at e
 revert e
 cases χ x<;>cases χ (other n x)<;>cases c x.1<;>cases c (other n x).1<;>simp
def dv.even(T:aw n)(D:dv n s c χ)(a:y∈ends n):jG n c χ (go (-1) n y)=uo c χ y:=by
 obtain⟨z,b⟩:=af.mp a;have d:=D.face.go _<|dD T<|gB T a (c:=-1);rw[Wa T a]at d;have f:=D.face.dq y z b;have e:=D.cut y z b;unfold uo jG;rw[<-d,show(go (-1) n y).1=(other n y).1 from rfl];rw[f]at e
 revert e
 cases χ y<;>cases χ (other n y)<;>cases c y.1<;>cases c (other n y).1<;>simp
def dv.two(T:aw n)(D:dv n s c χ){x:ff}(a:x∈ends n):jG n c χ (Nt.two n x)=jG n c χ x:=by
 rw[show Nt.two n x=go (-1) n (go 1 n x)from rfl,D.even T<|gB T a,D.odd T a]
theorem dv.it(T:aw n)(D:dv n s c χ){x:ff}(a:x∈ends n):∀k,jG n c χ (Nt.it (Nt.two n) k x)=jG n c χ x
 |0=>rfl
 |k+1=>by
  show jG n c χ (Nt.two n<|Nt.it (Nt.two n) k x)=_;rw[D.two T<|jZ T a k,D.it T a k]
theorem Wy(k:Nat):∀(m:Nat)(ws:List<|List ff){i:Nat}{e:ff},(i,e)∈d6 k m ws->∃j w,ws[j]?=some w/\i=m+j/\e∈gD k w
 |m,[],i,e,h=>by simp[d6]at h
 |m,w :: ws,i,e,h=>by
  unfold d6 at h
  obtain h|h:=An.mp h
  ·obtain⟨x,a,q⟩:=Ai.mp h;cases q;exact⟨0,w,rfl,rfl,a⟩
  ·obtain⟨j,v,b,d,c⟩:=Wy k (m+1) ws h;exact⟨j+1,v,b,(by omega),c⟩
def yg{k:Nat}(h:(i,e)∈d7 k ws):∃w,ws[i]?=some w/\e∈gD k w:=by
 obtain⟨j,w,b,a,c⟩:=Wy k 0 ws h;rw[Fe]at a;subst a;exact⟨w,b,c⟩
noncomputable def dj(n:fo)(c:Nat->Bool)(χ:ff->Bool)(i:Nat):Bool:=match (aG n)[i]? with
 |some (e :: _)=>jG n c χ e
 |_=>false
theorem Wz(T:aw n)(f:e∈ends n)(h:(aG n)[i]?=some (walker n e)):dj n c χ i=jG n c χ e:=by
 have b:=so T f;unfold dj;rw[h];cases d:walker n e with
 |nil=>rw[d]at b;cases b
 |cons a l=>rw[d]at b;cases b;rfl
def sf(T:aw n)(h:(aG n)[i]?=some w):∃e,e∈ends n/\w=walker n e:=by
 obtain⟨e,l,r,heq,_,_,a⟩:=c0 T h;exact⟨e,by rw[heq];simp,a⟩
def dv.ka(T:aw n)(D:dv n s c χ)(h:(i,x)∈d7 0 (aG n)):x∈ends n/\jG n c χ x=dj n c χ i:=by
 obtain⟨w,d,b⟩:=yg h;obtain⟨e,a,rfl⟩:=sf T d;have b:x∈cY n e:=b;obtain⟨k,rfl⟩:=(jF T a).mp b;rw[Wz T a d];exact⟨jZ T a k,D.it T a k⟩
def dv.yh(T:aw n)(D:dv n s c χ)(h:(i,y)∈d7 1 (aG n)):y∈ends n/\uo c χ y=dj n c χ i:=by
 obtain⟨w,d,f⟩:=yg h;obtain⟨e,a,rfl⟩:=sf T d;rw[C1]at f;obtain⟨x,b,rfl⟩:=Ai.mp f;have b:x∈cY n e:=b;obtain⟨k,rfl⟩:=(jF T a).mp b;rw[Wz T a d];have:=jZ T a k;exact⟨gB T this,by rw[D.odd T this,D.it T a k]⟩
def dv.dq(T:aw n)(D:dv n s c χ){p q:Nat×ff}(d:p∈d7 0 (aG n))(e:q∈d7 1 (aG n))(h:ay n p.2=ay n q.2):s (ay n p.2)=(dj n c χ p.1 ^^ dj n c χ q.1):=by
 obtain⟨i,x⟩:=p;obtain⟨j,y⟩:=q;obtain⟨b,f⟩:=D.ka T d;obtain⟨l,m⟩:=D.yh T e;show s (ay n x)=(dj n c χ i ^^ dj n c χ j);obtain⟨z,a⟩:=af.mp b;have o:=D.face.dq x z a;have r:=D.cut x z a;rw[<-f,<-m,dJ a];unfold jG uo
 obtain k|k:=ye T b l h
 ·subst k;rw[o];cases χ y<;>cases χ (other n y)<;>cases c y.1<;>rfl
 ·subst k;rw[r];cases χ (other n x)<;>cases c x.1<;>cases c (other n x).1<;>rfl
def Hl{α:Type}(k:Nat):gD k ([]:List α)=[]:=by unfold gD;rw[List.drop_nil];rfl
theorem WB(k i:Nat):∀(m:Nat)(ws:List<|List ff),((d6 k m ws).filter λp=>decide (p.1=i))=if m<=i then((gD k<|ws[i-m]?.getD []).map λe=>(i,e))else []
 |m,[]=>by
  rw[List.getElem?_nil];show []=if m<=i then((gD k ([]:List ff)).map λe=>(i,e))else [];rw[Hl]
  split<;>rfl
 |m,w :: ws=>by
  unfold d6;rw[Ct,WB k i (m+1) ws]
  by_cases h:m=i
  ·subst h;rw[BP<|Am _,BK (by omega),Be,WL];rw[List.filter_eq_self.mpr λa b=>by obtain⟨x,_,rfl⟩:=Ai.mp b;exact BW rfl];rfl
  ·rw[Ec.mpr λa b=>by obtain⟨x,_,rfl⟩:=Ai.mp b;exact λq=>h<|BX q,Gv]
   by_cases c:m<=i
   ·rw[BP c,BP (by omega),show i-m=(i-(m+1))+1 by omega];rfl
   ·rw[BK c,BK<|(by omega)]
theorem WC{α:Type}(f:α->Str)(z:Str):∀l:List α,(l.map f).count z=(l.filter λx=>decide (f x=z)).length
 |[]=>rfl
 |a :: l=>by
  rw[Bn,Dq,WC f z l,Cv]
  by_cases h:f a=z
  ·rw[BP (by rw[h];exact OJ z),BP<|BW h,As]
  ·rw[BK (by rwa[JD]),BK λq=>h<|BX q];rfl
variable{p:Nat×ff}
def WG{k:Nat}(f:cI n k z=[p])(h:(aG n)[i]?=some w):((gD k w).map<|ay n).count z=if p.1=i then 1 else 0:=by
 have a:=WB k i 0<|aG n;rw[BP<|Bu _,SM,h]at a;have a:(d7 k<|aG n).filter (λp=>decide (p.1=i))=(gD k w).map λe=>(i,e):=a;have b:(((d7 k<|aG n).filter λp=>decide (p.1=i)).filter λp=>decide (ay n p.2=z))=(cI n k z).filter λp=>decide (p.1=i):=by
  unfold cI;rw[List.filter_filter,List.filter_filter]
  congr 1
  funext p
  exact Bool.and_comm ..
 rw[a,f,List.filter_map]at b;have d:=BZ List.length b;rw[Aa]at d;rw[WC];refine Eq.trans d ?_;rw[Cv]
 by_cases c:p.1=i
 ·rw[BP<|BW c,BP c];rfl
 ·rw[BK λq=>c<|BX q,BK c];rfl
def WH(T:aw n){q:Nat×ff}(h:cI n 0 z=[p])(j:cI n 1 z=[q])(d:(aG n)[i]?=some w):di n w z=(decide (p.1=i) ^^ decide (q.1=i)):=by
 obtain⟨e,k,rfl⟩:=sf T d;have f:=WG h d;have c:=WG j d;rw[C1,Cg]at c;have f:((cY n e).map<|ay n).count z=_:=f;have c:((cY n e).map λx=>ay n<|go 1 n x).count z=_:=c;unfold di;rw[(Wl T k).count_eq,Fm,f,c]
 by_cases a:p.1=i<;>by_cases b:q.1=i<;>simp[a,b]
theorem WN(k:Nat):∀m ws{j}{w}{e},ws[j]?=some w->e∈gD k w->(m+j,e)∈d6 k m ws
 |m,[],j,w,e,h,_=>by simp at h
 |m,v :: ws,0,w,e,h,a=>by
  cases h;unfold d6;exact Az _<|Ai.mpr ⟨e,a,rfl⟩
 |m,v :: ws,j+1,w,e,h,a=>by
  unfold d6;refine Av _ ?_;have:=WN k (m+1) ws h a;rwa[show m+(j+1)=m+1+j by omega]
def yi{k:Nat}(h:ws[i]?=some w)(a:e∈gD k w):(i,e)∈d7 k ws:=by
 have:=WN k 0 ws h a;rwa[Fe]at this
def xn(T:aw n)(a:x∈ends n):∃p∈d7 0 (aG n),∃q∈d7 1 (aG n),p.1=q.1/\ay n p.2=ay n x/\ay n q.2=ay n (left n x):=by
 obtain⟨z,d⟩:=af.mp a;obtain⟨p,f,A⟩:=Ai.mp ((se T (k:=0)<|(by decide)).mpr<|eG d);obtain⟨i,e⟩:=p;obtain⟨w,h,B⟩:=yg f;obtain⟨j,l,rfl⟩:=sf T h;have m:e∈cY n j:=B;have C:=ul T l e m;have o:ay n x=ay n e:=by rw[dJ d];exact A.symm
 have r:∀y∈cY n j,go 1 n y∈gD 1 (walker n j):=λy b=>by
  rw[C1];exact Ai.mpr ⟨y,b,rfl⟩
 obtain k|k:=ye T a C o
 ·obtain⟨y,b,G⟩:=Nk T l m;have D:=ul T l y b;refine⟨(i,e),f,(i,go 1 n y),yi h<|r y b,rfl,o.symm,?_⟩;have s:=gB T D (c:=1);have E:other n (go 1 n y)=left n x:=by
   have:dW (-1) n (other n<|go 1 n y)=x:=by rwa[<-k]
   have u:=o6 (c:=-1)<|dD T s;rw[this,show(-(-1):Int)=1 from rfl]at u;rw[AO a,u]
  obtain⟨t,v⟩:=af.mp s;show ay n (go 1 n y)=_;rw[<-E,dJ v,dJ (dk T v).1]
 ·refine⟨(i,e),f,(i,go 1 n e),yi h<|r e m,rfl,o.symm,?_⟩;show ay n (dW 1 n<|other n e)=_;rw[k,(dk T d).2.1,AO a]
def yj(T:aw n){k:Nat}(a:k<=1){q:Nat×ff}(c:p∈d7 k (aG n))(d:q∈d7 k (aG n))(h:ay n p.2=ay n q.2):p=q:=by
 have b:=C2 (Nu T a) c;have e:=C2 (Nu T a) d;have f:(λx:Nat×ff=>decide (ay n x.2=ay n p.2))=λx=>decide (ay n x.2=ay n q.2):=by rw[h]
 rw[f]at b;exact List.cons.inj (b.symm.trans e) |>.1
variable{S:Nat->Prop}
theorem WO(T:aw n)(O:ce n)(H:(n.map (·.1)).Nodup)(Q:∃p∈d7 0 (aG n),S p.1)
  (U:∀p∈d7 0 (aG n),∀q∈d7 1 (aG n),ay n p.2=ay n q.2->(S p.1↔S q.1)):∀i,i<(aG n).length->S i:=by
 let B:Str->Prop:=λz=>∃p∈d7 0 (aG n),ay n p.2=z/\S p.1
 have C:∀{p:Nat×ff},p∈d7 0 (aG n)->(B (ay n p.2)↔S p.1):=λ{p}f=>⟨λ⟨q,v,e,h⟩=>by rwa[yj T (by decide) f v e.symm],λh=>⟨p,f,rfl,h⟩⟩;have Y:∀{q:Nat×ff},q∈d7 1 (aG n)->(B (ay n q.2)↔S q.1):=λ{q}v=>by
  have c:=(se T<|(by decide)).mp<|Ai.mpr ⟨q,v,rfl⟩;obtain⟨p,f,e⟩:=Ai.mp ((se T (k:=0)<|(by decide)).mpr c);have e:=e;rw[<-e,C f];exact U p f q v e
 have bl:∀x∈ends n,(B (ay n x)↔B (ay n<|left n x)):=λx hx=>by
  obtain⟨p,f,q,v,e,e1,e2⟩:=xn T hx;rw[<-e1,<-e2,C f,Y v,e]
 have I:∀(r j:Nat)z,(row n r)[j]?=some z->∀l,(row n r)[0]?=some l->(B z↔B l):=λr j=>by
  induction j with
  |zero=>intro z h l o;rw[h]at o;cases o;exact WM
  |succ j ih=>
   intro z h l o;have hl:=(Ac.mp h).1;obtain⟨y,m⟩:∃y,(row n r)[j]?=some y:=⟨_,Ab<|(by omega)⟩;have J:aJ n (r,j)=some y:=m;have b:=bl (r,j)<|af.mpr ⟨y,J⟩;have e:left n (r,j)=(r,j+1):=by
    unfold left;rw[show(j+1)%(row n r).length=j+1 from Cf hl]
   have h':aJ n (r,j+1)=some z:=h;rw[e,dJ J,dJ h']at b;exact b.symm.trans<|ih y m l o
 have L:∀r∈n,∀y∈r.2,∀z∈r.2,B y->B z:=λr d y m z c h=>by
  obtain⟨i,D,rfl⟩:=List.getElem_of_mem d;rw[<-ic D]at m c;obtain⟨a,M⟩:=Bj m;obtain⟨b,hb⟩:=Bj c;obtain⟨l,o⟩:∃l,(row n i)[0]?=some l:=⟨_,Ab<|by have:=(Ac.mp M).1;omega⟩;exact(I i b z hb l o).mpr<|(I i a y M l o).mp h
 have all:∀r∈n,∃t∈r.2,B t:=by
  have:=O (λx=>∃r∈n,r.1=x/\∃t∈r.2,B t) ?_ ?_
  ·intro r d;obtain⟨w,E,e,t,A,b⟩:=this r d;have:w=r:=by
    have:=CY H w E r d e;exact this
   subst this;exact⟨t,A,b⟩
  ·obtain⟨p,f,sp⟩:=Q;have c:ay n p.2∈ag n:=(se T (k:=0)<|(by decide)).mp<|Ai.mpr ⟨p,f,rfl⟩;unfold ag at c;obtain⟨r,d,A⟩:=Di.mp c;exact⟨r,d,r,d,rfl,_,A,(C f).mpr sp⟩
  ·rintro r d s hs t MZ wQ ⟨w,E,e,y,m,b⟩;have:=CY H w E r d e;subst this;exact⟨s,hs,rfl,t,wQ,L w d y m t MZ b⟩
 have u:∀z∈ag n,B z:=λz c=>by
  unfold ag at c;obtain⟨r,d,A⟩:=Di.mp c;obtain⟨y,m,b⟩:=all r d;exact L r d y m z A b
 intro i D;have G:=Ab D;obtain⟨e,N,rH⟩:=sf T G;rw[rH]at G;have hm:e∈cY n e:=(jF T N).mpr ⟨0,rfl⟩;have f:=yi (k:=0) G hm;obtain⟨z,c⟩:=af.mp N;exact(C f).mp<|u _<|by show ay n e∈_;rw[dJ c];exact eG c
theorem WQ{m a:Nat}(h:a<m)(f:Nat->Bool):aC ((range m).map λi=>f i && decide (a=i))=f a:=by
 induction m with
 |zero=>omega
 |succ m b=>
  rw[Dc,Aj,ni];show(_ ^^ ((f m && decide (a=m)) ^^ false))=_;rw[Gh]
  by_cases c:a=m
  ·subst c;have:aC ((range a).map λi=>f i && decide (a=i))=false:=by
    have e:((range a).map λi=>f i && decide (a=i))=(range a).map λ_=>false:=Bo λi d=>by
     rw[BR (λq=>by have:=Bc.mp d;omega),VG]
    rw[e,qY]
   rw[this,BW rfl,Bool.and_true,Gf]
  ·rw[b (by omega),BR c,VG,Gh]
def WR(T:aw n)(ch:Nat->Bool){q:Nat×ff}(b:cI n 0 z=[p])(c:cI n 1 z=[q]):
  aC ((range (aG n).length).map λi=>ch i && di n ((aG n)[i]?.getD []) z)=(ch p.1 ^^ ch q.1):=by
 have lt:∀{k:Nat}{p:Nat×ff},cI n k z=[p]->p.1<(aG n).length:=λ{k p}h=>by
  have:p∈cI n k z:=by rw[h];exact Af.mpr rfl
  obtain⟨w,a,_⟩:=yg (i:=p.1) (Bg.mp this).1;exact(Ac.mp a).1
 have e:((range (aG n).length).map λi=>ch i && di n ((aG n)[i]?.getD []) z)=(range (aG n).length).map λi=>(ch i && decide (p.1=i)) ^^ (ch i && decide (q.1=i)):=Bo λi d=>by
  have a:=Ab<|Bc.mp d;have f:=WH T b c a;rw[a,Option.getD_some,f];cases ch i<;>rfl
 rw[e,kL,WQ<|lt b,WQ<|lt c]
def EM(T:aw n)(R:RS n){ss d:Ñ}(s:du n ss=true)(t:bg n ss d):∃c χ,dv n (λz=>decide (z∈ss)) c χ:=by
 obtain⟨χ,f⟩:=R _<|q8v s;have u:(λz=>ss.contains z)=λz=>decide (z∈ss):=by
  funext z
  by_cases h:z∈ss
  ·rw[BW h];exact Cu.mpr h
  ·rw[BR h];exact Dk.mpr λq=>h<|Cu.mp q
 rw[u]at f;refine⟨λr=>decide (aH n r∈d),χ,f,λe z i=>?_⟩;have m:=dk T i;have j:=t.cut z;show decide (z∈ss)=(decide (aH n e.1∈d) ^^ decide (aH n (other n e).1∈d))
 by_cases a:aH n e.1∈d<;>by_cases b:aH n (other n e).1∈d
 ·rw[BW a,BW b,BR]
  ·rfl
  ·intro k;obtain⟨x,o,p,l⟩:=j.mp k
   obtain rfl|rfl:=(iH T i).mp o
   ·exact l b
   ·rw[m.2.1]at l;exact l a
 ·rw[BW a,BR b,BW]
  ·rfl
  ·exact j.mpr ⟨e,i,a,b⟩
 ·rw[BR a,BW b,BW]
  ·rfl
  ·exact j.mpr ⟨other n e,m.1,b,by rwa[m.2.1]⟩
 ·rw[BR a,BR b,BR]
  ·rfl
  ·intro k;obtain⟨x,o,p,l⟩:=j.mp k
   obtain rfl|rfl:=(iH T i).mp o
   ·exact a p
   ·exact b p
structure cq(n:fo)(cs:List<|List Str):Prop where
 len:cs.length=(aG n).length
 mem:∀(i:Nat)c w,cs[i]?=some c->(aG n)[i]?=some w->∀z,z∈c↔(w.map<|ay n).count z=1
 fI:∀c∈cs,cD c
noncomputable def iR(a:List<|List Str)(z:Str):List Nat:=(range a.length).filter λi=>decide (z∈a[i]?.getD [])
theorem Nx{a b:Nat}(h:a<b):∀m,((range m).filter λi=>decide (a=i) ^^ decide (b=i))=(if a<m then [a]else [])++(if b<m then [b]else [])
 |0=>rfl
 |m+1=>by
  rw[Dc,Ct,Nx h m]
  by_cases e:a=m
  ·subst e;rw[BK (by omega),BK (by omega),BP (by omega),BK<|(by omega)];have:([a].filter λi=>decide (a=i) ^^ decide (b=i))=[a]:=by
    rw[Cv,BP<|by rw[BW rfl,BR<|(by omega)];rfl];rfl
   rw[this];rfl
  ·by_cases f:b=m
   ·subst f;rw[BP (by omega),BK (by omega),BP (by omega),BP<|(by omega)];have:([b].filter λi=>decide (a=i) ^^ decide (b=i))=[b]:=by
     rw[Cv,BP<|by rw[BR e,BW rfl];rfl];rfl
    rw[this];rfl
   ·have:([m].filter λi=>decide (a=i) ^^ decide (b=i))=[]:=by
     rw[Cv,BK<|by rw[BR e,BR f];decide];rfl
    rw[this,Be]
    by_cases c:a<m<;>by_cases d:b<m
    ·rw[BP c,BP d,BP (by omega),BP<|(by omega)]
    ·rw[BP c,BK d,BP (by omega),BK<|(by omega)]
    ·rw[BK c,BP d,BK (by omega),BP<|(by omega)]
    ·rw[BK c,BK d,BK (by omega),BK<|(by omega)]
variable{cs:List Ñ}{is:List Int}{Y:List (Key×V)}
section
variable{ss zs:Ñ}
def cq.at'(C:cq n cs)(T:aw n)(a:i<(aG n).length)(d:z∈ag n):decide (z∈cs[i]?.getD [])=di n ((aG n)[i]?.getD []) z:=by
 have b:=Ab a;have c:=Ab (show i<cs.length by rwa[C.len]);rw[b,c];exact Nq T (Bp a) (C.mem i _ _ c b) d
def uq{k:Nat}(h:cI n k z=[p]):p.1<(aG n).length:=by
 have:p∈cI n k z:=by rw[h];exact Af.mpr rfl
 obtain⟨w,a,_⟩:=yg (Bg.mp this).1;exact(Ac.mp a).1
theorem Ny(C:cq n cs)(T:aw n)(k:z∈ag n){q:Nat×ff}(b:cI n 0 z=[p])(c:cI n 1 z=[q]):iR cs z=if p.1=q.1 then []else [min p.1 q.1,max p.1 q.1]:=by
 have d:=uq b;have f:=uq c;have e:iR cs z=(range (aG n).length).filter λi=>decide (p.1=i) ^^ decide (q.1=i):=by
  unfold iR;rw[C.len];refine List.filter_congr λi a=>?_;have a:=Bc.mp a;have j:=Ab a;rw[C.at' T a k,j];exact WH T b c j
 rw[e]
 by_cases h:p.1=q.1
 ·rw[BP h,h,Ec];intro i _;cases decide (q.1=i)<;>decide
 ·rw[BK h]
  by_cases l:p.1<q.1
  ·rw[Nx l,BP d,BP f,Ex<|Bz l,SQ<|Bz l];rfl
  ·have l:q.1<p.1:=(by omega)
   have m:(λi=>decide (p.1=i) ^^ decide (q.1=i))=λi=>decide (q.1=i) ^^ decide (p.1=i):=by funext i;exact Bool.xor_comm ..
   rw[m,Nx l,BP d,BP f,Ep<|Bz l,VB<|Bz l];rfl
noncomputable def lv(cs:List<|List Str)(ss:Ñ)(z:Str):List (Nz.Bl Int):=match iR cs z with
 |a :: b :: _=>[((a:Int),(b:Int),decide (z∈ss))]
 |_=>[]
noncomputable def iS(cs:List<|List Str)(ss zs:Ñ):List (Nz.Bl Int):=zs.flatMap<|lv cs ss
def gl(cs:List<|List Str)(ss:Ñ)(z:Str):(lv cs ss z).length<=1:=by
 unfold lv
 split<;>simp
theorem NA(cs:List<|List Str)(ss:Ñ):∀zs:Ñ,(iS cs ss zs).length<=zs.length
 |[]=>Am _
 |z :: zs=>by
  show(lv cs ss z++iS cs ss zs).length<=zs.length+1;rw[Ad];have:=gl cs ss z;have:=NA cs ss zs;omega
def ew(cs:List<|List Str)(ss zs:Ñ)(z:Str):iS cs ss (zs++[z])=iS cs ss zs++lv cs ss z:=by
 unfold iS;rw[Dj];simp
theorem WT(C:cq n cs)(T:aw n)(D:dv n (λz=>decide (z∈ss)) c χ)(f:∀z∈zs,z∈ag n){x y:Int}{o:Bool}(h:(x,y,o)∈iS cs ss zs):
  ∃a b:Nat,x=(a:Int)/\y=(b:Int)/\a<(aG n).length/\b<(aG n).length/\o=(dj n c χ a ^^ dj n c χ b):=by
 obtain⟨z,i,d⟩:=Di.mp h;obtain⟨p,t,j,m⟩:=j3 T (k:=0) (by decide)<|f z i;obtain⟨q,u,v,r⟩:=j3 T (k:=1) (by decide)<|f z i;have hd:=D.dq T t u<|j.trans v.symm;rw[j]at hd;have s:=Ny C T (f z i) m r;unfold lv at d
 by_cases e:p.1=q.1
 ·rw[s,BP e]at d;cases d
 ·rw[s,BK e]at d;have d:=Af.mp d;cases d;have w:=uq m;have A:=uq r;refine⟨min p.1 q.1,max p.1 q.1,rfl,rfl,(by omega),(by omega),?_⟩;show decide (z∈ss)=_;have hd:decide (z∈ss)=_:=hd;rw[hd]
  by_cases l:p.1<q.1
  ·rw[Ex<|Bz l,SQ<|Bz l]
  ·rw[Ep (by omega),VB (by omega),Bool.xor_comm]
theorem NI(C:cq n cs)(T:aw n)(D:dv n (λz=>decide (z∈ss)) c χ)(f:∀z∈zs,z∈ag n){x:Int}{b:Bool}(w:Nz.Way (iS cs ss zs) (0:Int) x b):
  ∃i:Nat,x=(i:Int)/\(i=0\/i<(aG n).length)/\b=(dj n c χ i ^^ dj n c χ 0):=by
 induction w with
 |here=>exact⟨0,rfl,.inl rfl,by rw[VR]⟩
 |there w d e=>
  obtain⟨i,rfl,_,rfl⟩:=e;obtain⟨a,b,h,rfl,_,j,rfl⟩:=WT C T D f d;obtain rfl:i=a:=(by omega)
  refine⟨b,rfl,.inr j,?_⟩;cases dj n c χ i<;>cases dj n c χ 0<;>cases dj n c χ b<;>rfl
 |back w d e=>
  obtain⟨i,rfl,_,rfl⟩:=e;obtain⟨a,b,rfl,h,k,_,rfl⟩:=WT C T D f d;obtain rfl:i=b:=(by omega)
  refine⟨a,rfl,.inr k,?_⟩;cases dj n c χ i<;>cases dj n c χ 0<;>cases dj n c χ a<;>rfl
theorem km(C:cq n cs)(T:aw n)(j:ce n)(m:(n.map (·.1)).Nodup)(o:∀z,z∈zs↔z∈ag n):∀i,i<(aG n).length->∃b,Nz.Way (iS cs ss zs) (0:Int) (i:Int) b:=by
 intro i r;have s:0<(aG n).length:=(by omega)
 have f:=Ab s;obtain⟨e,t,u⟩:=sf T f;rw[u]at f;have c:=yi (k:=0) f (show e∈gD 0 (walker n e) from(jF T t).mpr ⟨0,rfl⟩);refine WO T j m (S:=λi=>∃b,Nz.Way (iS cs ss zs) (0:Int) (i:Int) b) ⟨_,c,false,.here⟩ (λp c q v e=>?_) i r;have d:ay n p.2∈ag n:=(se T (k:=0)<|(by decide)).mp<|Ai.mpr ⟨p,c,rfl⟩;obtain⟨E,x,y,A⟩:=j3 T (k:=0) (by decide) d;obtain⟨G,B,D,ut⟩:=j3 T (k:=1) (by decide) d;obtain rfl:=yj T (by decide) c x y.symm;obtain rfl:=yj T (by decide) v B<|e.symm.trans D.symm
 by_cases k:p.1=q.1
 ·rw[k]
 ·have h:=Ny C T d A ut;rw[BK k]at h;have a:(((min p.1 q.1:Nat):Int),((max p.1 q.1:Nat):Int),decide (ay n p.2∈ss))∈iS cs ss zs:=by
   refine Di.mpr ⟨ay n p.2,(o _).mpr d,?_⟩;unfold lv;rw[h];exact Af.mpr rfl
  by_cases l:p.1<q.1
  ·rw[Ex<|Bz l,SQ<|Bz l]at a;exact⟨λ⟨b,w⟩=>⟨_,.there w a⟩,λ⟨b,w⟩=>⟨_,.back w a⟩⟩
  ·rw[Ep (by omega),VB<|(by omega)]at a;exact⟨λ⟨b,w⟩=>⟨_,.back w a⟩,λ⟨b,w⟩=>⟨_,.there w a⟩⟩
theorem NM{α:Type}(g f:α->Bool):∀l:List α,aC ((l.filter g).map f)=aC (l.map λi=>g i && f i)
 |[]=>rfl
 |a :: l=>by
  rw[Cv];have b:=NM g f l;cases h:g a with
  |true=>
   rw[BP rfl];show(f a ^^ aC ((l.filter g).map f))=((g a && f a) ^^ aC (l.map λi=>g i && f i));rw[b,h,Gz]
  |false=>
   rw[BK (by decide),b];show _=((g a && f a) ^^ aC (l.map λi=>g i && f i));rw[h,Bool.false_and,Gf]
def yX(C:cq n cs)(T:aw n)(d:∀z∈zs,z∈ag n)(D:dv n (λz=>decide (z∈ss)) c χ)(I:Nz.b5 Sum.inl (iS cs ss zs) 0 none Y [])
   (f:is.Nodup) (h:∀x,x∈is↔ao Y (Sum.inl x)=some (.bl true)):is.length<=(aG n).length:=by
 have:=aI f (b:=(range (aG n).length).map λi:Nat=>(i:Int)) λx j=>by
  obtain⟨b,e,w⟩:=I.val x _<|(h x).mp j;cases e;obtain⟨i,rfl,l,a⟩:=NI C T D d w;have:i≠0:=λk=>by subst k;rw[VR]at a;cases a
  exact Ai.mpr ⟨i,Bc.mpr<|l.resolve_left this,rfl⟩
 rwa[Aa,Cy]at this
structure iT(n:fo)(ss:Ñ)(ns:List Nat):Prop where
 fI:ns.Pairwise (· < ·)
 oj:∀i∈ns,1<=i/\i<(aG n).length
 sum:∀z∈ag n,aC (ns.map λi=>di n ((aG n)[i]?.getD []) z)=decide (z∈ss)
theorem Uf(C:cq n cs)(T:aw n)(y:ce n)(A:(n.map (·.1)).Nodup)(m:∀z,z∈zs↔z∈ag n)(D:dv n (λz=>decide (z∈ss)) c χ)(I:Nz.b5 Sum.inl (iS cs ss zs) 0 none Y [])
   (r:is.Pairwise (· < ·)) (s:∀x,x∈is↔ao Y (Sum.inl x)=some (.bl true)):∃ns:List Nat,is=ns.map (λi:Nat=>(i:Int))/\iT n ss ns:=by
 have pos:∀x∈is,∃i:Nat,x=(i:Int)/\1<=i/\i<(aG n).length/\(dj n c χ i ^^ dj n c χ 0)=true:=λx f=>by
  obtain⟨b,e,w⟩:=I.val x _<|(s x).mp f;cases e;obtain⟨i,rfl,l,d⟩:=NI C T D (λz h=>(m z).mp h) w;have:i≠0:=λk=>by subst k;rw[VR]at d;cases d
  exact⟨i,rfl,(by omega),l.resolve_left this,d.symm⟩
 have back:∀i,i<(aG n).length->(dj n c χ i ^^ dj n c χ 0)=true->((i:Nat):Int)∈is:=λi l h=>by
  obtain⟨b,w⟩:=km (ss:=ss) C T y A m i l;obtain⟨M,t⟩:=I.whole _ _ w;obtain⟨N,e,B⟩:=I.val _ _ t;cases e;obtain⟨j,O,_,d⟩:=NI C T D (λz h=>(m z).mp h) B;obtain rfl:i=j:=(by omega)
  rw[h]at d;subst d;exact(s _).mpr t
 refine⟨is.map Int.toNat,?_,?_,?_,?_⟩
 ·rw[Cg];refine(List.map_id is).symm.trans<|Bo λx f=>?_;obtain⟨i,rfl,_⟩:=pos x f;rfl
 ·rw[Cs];exact r.imp_of_mem λ{a b}o d h=>by
   obtain⟨i,rfl,_⟩:=pos a o;obtain⟨j,rfl,_⟩:=pos b d;show i<j;omega
 ·intro i l;obtain⟨x,f,rfl⟩:=Ai.mp l;obtain⟨i,rfl,a,b,_⟩:=pos x f;exact⟨a,b⟩
 ·intro z u;obtain⟨p,E,v,G⟩:=j3 T (k:=0) (by decide) u;obtain⟨q,H,J,L⟩:=j3 T (k:=1) (by decide) u;have hd:=D.dq T E H<|v.trans J.symm;rw[v]at hd;have perm:(is.map Int.toNat).Perm ((range (aG n).length).filter λi=>dj n c χ i ^^ dj n c χ 0):=by
   refine(Dm ?_<|List.nodup_range.filter _).mpr λi=>?_
   ·rw[Ay,Cs];exact r.imp_of_mem λ{a b}o d h=>by
     obtain⟨i,rfl,_⟩:=pos a o;obtain⟨j,rfl,_⟩:=pos b d;show i≠j;omega
   ·rw[Bg,Bc]
    constructor
    ·intro h;obtain⟨x,f,rfl⟩:=Ai.mp h;obtain⟨i,rfl,_,b,k⟩:=pos x f;exact⟨b,k⟩
    ·exact λ⟨a,b⟩=>Ai.mpr ⟨_,back i a b,rfl⟩
  rw[Jv<|perm.map _,NM,WR T (λi=>dj n c χ i ^^ dj n c χ 0) G L];have hd:decide (z∈ss)=_:=hd;rw[hd];cases dj n c χ p.1<;>cases dj n c χ q.1<;>cases dj n c χ 0<;>rfl
end
end Nt
namespace L2
open PySem PySem.Spec PyProof.Rows bD
variable{H:Hp}{l:Õ}{ns:List Int}
section
variable{X:Cx}
theorem WU:fE X (.builtin "sorted") (λxs H Q=>∃p ns,xs=[.ref p]/\aj X.K H p (ns.map V.int)/\ns.length<64/\∀l ss,H l=none->Perm ss ns->ss.Pairwise (·<=·)->Q (.ref l) (upd H l<|.lst<|ss.map V.int)):=by
 intro O s x H xs y Q I r h;obtain⟨p,ns,rfl,j,z,q⟩:=h;obtain⟨u,rfl,k⟩:=kw r;cases (show u=Value.ref p from k);obtain⟨c,d,m,A⟩:=I.list j;have n:=d.length;rw[Aa]at n;refine PyProof.Rows.sorted_ints m.isList (Ws d) (by omega) λa ss o f t=>?_;obtain⟨e,v⟩:=sortedAll_at s.heap c a;have i:ss.length<=sizeLine:=by rw[f.length_eq,FJ];omega
 refine⟨.ref _,_,I.eR (s':={s with heap:=sortedAll s.heap c a}) (λb u w=>RK w) rfl rfl (Ef _) (show aB X.U X.w _ _ _ (.lst<|ss.map V.int) from⟨by rwa[Aa],a.toList,e,Wt o,v⟩),rfl,q _ ss (I.aF.fresh<|Ef _) f t⟩
def WV{D:mi}{σ:St}(h:ge X.my l D σ H):ge X l D σ H:=⟨λO s I=>(oK (X:=X.my)).my O s σ H D I h⟩
def WW{a b:Addr}(f:H a=some (.lst<|ns.map V.int))(h:H b=some (.lst<|ns.map V.int)):oU X H 1 (.ref a) (.ref b) true:=by
 have q:=zE (λ_=>true) (aj.of f) (aj.of h) rfl λj x y c d=>by
  rw[c]at d;cases d;rw[Ah,Ar]at c;obtain⟨z,_,rfl⟩:=c;have e:=qv (X:=X) (H:=H) (k:=0) (x:= .int z) (y:= .int z) rfl rfl;rwa[show cC (.int z) (.int z)=true from BW rfl]at e
 rwa[vN]at q
end
end L2
namespace bK
open PySem SetTable
variable{es:Array (Int×Value)}
variable{w:World}{U:Program}{E:Î}
end bK
namespace L2
open PySem PySem.Spec PyProof.Rows bK Classical
variable{ý:List Yt}{s:Shared}{E:Î}{U:Program}
variable{O:Ð}
end L2
namespace L2
open PySem PySem.Spec PyProof.Rows
variable{H:Hp}{σ:St}{X:Cx}
variable{N':Ñ}{scope:Scope}{ifs:Ô}
section
variable{elt tg:Expr}{A a:Addr}{xs:List V}{after:Hp->Prop}
theorem uY(Pv:Nat->St->Hp->Prop)(k:Pv 0 σ H)(l:∀i c H',i<=xs.length->Pv i c H'->aj X.K H' a xs)
  (n : ∀(i : Nat)x T c H', xs[i]? = some x → Pv i c H' → H' T = none → vw X N' scope tg (.ref T) c (upd H' T<|.tup [.int (i : Int), x]) λd o => vx X N' scope ifs d o λb f =>
   if b=true then vt X N' scope elt d f λv h=>∃ys,h A=some (.lst ys)/\ys.length<sizeLine/\Pv (i+1) d (upd h A<|.lst<|ys++[v])else Pv (i+1) d f)
  (hd:∀c H',Pv xs.length c H'->after H'):lU X N' scope tg ifs elt (Mj X.K a) A after σ H:=by
 refine⟨λi m c H'=>m=xs.length-i/\i<=xs.length/\Pv i c H',⟨_,rfl,Bu _,k⟩,?_⟩;rintro i m c H' ⟨rfl,r,p⟩;have q:=l i c H' r p
 by_cases j:i<xs.length
 ·refine .inr ⟨⟨xs,xs[i],q,by simp[j]⟩,Pv<|i+1,λc H' s=>⟨xs.length-(i+1),(by omega),rfl,j,s⟩,λv w y=>?_⟩;obtain⟨T,x,t,rfl,rfl,u⟩:=y;exact n i x T c _ (u xs q) p t
 ·have e:i=xs.length:=(by omega)
  subst e;exact .inl ⟨⟨xs,q,Am _⟩,hd c H' p⟩
end
end L2
namespace Q1
open PySem L2 Nt bD bK
open PyProof.Rows (sortedS)
open Classical
def lz(H:Hp)(L:Addr)(a:List Addr)(b:List<|List Str):Prop:=H L=some (.lst<|a.map V.ref)/\a.length=b.length/\∀(i:Nat)u c,a[i]?=some u->b[i]?=some c->H u=some (Ls c)
variable{cs:List Ñ}{us:List Addr}{H:Hp}
def lz.same{H':Hp}{L:Addr}(h:lz H L us cs)(s:ah H H'):lz H' L us cs:=⟨s _ _ h.1,h.2.1,λi u c a b=>s _ _<|h.2.2 i u c a b⟩
def C3:Sp:=λb H Q _=>∃(R:Addr)(as:Ï)(n:fo),b=[.ref R]/\al H R as n/\(n.map (·.1)).Nodup/\aw n/\n.length<=60/\(ag n).length<=60 /\
 ∀(L:Addr)(us:List Addr)(cs:List<|List Str)(a:Hp),ah H a->H L=none->lz a L us cs->cq n cs->Q (.ref L) a
noncomputable def NU(c:Str->Addr):Sp:=λe H Q E=>∃(R p:Addr)(as:Ï)(n:fo)(b:Ñ),e=[.ref R,.ref p]/\al H R as n/\(n.map (·.1)).Nodup/\aw n/\HF n/\0<n.length/\n.length<=60/\(ag n).length<=60/\H p=some (Ls b)/\cD b /\
 (¬ dv n b->∀ a,ah H a->E (.ref<|c "NoDouble") none a)/\(dv n b->∀(L:Addr) (d:List Nat) (a:Hp),ah H a->H L=none->a L=some (Lz<|d.map λi:Nat=>(i:Int))->iT n b d->Q (.ref L) a)
def nX:∀x y:Int,(Sum.inl x:Key)=Sum.inl y->x=y:=λ_ _ h=>Sum.inl.inj h
structure lB(n:fo)(H:Hp)(D:Addr)(us:List Addr)(cs:List<|List Str)(i:Nat):Prop where
 lst:H D=some (.lst<|us.map V.ref)
 lu:us.length=i
 lc:cs.length=i
 at':∀(j:Nat)u c,us[j]?=some u->cs[j]?=some c->H u=some (Ls c)/\u≠D
 mem:∀(j:Nat)c w,cs[j]?=some c->(aG n)[j]?=some w->∀z,z∈c↔(w.map<|ay n).count z=1
 fI:∀c∈cs,cD c
variable{es:List Nt.ff}{ks:Ñ}{D:Addr}{n:fo}
theorem lB.step{o:Hp}{k:Addr}{i:Nat}(I:lB n H D us cs i)(v:ah H o)(q:H k=none)(e2:o k=some (Ls ks))(G:cD ks)(x:(aG n)[i]?=some es)(y:∀z,z∈ks↔(es.map<|ay n).count z=1):lB n (upd o D<|.lst<|us.map V.ref++[.ref k]) D (us++[k]) (cs++[ks]) (i+1):=by
 have A:=I.lu;have r:=I.lc;have s:k≠D:=λe=>by rw[e,I.lst]at q;cases q
 have zero:∀{p:Type}{l:List p}{a b:p}{j:Nat},¬ j<l.length->(l++[a])[j]?=some b->j=l.length/\a=b:=λ{p l a b j}h e=>by
  rw[Ba<|(by omega)]at e;have d:j-l.length=0:=by have:=(Ac.mp e).1;simp at this;omega
  rw[d]at e;exact⟨(by omega),by cases e;rfl⟩
 refine⟨by rw[av,Aj];rfl,by rw[Ad,A];rfl,by rw[Ad,r];rfl,λj u c f m=>?_,λj c w f m=>?_,λc B=>?_⟩
 ·by_cases d:j<us.length
  ·rw[Aq d]at f;rw[Aq<|(by omega)]at m;obtain⟨C,t⟩:=I.at' j u c f m;exact⟨by rw[au t];exact v _ _ C,t⟩
  ·obtain⟨_,rfl⟩:=zero d f;obtain⟨_,rfl⟩:=zero (by omega) m;exact⟨by rwa[au s],s⟩
 ·by_cases d:j<cs.length
  ·rw[Aq d]at f;exact I.mem j c w f m
  ·obtain⟨E,rfl⟩:=zero d f;rw[E,r,x]at m;cases m;exact y
 ·obtain h|h:=An.mp B
  ·exact I.fI c h
  ·rwa[Af.mp h]
def lB.start(h:H D=some (.lst [])):lB n H D [] [] 0:=⟨h,rfl,rfl,λj u c h=>by simp at h,λj c w h=>by simp at h,λc h=>by cases h⟩
def lB.whole(I:lB n H D us cs (aG n).length):lz H D us cs/\cq n cs:=⟨⟨I.lst,I.lu.trans I.lc.symm,λi u c a b=>(I.at' i u c a b).1⟩,I.lc,I.mem,I.fI⟩
def WY(h:∀e∈es,e∈ends n):∀z∈es.map (ay n),z∈ag n:=λz b=>by
 obtain⟨e,c,rfl⟩:=Ai.mp b;obtain⟨y,a⟩:=af.mp<|h e c;rw[dJ a];exact eG a
variable{Z:Heap}{mg:Ò}{K:aa}{fd:FuncData}{f:Addr}{zs:List Int}{c:Str->Addr}
section
variable{P:Program}{w:World}
abbrev WZ:Ñ:=["rows"]
abbrev yk:Ñ:=["rows","walker"]
def yl:ak WZ ["rows"] (aP zZ):=bZ
def gw:yk.Nodup:=by decide +kernel
theorem yG(F:bo K "cores_of" "cores_of" zZ f fd)(T:Txt mg)(Y:aQ P w K mg Z 4 "walkers_of" ["rows"] BV)(GC:aQ P w K mg Z 4 "core_of" ["rows","walker"] M7):aD P w K mg Z bz 5 f fd ["rows"] C3:=by
 refine F.gc yl λb0 H vs Q E r h=>?_;obtain⟨R,as,n,rfl,s,t,u,y,iN,q⟩:=h;have nd:=yl.nd;have pq:=jv n;refine bQ (gu (aP zZ) WZ yk 1 (eB bd)<|bG Y r<|ai<|ae 0<|ax ⟨R,as,n,rfl,s,t,u,(by omega),(by omega),λW A H1 m n1 d fW=>⟨W,rfl,⟨_,aj.of d.lst⟩,λD o=>?_⟩⟩);have wl:(aG n).length<=(ends n).length:=wq n (ends n) [];have NV:=ng u (ends n) [] λe he=>he;have B:A.length=(aG n).length:=d.len;refine jS (xs:=A.map V.ref) (λi a c=>(∃v,a=[(some (.ref R))]++[v])/\ah H1 c/\∃us cs,lB n c D us cs i) ⟨⟨none,rfl⟩,aM o _,[],[],lB.start av⟩ ?_ ?_ ?_
 ·rintro i a c _ ⟨_,b,_⟩;exact aj.of<|b _ _ d.lst
 ·rintro i x a c G ⟨⟨v,rfl⟩,b,us,cs,I⟩;rw[Ah,Ar]at G;obtain⟨l,J,rfl⟩:=G;have mW:i<(aG n).length:=by have:=(Ac.mp J).1;rwa[<-B]
  have j:=Ab mW;obtain⟨ts,el,L⟩:=(d.same b).at' i l _ J j;have wk:=NV _<|At j;generalize (aG n)[i]=es at j L wk;have Ö:=wk.few;have lu:=I.lu;intro M C N O U;refine a8 1 gw ?_;intro M C N O U;refine iA<|cz ?_;intro M C N O U;refine bG GC r<|ai<|ae 0<|ai<|ae 1<|ax ⟨R,l,as,n,ts,es,rfl,s.same<|m.trans b,t,(by omega),(by omega),el,L,wk.ends,(by omega),λl y hm=>?_,λk ks H2 p n2 e2 NX m2=>?_⟩
  ·have:=aI y λz hz=>WY wk.ends z<|hm z hz;omega
  exact⟨_,p _ _ I.lst,by rw[Aa];exact bI (by omega),⟨_,rfl⟩,cX (b.trans p) o,_,_,I.step p n2 e2 NX j m2⟩
 ·rintro a c ⟨_,b,us,cs,I⟩;rw[Aa,B]at I;exact q D us cs c (m.trans b) (m.free o) I.whole.1 I.whole.2
abbrev NY:Ñ:=["rows","some","cores","links","tie","bearers","chosen"]
abbrev yn:Ñ:=["rows","some","cores","links","tie","bearers","chosen","number","core"]
abbrev yo:Ñ:=["rows","some","cores","links","tie","bearers","chosen","number"]
def yp:ak NY ["rows","some"] (aP vU):=bZ
def W0:yn.Nodup:=by decide +kernel
def vK:yo.Nodup:=by decide +kernel
noncomputable def sg(cs:List<|List Str)(z:Str)(i:Nat):List Int:=((range i).filter λk=>decide (z∈cs[k]?.getD [])).map λk:Nat=>(k:Int)
def Hv(cs:List<|List Str)(z:Str)(i:Nat):sg cs z (i+1)=sg cs z i++(if z∈cs[i]?.getD []then [(i:Int)]else []):=by
 unfold sg;rw[Dc,Ct,Aj,Cv]
 by_cases h:z∈cs[i]?.getD []
 ·rw[BP<|BW h,BP h];rfl
 ·rw[BK λk=>h<|BX k,BK h];rfl
def nK(cs:List<|List Str)(z:Str)(i:Nat):(sg cs z i).length<=i:=by
 unfold sg;rw[Aa];have:=Cp (λk=>decide (z∈cs[k]?.getD []))<|range i;rwa[Cy]at this
def li.keep{α:Type}{a:α->Key}{H':Hp}{b:List (Nz.Bl α)}(h:li a H us b)(k:∀t xs,H t=some (.tup xs)->H' t=some (.tup xs)):li a H' us b:=⟨h.1,λj u x c d=>k _ _<|h.2 j u x c d⟩
theorem li.snoc{α:Type}{c:α->Key}{d:List (Nz.Bl α)}{u:Addr}{x:Nz.Bl α}(h:li c H us d)(f:H u=some (Vp c x)):li c H (us++[u]) (d++[x]):=by
 refine⟨by rw[Ad,Ad,h.1];rfl,λj v y a b=>?_⟩;have i:=h.1
 by_cases k:j<us.length
 ·rw[Aq k]at a;rw[Aq<|(by omega)]at b;exact h.2 j v y a b
 ·rw[Ba<|(by omega)]at a b;have e:j-us.length=0:=by
   have:=(Ac.mp a).1;simp at this;omega
  rw[e]at a;rw[<-i,e]at b;cases a;cases b;exact f
def N0{l:Addr}{y:Int}:upd H l (.lst<|zs.map V.int++[V.int y])=upd H l (Lz<|zs++[y]):=by
 show _=upd H l (.lst<|(zs++[y]).map V.int);rw[Aj];rfl
theorem LB(F:bo K "numbers_by" "numbers_by" vU f fd)(T:Txt mg)(A:Cl K mg c)(GD:aQ P w K mg Z 5 "is_double" ["rows","some"] Mk)(GC:aQ P w K mg Z 5 "cores_of" ["rows"] C3)(GT:aQ P w K mg Z 5 "ties_of" ["rows"] rY)(GS:aQ P w K mg Z 5 "spread" ["first","links"] M9):
  aD P w K mg Z (XF P w) 6 f fd ["rows","some"] (NU c):=by
 refine F.gx yp (λvs H Q E h=>?_) λb0 H vs Q hr h=>?_
 ·obtain⟨R,p,as,n,o,rfl,_⟩:=h;rfl
 obtain⟨R,p,as,n,o,rfl,hR,hN,B,hf,h0,hn,iN,hp,rM,qE,qQ⟩:=h;have nd:=yp.nd;have cj:=hr.u1;have Ö:Rm n:=λzs h1 h2=>by have:=aI h1 h2;omega
 have mN:("NoDouble" : Str)∈cB:=(by decide)
 refine fP<|lR<|iu<|bG GD hr<|ai<|ae 0<|ai<|ae 1<|ax ⟨R,p,as,n,o,rfl,hR,B,hf.1,h0,hn,iN,hp,rM,λH1 s1=>⟨_,rfl,?_⟩⟩
 by_cases U:dv n o
 case neg=>
  rw[BR U];exact cz<|V0 V2 (A.at' _ mN).1 (A.at' _ mN).2.1 rfl (ai<|vj<|ax ⟨Z1,qE U _ s1⟩)
 rw[BW U];refine bH<|a7<|WV ?_;obtain⟨sd,nR⟩:=U.2;obtain⟨cc,χ,DD⟩:=EM B hf.2.2 U.1 nR;refine aT 2 nd<|bG GC hr<|ai<|ae 0<|ax ⟨R,as,n,rfl,hR.same s1,hN,B,hn,iN,λC cu cs H2 s2 n2 hC dU=>?_⟩;refine aT 3 nd<|dS<|ax ⟨Z0,λM hM=>?_⟩;have nZ:=s1.trans s2;have sM:=aM hM<|.lst [];have nP:(upd H2 M<|.lst []) M=some (.lst []):=av;generalize upd H2 M (.lst [])=H3 at sM nP;have Ø:=nZ.trans sM;refine lS (bG GT hr<|ai<|ae 0<|ax ⟨R,as,n,rfl,hR.same Ø,(by omega),(by omega),Ö,λtl zs H4 s4 n4 e4 Ù á n8=>⟨tl,rfl,⟨_,aj.of e4⟩,?_⟩⟩);have â:=aI Ù λz hz=>(n8 z).mp hz;have wl:(aG n).length<=(ends n).length:=wq n (ends n) [];have pq:=jv n;have ã:=dU.len;have Vk:tl≠M:=λe=>by rw[e,nP]at n4;cases n4
 have Ú:=sM.trans s4;refine lT (xs:=zs.map V.str) (λj σ q=>∃(us:List Addr)(u4 u5:Option V),ah H2 q/\q tl=some (Ls zs)/\q M=some (.lst<|us.map V.ref)/\cm q us (iS cs o<|zs.take j)/\σ=[(some (.ref R)),(some (.ref p)),(some (.ref C)),(some (.ref M)),u4,u5,none]) ⟨[],_,_,Ú,e4,s4 _ _ nP,⟨rfl,λj u x h=>by simp at h⟩,rfl⟩ ?_ ?_ ?_
 ·rintro j σ q _ ⟨us,u4,u5,G,et,_⟩;exact aj.of et
 ·rintro j x σ H5 hx ⟨us,u4,u5,G,et,eM,cN,rfl⟩;rw[Ah,Ar]at hx;obtain⟨z,hz,rfl⟩:=hx;have cU:=(n8 z).mp<|At hz;have gZ:zs.take (j+1)=zs.take j++[z]:=by rw[Bx,hz];rfl
  have oa:=hC.same G;have lC:=oa.2.1;have B3:=NA cs o<|zs.take j;rw[Bh]at B3;have b4:=cN.1;refine a8 4 nd ?_;refine tj 5 (aP vU) NY yn 2 nd (LM rfl T.enum gL)<|ai<|ae 2<|ax ⟨C,rfl,⟨_,aj.of oa.1⟩,λD W1=>?_⟩;refine uY (xs:=cu.map V.ref) (λi m q=>(∃v1 v2,m=[(some (.ref R)),(some (.ref p)),(some (.ref C)),(some (.ref M)),some<|.str z,u5,none]++[v1,v2])/\ah H5 q/\q D=some (Lz<|sg cs z i)) ⟨⟨_,_,rfl⟩,aM W1 _,av⟩ ?_ ?_ ?_
  ·rintro i m q _ ⟨_,G,_⟩;exact aj.of<|G _ _ oa.1
  ·rintro i x Tq m N hx ⟨⟨v1,v2,rfl⟩,J,r⟩ Û;rw[Ah,Ar]at hx;obtain⟨u,hu,rfl⟩:=hx;have hi:i<cs.length:=by have:=(Ac.mp hu).1;omega
   have si:=Ab hi;have W2:=oa.2.2 i u _ hu si;have sq:=aM Û<|.tup [.int (i:Int),.ref u];have bl:=nK cs z i;rw[Hv,si,Option.getD_some];generalize cs[i]=ci at W2;intro A C' æ ç ex;refine jT rfl (aS.of av) (a8 7 W0<|a8 8 W0 ?_);intro A C' æ ç ex;refine hU<|cH lN<|ae 4<|ae 8 ⟨u,_,rfl,.inl<|aj.of<|sq _ _<|J _ _ W2,rfl,kE _,_,rfl,?_⟩;have fF:∀(x y:Bool),(if false=true then x else y)=y:=λ_ _=>rfl;rw[fF,kD,rL]
   by_cases s:z∈ci
   ·rw[BW s,BP s];refine cz ?_;intro A C' æ ç ex;refine ae 7 ⟨_,sq _ _ r,by rw[Aa];exact bI (by omega),⟨_,_,rfl⟩,cX (J.trans sq) W1,?_⟩;rw[N0];exact av
   ·rw[BR s,BK s,Be];exact bH ⟨⟨_,_,rfl⟩,J.trans sq,sq _ _ r⟩
  rintro m N ⟨_,J,r⟩;rw[Aa,lC]at r;have Ü:sg cs z cs.length=(iR cs z).map λk:Nat=>(k:Int):=rfl;rw[Ü]at r;have pC:=J _ _ et;have C4:=J _ _ eM;have N2:=cN.same J;have N3:=G.trans J;have Ý:iS cs o (zs.take<|j+1)=iS cs o (zs.take j)++lv cs o z:=by rw[gZ,ew]
  rw[Ý];obtain⟨p0,p1,p2,ur⟩:=j3 B (k:=0) (by decide) cU;obtain⟨q0,q1,q2,ut⟩:=j3 B (k:=1) (by decide) cU;have L:=Ny dU B cU ur ut;refine fP<|Qw<|ae 5 (v:= .ref D) ⟨!(iR cs z).isEmpty,Or.inl ⟨_,aj.of r,by cases iR cs z<;>rfl⟩,?_⟩
  by_cases W3:p0.1=q0.1
  ·rw[BP W3]at L;rw[L];refine bH<|a7<|a7 ⟨us,_,_,N3,pC,C4,?_,rfl⟩;unfold lv;rwa[L,Be]
  ·rw[BK W3]at L;generalize min p0.1 q0.1=a at L;generalize max p0.1 q0.1=b at L;rw[L]at r ⊢;have Þ:lv cs o z=[((a:Int),(b:Int),decide (z∈o))]:=by unfold lv;rw[L]
   rw[Þ];have ß:=N3 _ _<|nZ _ _ hp;refine cz<|gq<|jQ<|ae 3 ⟨M,rfl,⟨_,C4⟩,fv<|ai<|bb cL<|ae 5<|aE ⟨D,_,_,.int (a:Int),rfl,rfl,aj.of r,rfl,ai<|bb cL<|ae 5<|aE ⟨D,_,_,.int (b:Int),rfl,rfl,aj.of r,rfl,?_⟩⟩⟩;refine ai<|hG lN<|ae 4<|ae 1 ⟨p,_,rfl,.inl<|aj.of ß,rfl,kE _,ax ⟨Z3,λt dX=>?_⟩⟩;have fF:∀(x y:Bool),(if false=true then x else y)=y:=λ_ _=>rfl;rw[fF,kD,rL];have sT:=aM dX<|.tup [.int (a:Int),.int (b:Int),.bl<|decide (z∈o)];have e3:(upd N t<|.tup [.int (a:Int),.int (b:Int),.bl<|decide (z∈o)]) t=some (mI ((a:Int),(b:Int),decide (z∈o))):=av;refine⟨_,sT _ _ C4,by rw[Aa];exact bI (by omega),a7<|a7 ⟨us++[t],_,_,cX (N3.trans sT) hM,?_,?_,((N2.same sT).snoc e3).keep λt xs h=>?_,rfl⟩⟩
   ·rw[au Vk];exact sT _ _ pC
   ·rw[av,Aj];rfl
   ·rwa[au<|bV h (sT _ _ C4) λz=>nomatch z]
 ·rintro σ H5 ⟨us,u4,u5,G,et,eM,cN,rfl⟩;rw[Aa,Br]at cN;have B3:=NA cs o zs;refine aT 6 nd (bG GS hr<|ai<|aE<|ai<|ae 3<|ax ⟨(0:Int),M,us,_,rfl,eM,cN,(by omega),λd Y N s6 n6 e6 I=>?_⟩);have à:=G.trans s6;have nw:=nZ.trans à;have xK:∀k∈Y.map (·.1),∃x,k=Sum.inl x:=λk hk=>(I.txt k hk).imp λx h=>h.1;have pD:H d=none:=(nZ.trans G).free n6;have oZ:=I.len;refine bQ<|bP WU T.sorted CW<|ai<|gu (aP vU) NY yo 1 (Sw bd)<|ae 6 ⟨d,Y,rfl,e6,λob O rN=>?_⟩;have nE:O≠d:=λe=>by rw[e,av]at rN;cases rN
  have Mb:N O=none:=by rwa[au nE]at rN
  refine Sx (λi m q=>(∃v,m=[(some (.ref R)),(some (.ref p)),(some (.ref C)),(some (.ref M)),u4,u5,(some (.ref d))]++[v])/\q=upd (upd N d<|.bB ob<|.dK Y) O (Lz<|Nz.aZ Sum.inl<|Y.take i)) ⟨⟨_,rfl⟩,rfl⟩ ?_ ?_ ?_
  ·rintro i m q _ ⟨_,rfl⟩;rw[au<|CG nE,av]
  ·rintro i pr m q nQ ⟨⟨v,rfl⟩,rfl⟩;have hm:pr∈Y:=At nQ;have gZ:Y.take (i+1)=Y.take i++[pr]:=by rw[Bx,nQ];rfl
   obtain⟨k,vv⟩:=pr;obtain⟨z,rfl⟩:=xK k<|Ai.mpr ⟨_,hm,rfl⟩;have hv:=(wA I.de).mp hm;obtain⟨b,rfl,_⟩:=I.val z vv hv;rw[gZ,Nz.cV,Nz.iO nX];intro A C' æ ç ex;refine a8 7 vK ?_;intro A C' æ ç ex;have dg:aX (upd (upd N d<|.bB ob<|.dK Y) O<|Lz<|Nz.aZ Sum.inl<|Y.take i) d (kV<|Sum.inl z) (some<|.bl b):=by
    rw[<-hv];exact .inl ⟨Y,Sum.inl z,.inr ⟨ob,by rw[au<|CG nE,av]⟩,rfl,rfl⟩
   refine hU<|iu<|eU cj<|ae 6<|ae 7 ⟨d,.bl b,rfl,dg,b,rfl,?_⟩;have l7:=By (Nz.bY Sum.inl<|Y.take i) (show(Y.take i).length<=Y.length by rw[Bh];omega)
   by_cases s:b=true
   ·rw[BP s];intro A C' æ ç ex;refine ae 7 ⟨_,av,by rw[Aa];exact bI (by omega),⟨_,rfl⟩,?_⟩;rw[pO,BP s];exact N0
   ·rw[BK s];refine⟨⟨_,rfl⟩,?_⟩;rw[BK s,Be]
  ·rintro m q ⟨_,rfl⟩;rw[Br];have W4:=Nz.fJ nX Y I.de;have Kn:(Nz.aZ (Sum.inl:Int->Key) Y).length<=(aG n).length:=yX dU B (λz hz=>(n8 z).mp hz) DD I W4 λx=>I.mem nX x;refine ax ⟨O,_,rfl,aj.of av,(by omega),λl sd hl db rO=>?_⟩;have Md:l≠O:=λe=>by rw[e,av]at hl;cases hl
   have Mf:l≠d:=λe=>by rw[e,au<|CG nE,av]at hl;cases hl
   have CA:N l=none:=by rwa[au Md,au Mf]at hl
   have iw:H l=none:=nw.free CA;have Mg:H O=none:=nw.free Mb;have aV:sd.Pairwise (· < ·):=by
    have jM:=db.nodup_iff.mpr W4;rw[Ay]at jM;exact(rO.and jM).imp λ⟨a,b⟩=>(by omega)
   obtain⟨ns,rfl,oI⟩:=Uf dU B hf.1 hN n8 DD I aV λx=>by rw[db.mem_iff];exact I.mem nX x
   refine qQ U l ns _ (λc o' hc=>?_) iw av oI;rw[au<|bh hc iw,au<|bh hc Mg,au<|bh hc pD];exact nw _ _ hc
end
end Q1
namespace Nt
open PySem L2 Classical
variable{l:List Nat}{z:Str}{ss:Ñ}{i:Nat}{cs:List Ñ}
section
variable{n:fo}
noncomputable def par(n:fo)(l:List Nat)(z:Str):Bool:=aC<|l.map λi=>di n ((aG n)[i]?.getD []) z
def C5{a b:List Nat}(h:a.Perm b)(z:Str):par n a z=par n b z:=Jv<|h.map _
def zc(a:l.Nodup)(b:∀i∈l,i<(aG n).length)(z:Str):par n l z=aC ((range (aG n).length).map λi=>decide (i∈l) && di n ((aG n)[i]?.getD []) z):=by
 have p:l.Perm ((range (aG n).length).filter λi=>decide (i∈l)):=(Dm a<|List.nodup_range.filter _).mpr λi=>by
  rw[Bg,Bc,CK];exact⟨λh=>⟨b i h,h⟩,λh=>h.2⟩
 rw[C5 p z];exact NM _ _ _
def C6(T:aw n)(a:l.Nodup)(b:∀i∈l,i<(aG n).length){p q:Nat×ff}(c:cI n 0 z=[p])(d:cI n 1 z=[q]):par n l z=(decide (p.1∈l) ^^ decide (q.1∈l)):=by
 rw[zc a b,WR T (λi=>decide (i∈l)) c d]
theorem Op(T:aw n)(w:ce n)(A:(n.map (·.1)).Nodup){a b:List Nat}(c:iT n ss a)(r:b.Pairwise (· < ·))(m:∀i∈b,1<=i/\i<(aG n).length)(B:∀z∈ag n,par n b z=decide (z∈ss)):a=b:=by
 have s:=Ay.mpr<|c.fI.imp λh=>Bi h;have t:=Ay.mpr<|r.imp λh=>Bi h;have d:∀i,i<(aG n).length->(i∈a↔i∈b):=by
  intro i f;have C:0<(aG n).length:=(by omega)
  have o:=Ab C;obtain⟨e,D,E⟩:=sf T o;rw[E]at o;have j:=yi (k:=0) o (show e∈cY n e from(jF T D).mpr ⟨0,rfl⟩);refine WO T w A (S:=λi=>i∈a↔i∈b) ⟨_,j,?_⟩ (λp j q G e=>?_) i f
  ·exact⟨λh=>absurd (c.oj 0 h).1 (by decide),λh=>absurd (m 0 h).1<|(by decide)⟩
  ·have l:=(se T<|(by decide)).mp<|Ai.mpr ⟨p,j,rfl⟩;obtain⟨p',H,I,u⟩:=j3 T (k:=0) (by decide) l;obtain⟨q',J,L,ut⟩:=j3 T (k:=1) (by decide) l;obtain rfl:=yj T (by decide) j H I.symm;obtain rfl:=yj T (by decide) G J<|e.symm.trans L.symm;have M:=C6 T s (λi f=>(c.oj i f).2) u ut;have N:=C6 T t (λi f=>(m i f).2) u ut;have v:par n a (ay n p.2)=par n b (ay n p.2):=(c.sum _ l).trans (B _ l).symm;rw[M,N]at v
   by_cases O:p.1∈a<;>by_cases Q:p.1∈b<;>by_cases U:q.1∈a<;>by_cases Y:q.1∈b<;>simp[O,Q,U,Y]at v ⊢
 refine List.Perm.eq_of_pairwise (le:=λx y:Nat=>x<=y) (λx y _ _ h1 h2=>Nat.le_antisymm h1 h2) (c.fI.imp λh=>Bz h) (r.imp λh=>Bz h)<|(Dm s t).mpr λi=>?_;exact⟨λh=>(d i (c.oj i h).2).mp h,λh=>(d i (m i h).2).mpr h⟩
def qs(T:aw n){o:List Nat}(h:l.Nodup)(j:∀i∈l,i<(aG n).length)(m:o.Nodup)(c:∀i,i∈o↔i<(aG n).length/\i∉l)(f:z∈ag n):par n o z=par n l z:=by
 obtain⟨p,u,v,d⟩:=j3 T (k:=0) (by decide) f;obtain⟨q,w,A,e⟩:=j3 T (k:=1) (by decide) f;rw[C6 T h j d e,C6 T m (λi r=>((c i).mp r).1) d e];have a:=c p.1;have b:=c q.1;have s:=uq d;have t:=uq e
 by_cases x:p.1∈l<;>by_cases y:q.1∈l<;>simp[a,b,x,y,s,t]
structure Sum(n:fo)(l:List Nat)(ss:Ñ):Prop where
 fI:cD ss
 mem:∀z∈ss,z∈ag n
 sum:∀z∈ag n,decide (z∈ss)=par n l z
def Sum.uniq{m:List Nat}{a b:Ñ}(d:Sum n l a)(e:Sum n m b)(h:∀z∈ag n,par n l z=par n m z):a=b:=A1 d.fI e.fI λz=>by
 by_cases c:z∈ag n
 ·exact decide_eq_decide.mp<|(d.sum z c).trans<|(h z c).trans (e.sum z c).symm
 ·exact⟨λk=>absurd (d.mem z k) c,λk=>absurd (e.mem z k) c⟩
def Sum.nil:Sum n [] []:=⟨List.Pairwise.nil,λz h=>(by cases h),λz _=>rfl⟩
def Sum.snoc(C:cq n cs)(T:aw n){b ci:Ñ}(h:Sum n l ss)(c:cs[i]?=some ci)(r:cD b)(j:∀z,z∈b↔(if z∈ss then z∉ci else z∈ci)):Sum n (l++[i]) b:=by
 have t:=(Ac.mp c).1;have d:i<(aG n).length:=by rwa[<-C.len]
 have wk:=ng T (ends n) [] (λe s=>s) _<|Bp d;have f:=C0 wk.ends<|C.mem i _ _ c<|Ab d;refine⟨r,λz a=>?_,λz a=>?_⟩
 ·have:=(j z).mp a
  by_cases k:z∈ss
  ·exact h.mem z k
  ·rw[BK k]at this;exact f z this
 ·have m:=C.at' T d a;rw[c,Option.getD_some]at m;unfold par;rw[Aj,ni];show _=(par n l z ^^ (di n ((aG n)[i]?.getD []) z ^^ false));rw[Gh,<-h.sum z a,<-m];have o:=j z
  by_cases p:z∈ss<;>by_cases q:z∈ci<;>simp[p,q]at o<;>simp[o,p,q]
def Sum.dbl(C:cq n cs)(T:aw n)(f:HF n)(h:(n.map (·.1)).Nodup)(j:0<n.length){a ci:Ñ}(k:du n ss=true)(l:f7 n ss)(b:cs[i]?=some ci)(m:cD a)(d:∀z,z∈a↔(if z∈ss then z∉ci else z∈ci)):du n a=true/\f7 n a:=by
 have s:=(Ac.mp b).1;have c:i<(aG n).length:=by rwa[<-C.len]
 have e:=C.mem i _ _ b<|Ab c;have o:=Ks T (Bp c) e;obtain⟨p,q⟩:=I0 T f h j (Bp c) e;have r:f7 n ci:=⟨C.fI ci<|At b,p,q.cut⟩;exact⟨K4 k o d,j9 T l r m d⟩
def W5(n:fo):du n []=true/\f7 n []:=by
 refine⟨?_,List.Pairwise.nil,[],λz=>⟨λh=>(by cases h),λ⟨e,_,h,_⟩=>(by cases h)⟩⟩;unfold du;simp;intro a b _;rw[Ec.mpr λz _ h=>by cases h];rfl
end
end Nt
namespace Q1
open PySem L2 Nt bD bK
open PyProof.Rows (sortedS)
open Classical
def N4:Sp:=λh H Q _=>∃a b e c,h=[.ref a,.ref b]/\H a=some (Ls e)/\H b=some (Ls c)/\e.length+c.length<64 /\
 ∀l d f,ah H f->H l=none->f l=some (Ls d)->sortedS d=true->d.Nodup->(∀z,z∈d↔(if z∈e then z∉c else z∈c))->Q (.ref l) f
def og(c:Str->Addr):Sp:=λe H Q E=>∃R L as n b,e=[.ref R,.ref L]/\al H R as n/\(n.map (·.1)).Nodup/\aw n/\n.length<=60/\(ag n).length<=32/\H L=some (Lz b)/\b.length<=100 /\
 ((∃ x∈b,x < 0\/((aG n).length:Int)<=x)->∀ a,ah H a->E (.ref<|c "NoWalker") none a)/\(∀l:List Nat,b=l.map (λi:Nat=>(i:Int))->(∀i∈l,i<(aG n).length)->∀D d a,ah H a->H D=none->a D=some (Ls d)->Sum n l d->Q (.ref D) a)
variable{Z:Heap}{mg:Ò}{K:aa}{w:World}{P:Program}{fd:FuncData}{f:Addr}{c:Str->Addr}{X:Cx}{Y:List (Key×V)}{L:List V->Hp->Prop}{es:Ô}{l:List Nat}
section
def uT:ak ["one","other"] ["one","other"] (aP IB):=bZ
theorem ES(F:bo K "summed" "summed" IB f fd)(T:Txt mg):aD P w K mg Z bz 1 f fd ["one","other"] N4:=by
 refine F.gc uT λJ H L Q E M h=>?_;obtain⟨a,b,i,j,rfl,x,y,m,q⟩:=h;refine bQ (bP (Ry rfl) T.sorted CW<|ai<|aU pB<|mP (Rx rfl) T.qK PK<|ai<|ae 0<|ax ⟨a,i,rfl,aj.of x,(by omega),λc A=>?_⟩);have n:=aM A<|bj P w c<|made i;refine mP (Rx rfl) T.qK PK (ai<|ae 1<|ax ⟨b,j,rfl,aj.of<|n _ _ y,(by omega),λd hd=>?_⟩);have o:=aM hd<|bj P w d<|made j;have N:=HM i;have O:=HM j;refine⟨c,d,made i,made j,rfl,rfl,o _ _ av,av,(by omega),(by omega),λe p B r C=>?_⟩;have s:=aM B<|bj P w e p;have t:∀z,z∈p↔(if z∈i then z∉j else z∈j):=λz=>by
  rw[C z];simp only[FM]
 have k:=aI r λz D=>by
  have:=(t z).mp D;rw[An]
  by_cases c:z∈i
  ·exact .inl c
  ·rw[BK c]at this;exact .inr this
 rw[Ad]at k;refine ax ⟨e,p,rfl,av,(by omega),λl u m v G=>?_⟩;have I:=aM m<|Ls u;exact q l u _ (n.trans<|o.trans<|s.trans I) (n.free<|o.free<|s.free m) av G (v.nodup_iff.mpr r) λz=>by
  rw[v.mem_iff];exact t z
abbrev W7:Ñ:=["rows","numbers","cores","double","number"]
abbrev yq:Ñ:=["rows","numbers","cores","double","?","number"]
def yr:ak W7 ["rows","numbers"] (aP zY):=bZ
def QI:yq.Nodup:=by decide +kernel
def W8{f:Int->Bool}:∀ns:List Int,((ns.map f).any id=true)↔∃x∈ns,f x=true:=λns=>by
 rw[List.any_map,Fc];rfl
theorem m3(F:bo K "double_by" "double_by" zY f fd)(T:Txt mg)(t:Cl K mg c)(GC:aQ P w K mg Z 5 "cores_of" ["rows"] C3)(GS:aQ P w K mg Z 5 "summed" ["one","other"] N4):
  aD P w K mg Z (XF P w) 6 f fd ["rows","numbers"] (og c):=by
 refine F.gx yr (λvs H Q E h=>?_) λb0 H vs Q hr h=>?_
 ·obtain⟨R,L,as,n,a,rfl,_⟩:=h;rfl
 obtain⟨R,L,as,n,a,rfl,hR,hN,y,hn,iN,hL,uc,qE,N⟩:=h;have nd:=yr.nd;have mN:("NoWalker" : Str)∈cB:=(by decide)
 refine aT 2 nd (bG GC hr<|ai<|ae 0<|ax ⟨R,as,n,rfl,hR,hN,y,hn,(by omega),λC cu cs H1 s1 n1 O q=>?_⟩);have U:=s1 _ _ hL;have W9:(cu.map V.ref).length=(aG n).length:=by rw[Aa,O.2.1,q.len]
 have W':(a.map V.int).length=a.length:=Aa ..
 let bad:Int->Bool:=λx=>decide (x<0) || decide (((aG n).length:Int)<=x)
 refine fP<|iu<|bP (K5 rfl) T.anyB PyProof.Rows.boot_any<|ai<|gu (aP zY) W7 yq 1 (eB bd)<|ae 1 ⟨L,rfl,⟨_,aj.of U⟩,λD Y=>?_⟩;refine jS (xs:=a.map V.int) (λi j p=>(∃v,j=[(some (.ref R)),(some (.ref L)),(some (.ref C)),none,none]++[v])/\ah H1 p/\p D=some (.lst<|((a.take i).map bad).map V.bl)) ⟨⟨none,rfl⟩,aM Y _,av⟩ ?_ ?_ ?_
 ·rintro i j p _ ⟨_,d,_⟩;exact aj.of<|d _ _ U
 ·rintro i x j p b ⟨⟨v,rfl⟩,d,o⟩;rw[Ah,Ar]at b;obtain⟨x,b,rfl⟩:=b;have A:((a.take<|i+1).map bad).map V.bl=((a.take i).map bad).map V.bl++[V.bl<|bad x]:=by rw[Bx,b,Aj,Aj];rfl
  have lD:(((a.take i).map bad).map V.bl).length<sizeLine:=by rw[Aa,Aa,Bh];exact bI<|(by omega)
  intro t C' æ ç ex;refine a8 5 QI ?_;intro t C' æ ç ex;refine iA<|cz ?_;intro t C' æ ç ex;refine AE<|hG Py<|ae 5<|aE ⟨_,_,rfl,rfl,_,rfl,?_⟩
  by_cases k:x<0
  ·rw[BW k];refine cz ⟨_,o,lD,⟨_,rfl⟩,cX d Y,?_⟩;rw[av,A,show bad x=true from by show(decide (x<0) || _)=true;rw[BW k];rfl]
  ·rw[BR k];refine bH<|F7<|hG Y4<|ae 5<|bP dH T.len DR<|ai<|ae 2<|ax ⟨C,_,rfl,.inl<|aj.of<|d _ _ O.1,_,_,rfl,rfl,_,o,lD,⟨_,rfl⟩,cX d Y,?_⟩;rw[av,A,W9,show bad x=decide (((aG n).length:Int)<=x)from by show(decide (x<0) || _)=_;rw[BR k];rfl]
 rintro j H2 ⟨_,s2,o⟩;rw[W',Br]at o;refine ax ⟨D,a.map bad,rfl,aj.of o,_,rfl,?_⟩;have B:=s1.trans s2;have Xa:∀x,bad x=true↔(x<0\/((aG n).length:Int)<=x):=λx=>by
  show(decide (x<0) || decide (((aG n).length:Int)<=x))=true↔_;rw[Bool.or_eq_true,DN,DN]
 by_cases G:(a.map bad).any id=true
 ·rw[G];obtain⟨x,b,lg⟩:=(W8 a).mp G;exact cz<|V0 V2 (t.at' _ mN).1 (t.at' _ mN).2.1 rfl (ai<|vj<|ax ⟨Z1,qE ⟨x,b,(Xa x).mp lg⟩ _ B⟩)
 have jt:=Dk.mpr G;rw[jt];refine bH<|a7<|WV ?_;have good:=λx b=>by
  have:¬ bad x=true:=λk=>G<|(W8 a).mpr ⟨x,b,k⟩;rw[Xa]at this;omega
 obtain⟨l,el,hl⟩:∃l:List Nat,a=l.map (λi:Nat=>(i:Int))/\∀i∈l,i<(aG n).length:=by
  refine⟨a.map Int.toNat,?_,λi hi=>?_⟩
  ·rw[Cg];refine(List.map_id a).symm.trans<|Bo λx b=>?_;show x=((x.toNat:Nat):Int);have:=good x b;omega
  ·obtain⟨x,b,rfl⟩:=Ai.mp hi;have:=good x b;omega
 have N:=N l el hl;have Ö:=O.same s2;have nB:=s2 _ _ U;refine aT 3 nd<|dS<|ax ⟨Z0,λu pD=>?_⟩;have s3:=aM pD<|.lst [];have e3:(upd H2 u<|.lst []) u=some (Ls []):=av;have Ø:H u=none:=B.free pD;generalize upd H2 u (.lst [])=H3 at s3 e3;have uv:∀{xs:Ñ},cD xs->(∀z∈xs,z∈ag n)->xs.length<=16:=λh1 h2=>by have:=T4 y (tY h1) h2;omega
 refine lS<|ae 1 ⟨L,rfl,⟨_,aj.of<|s3 _ _ nB⟩,?_⟩;refine lT (xs:=a.map V.int) (λi I p=>∃(D:Addr)(r:Ñ)(u4:Option V),ah H2 p/\H D=none/\p D=some (Ls r)/\Sum n (l.take i) r/\I=[(some (.ref R)),(some (.ref L)),(some (.ref C)),(some (.ref D)),u4]) ⟨u,[],_,s3,Ø,e3,Sum.nil,rfl⟩ ?_ ?_ ?_
 ·rintro i I p _ ⟨_,_,_,d,_⟩;exact aj.of<|d _ _ nB
 ·rintro i x I H4 b ⟨D,r,u4,d,nD,o,s,rfl⟩;rw[el,Cg,Ah,Ar]at b;obtain⟨k,hk,rfl⟩:=b;have oZ:=hl k<|At hk;have N5:=Ö.same d;have N6:=N5.2.1;obtain⟨ci,J⟩:∃ci,cs[k]?=some ci:=⟨_,Ab<|by rwa[q.len]⟩;obtain⟨M,yt⟩:∃M,cu[k]?=some M:=⟨_,Ab<|by rwa[N6,q.len]⟩;have N7:=N5.2.2 k _ _ yt J;have C7:=q.fI _<|At J;have wk:=ng y (ends n) [] (λe he=>he) _<|Bp oZ;have Ù:=C0 wk.ends<|q.mem k _ _ J<|Ab oZ;have la:=uv s.fI s.mem;have lb:=uv C7 Ù;have A:l.take (i+1)=l.take i++[k]:=by rw[Bx,hk];rfl
  refine a8 4 nd ?_;refine aT 3 nd (bG GS hr<|ai<|ae 3<|ai<|bb cL<|ae 2<|ae 4 ⟨C,_,_,.ref M,rfl,rfl,aj.of N5.1,oH (by rw[Ah,yt];rfl),ax ⟨D,M,r,ci,rfl,o,N7,(by omega),λm ms H5 s5 n5 e5 Mi Ú m5=>?_⟩⟩);refine a7 ⟨m,ms,_,d.trans s5,B.free<|d.free n5,e5,?_,rfl⟩;rw[A];exact s.snoc q y J (tX Mi Ú) m5
 ·rintro I H4 ⟨D,r,u4,d,nD,o,s,rfl⟩;rw[W',show a.length=l.length by rw[el,Aa],Br]at s;exact bQ<|ae 3<|N D r H4 (B.trans d) nD o s
open PyProof.Rows (sortedS)
open Classical
def BB:bootBuiltins "ValueError" = some (.type "ValueError"):=by decide +kernel
def N8:p9 (XF P w) X (λ_ _ _=>False):=λ_ _ _ _ _ _ _ h=>by
 obtain⟨_,_,_,_,_,h,_⟩:=h;exact h.elim
theorem SO(zs:List Int)(i:Nat):dR (zs.map V.int) (some (i:Int)) none=(zs.drop i).map V.int:=by
 unfold dR;rw[HT.eF,HT.c7,Aa];rw[Ck (by rw[Dd,Aa];omega),He]
 obtain h|h:=SN i zs.length
 ·rw[Ex h]
 ·rw[Ep h,Fg (by simp),Fg<|by simpa using h]
def tf(zs:List Int)(i:Nat):dR (zs.map V.int) none (some (i:Int))=(zs.take i).map V.int:=by
 unfold dR;rw[HT.eF,HT.c7,Aa,List.drop_zero,SM,Hc]
 obtain h|h:=SN i zs.length
 ·rw[Ex h]
 ·rw[Ep h,Ck (by simp),Ck<|by simpa using h]
theorem N9(z:Int):∀zs:List Int,j6 (.int z) (zs.map V.int)=decide (z∈zs)
 |[]=>by simp[j6]
 |y :: r=>by
  have a:=N9 z r;unfold j6 at a ⊢;rw[Bn,Fj,a]
  by_cases e:y=z
  ·subst e;simp[cC]
  ·simp[cC,e,CG e]
def Xb(zs:List Int):(zs.map V.int).all jK=true:=by
 rw[De];intro x a;obtain⟨z,_,rfl⟩:=Ai.mp a;rfl
def mY{σ:St}{H:Hp}{d:Addr}(hd:H d=some (.dK Y))(h:∀o,Ea X es σ (upd H d<|.bB o<|.dK Y) L):Ea X es σ H L:=by
 refine⟨λpos O s I=>?_⟩;obtain⟨o,b,a⟩:=Sq I hd;exact(h o).run pos O s a
def Oa:Sp:=λe H Q _=>∃a b c,e=[.ref a,.ref b]/\H a=some (Ls c)/\H b=some (Ls c)/\c.length<=1000/\∀d,ah H d->Q (.bl true) d
def Ob:Sp:=λe H Q _=>∃a b c,e=[.ref a,.ref b]/\H a=some (Lz c)/\H b=some (Lz c)/\∀d,ah H d->Q (.bl true) d
def Oc:Sp:=λc H Q _=>∃R L as n a,c=[.ref R,.ref L]/\al H R as n/\(n.map (·.1)).Nodup/\aw n/\n.length<=60/\(ag n).length<=32/\H L=some (Lz a)/\a.length<=100/\(∃x∈a,x<0\/((aG n).length:Int)<=x)/\∀b,ah H b->Q (.bl true) b
abbrev C8:Ñ:=["_law_found","_law_due"]
abbrev sj:Ñ:=["_law_found","_law_due","_law_one"]
def yu:ak C8 ["_law_found","_law_due"] (aP z9):=bZ
def yv:ak C8 ["_law_found","_law_due"] (aP AA):=bZ
def Xc:sj.Nodup:=by decide +kernel
theorem wu(F:bo K "_law_is_set" "_law_is_set" z9 f fd)(T:Txt mg):aD P w K mg Z bz 1 f fd ["_law_found","_law_due"] Oa:=by
 refine F.gc yu λy H A Q E n h=>?_;obtain⟨a,b,o,rfl,c,r,B,q⟩:=h;have un:=n.fQ;refine fP<|mQ<|vk<|lR<|iu<|bP vf T.oX DK<|ai<|ae 0<|ai<|sY (.ty "list") T.gR IK rfl (ax ⟨_,_,_,true,rfl,.lst c,w8 K,true,rfl,bH ?_⟩);refine vp (cH (qw un)<|ae 0<|ae 1 ⟨1,true,(by decide),QN c r,_,rfl,bH<|a7 ?_⟩);refine bQ<|hG (vO un)<|gu (aP z9) C8 sj 1 (eB bd)<|ae 0 ⟨a,rfl,⟨_,aj.of c⟩,λD d=>?_⟩;refine qO (λ_=>false) (bI<|(by omega)) c d (λi C j k l v v0 s t h=>a8 2 Xc h) (λi C j k l z G I h=>hU<|lR<|iu<|bP vf T.oX DK<|ai<|ae 2<|ai<|sY (.ty "str") T.IQ PyProof.Rows.boot_str rfl (ax ⟨_,_,_,true,rfl,.str _,KO K,true,rfl,h⟩)) (λi C j k l z s t h=>ae 2 h) ?_;have e:(o.filter λ_=>false)=[]:=by simp
 rw[e];refine dS<|ax ⟨Z0,λp u=>?_⟩;have x:=aM d<|.lst<|([]:Ñ).map V.str;have m:=aM u<|.lst [];exact⟨1,true,(by decide),KG (m _ _ av) av,q _<|x.trans m⟩
def Mo(F:bo K "_law_numbers" "_law_numbers" AA f fd)(T:Txt mg):aD P w K mg Z bz 1 f fd ["_law_found","_law_due"] Ob:=by
 refine F.gc yv λA H B Q E m h=>?_;obtain⟨a,b,n,rfl,d,o,q⟩:=h;have un:=m.fQ;refine fP<|mQ<|vk<|lR<|iu<|bP vf T.oX DK<|ai<|ae 0<|ai<|sY (.ty "list") T.gR IK rfl (ax ⟨_,_,_,true,rfl,.lst d,w8 K,true,rfl,bH ?_⟩);refine vp (cH (qw un)<|ae 0<|ae 1 ⟨1,true,(by decide),WW d o,_,rfl,bH<|a7 ?_⟩);refine bQ<|hG (vO un)<|gu (aP AA) C8 sj 1 (eB bd)<|ae 0 ⟨a,rfl,⟨_,aj.of d⟩,λD k=>?_⟩;refine jS (xs:=n.map V.int) (λi c e=>(∃v,c=[(some (.ref a)),(some (.ref b))]++[v])/\e=upd H D (.lst [])) ⟨⟨none,rfl⟩,rfl⟩ ?_ ?_ ?_
 ·rintro i c e _ ⟨_,rfl⟩;exact aj.of<|aM k _ _ _ d
 ·rintro i x c e j ⟨⟨v,rfl⟩,rfl⟩;rw[Ah,Ar]at j;obtain⟨x,j,rfl⟩:=j;intro r C s t u;refine a8 2 Xc ?_;intro r C s t u;refine hU<|mQ<|vk<|lR<|iu<|bP vf T.oX DK<|ai<|ae 2<|ai<|sY (.ty "int") T.m4 JZ rfl (ax ⟨_,_,_,true,rfl,.int _,KP K,true,rfl,bH ?_⟩);exact vp<|iu<|bP vf T.oX DK<|ai<|ae 2<|ai<|sY (.ty "bool") T.vW PyProof.Rows.boot_bool rfl (ax ⟨_,_,_,false,rfl,.int _,KS K,false,rfl,bH ⟨⟨_,rfl⟩,rfl⟩⟩)
 ·rintro c e ⟨_,rfl⟩;refine dS<|ax ⟨Z0,λp y=>?_⟩;have z:=aM k<|.lst [];have l:=aM y<|.lst [];exact⟨1,true,(by decide),KG (zs:=[]) (l _ _ av) av,q _<|z.trans l⟩
abbrev Lc:Ñ:=["_law_rows","_law_numbers_here","e"]
def yw:ak Lc ["_law_rows","_law_numbers_here"] (aP IM):=bZ
theorem G5(F:bo K "_law_no_walker" "_law_no_walker" IM f fd)(T:Txt mg)(a:Cl K mg c)(J:d3 P w K mg Z 6 "double_by" ["rows","numbers"]<|og c):aD P w K mg Z bz 7 f fd ["_law_rows","_law_numbers_here"] Oc:=by
 refine F.gc yw λb0 H vs Q E M h=>?_;obtain⟨R,L,as,n,N,rfl,O,U,Y,hn,iN,hL,uc,iJ,q⟩:=h;have nd:=yw.nd;have b:("NoWalker" : Str)∈cB:=(by decide)
 refine fx 2 (λC j k=>C = .ref (c "NoWalker")/\j=[(some (.ref R)),(some (.ref L)),none]/\ah H k) a.net a.M1 nd (λp=>?_) ?_
 ·refine gq<|q6x J M (Pe rfl)<|ai<|ae 0<|ai<|ae 1<|ax ⟨R,L,as,n,N,rfl,O,U,Y,hn,iN,hL,uc,λ_ k o=>⟨rfl,rfl,o⟩,λl el hl=>?_⟩
  exfalso
  obtain⟨x,z,hb⟩:=iJ;rw[el]at z;obtain⟨i,hi,rfl⟩:=Ai.mp z;have:=hl i hi;omega
 ·rintro C j k ⟨rfl,rfl,o⟩;refine⟨c "NoWalker",rfl,(a.at' _ b).2.1,(a.at' _ b).2.2.1,λp e d s y=>?_⟩;have A:=aM y<|XO d;have m:(upd k e<|XO d) e=some (XO d):=av;have B:=o.trans A;generalize upd k e (XO d)=H6 at A m B;refine bQ (F6<|bP V8 T.oX DK<|ai<|ae 2<|ai<|F5 (a.at' "NoWalker" (by decide)).1 (v:= .ref<|c "NoWalker") rfl (ax ⟨e,c "NoWalker",d,.ref<|c "NoWalker",.ref<|c "NoWalker",_,rfl,λu r=>r,m,s,(a.at' _ b).2.2.2.1,a.M3 _ b "NoWalker" (by decide),_,rfl,?_⟩));rw[BW rfl];refine cz<|F6<|bP V8 T.oX DK<|ai<|ae 2<|ai<|sY (.ty "ValueError") T.IT BB rfl (ax ⟨e,c "NoWalker",d,.type "ValueError",.ty "ValueError",true,rfl,λu r=>r,m,s,(a.at' _ b).2.2.2.1,(a.at' _ b).2.2.2.2,true,rfl,cz ?_⟩);refine F7 (CO<|bP iD T.oX DK<|ai<|ae 2<|ai<|fv<|ai<|F5 (a.at' "NoDouble" (by decide)).1 (v:= .ref<|c "NoDouble") rfl (ai<|F5 (a.at' "NoTie" (by decide)).1 (v:= .ref<|c "NoTie") rfl (ax ⟨Z2,λt ht=>?_⟩)));have D:=aM ht<|.tup [.ref<|c "NoDouble",.ref<|c "NoTie"];refine ax ⟨e,c "NoWalker",d,t,_,[.ref<|c "NoDouble",.ref<|c "NoTie"],false,rfl,av,λus r=>?_,D _ _ m,s,(a.at' _ b).2.2.2.1,?_,false,rfl,q _<|B.trans D⟩
  ·obtain⟨u,v,rfl,r1,r2⟩:=re r;cases r1;cases r2;rfl
  ·have G:=a.M3 _ b "NoDouble" (by decide);have I:=a.M3 _ b "NoTie" (by decide);rw[show decide (("NoWalker" : Str) = "NoDouble")=false by decide]at G;rw[show decide (("NoWalker" : Str) = "NoTie")=false by decide]at I;show PySem.W.kitAny K _ _=some false;unfold PySem.W.kitAny;rw[G];show PySem.W.kitAny K _ _=_;unfold PySem.W.kitAny;rw[I];rfl
open PyProof.Rows (sortedS)
open Classical
def C9(K:aa):Sp:=λc H Q _=>∃(a:Addr)(b:List Int),c=[.ref a]/\aj K H a (b.map V.int)/\b.length<=63/\∀d,Q (.bl true) d
abbrev ci(l:List Nat):List Int:=l.map λi:Nat=>(i:Int)
theorem Xd{a b:List Nat}(h:ci a=ci b):a=b:=(List.map_inj_right λx y e=>(by omega)).mp h
theorem Dt{i:Nat}:(i:Int)∈ci l↔i∈l:=⟨λh=>by
 obtain⟨j,a,e⟩:=Ai.mp h;obtain rfl:j=i:=(by omega)
 exact a,λh=>Ai.mpr ⟨i,h,rfl⟩⟩
def Nh{i k:Nat}:insertAt ((ci l).map V.int) i (.int (k:Int))=(ci<|l.take i++k :: l.drop i).map V.int:=by
 unfold insertAt;simp[ci,Hc,He]
abbrev NW:Ñ:=["_law_script","_law_big_here","_law_rows","_law_handed","_law_cores","_law_bits","_law_chosen","_law_total","_law_k","_law_others","_law_given","_law_turn","_law_told","_law_due","_law_far","_law_number","_law_spot"]
abbrev Xe:Ñ:=["_law_script","_law_big_here","_law_rows","_law_handed","_law_cores","_law_bits","_law_chosen","_law_total","_law_k","_law_others","_law_given","_law_turn","_law_told","_law_due","_law_far","_law_number","_law_spot","_law_walker"]
abbrev Xf:Ñ:=["_law_script","_law_big_here","_law_rows","_law_handed","_law_cores","_law_bits","_law_chosen","_law_total","?","_law_others","_law_given","_law_turn","_law_told","_law_due","_law_far","_law_number","_law_spot","_law_k"]
def pN:ak NW ["_law_script"] (aP iG):=bZ
def Rn:Xe.Nodup:=by decide +kernel
def yV:Xf.Nodup:=by decide +kernel
structure NH(n:fo)(t:Nat)(ch l:List Nat)(ts:Ñ):Prop where
 perm:ch.Perm l
 de:l.Nodup
 lt:∀i∈l,i<t
 sum:Sum n l ts
 even:du n ts=true
 cut:f7 n ts
theorem ov(F:bo K "law" "law" iG f fd)(T:Txt mg)
  (GC:aQ P w K mg Z 7 "_law_cell_at" ["_law_script","_law_k"]<|AB K) (GB:aQ P w K mg Z 7 "_law_big" ["_law_script","_law_at"]<|IY K) (GN:aQ P w K mg Z 7 "_law_net_by" ["_law_big_here","_law_most","_law_stem"] Kg) (GY:aQ P w K mg Z 7 "_law_copy" ["_law_rows"] Kq) (GS:aQ P w K mg Z 7 "_law_seats" ["_law_rows"] AF)
  (GM:aQ P w K mg Z 7 "_law_sum" ["_law_one","_law_other_here"] Mt) (GO:aQ P w K mg Z 7 "_law_core" ["_law_rows","_law_walker"] ME) (GW:aQ P w K mg Z 7 "walkers_of" ["rows"] BV) (GE:aQ P w K mg Z 7 "_law_even" ["_law_rows","_law_some"] ug) (GI:aQ P w K mg Z 7 "_law_side" ["_law_rows","_law_seats_here","_law_some"] My)
  (GT:aQ P w K mg Z 7 "_law_is_set" ["_law_found","_law_due"] Oa) (GU:aQ P w K mg Z 7 "_law_numbers" ["_law_found","_law_due"] Ob) (GZ:aQ P w K mg Z 7 "_law_no_walker" ["_law_rows","_law_numbers_here"] Oc)  (GD:d3 P w K mg Z 7 "double_by" ["rows","numbers"]<|og c) (GA:d3 P w K mg Z 7 "numbers_by" ["rows","some"]<|NU c):
  aD P w K mg Z bz 8 f fd ["_law_script"] (C9 K):=by
 refine F.gc pN λb0 H vs Q E B h=>?_;obtain⟨a,ns,rfl,hS,ï,q⟩:=h;have nd:=pN.nd;have un:=B.fQ;refine aT 1 nd (bG GB B<|ai<|ae 0<|ai<|aE<|ax ⟨a,ns,0,rfl,hS,(by decide),λb H1 s1=>?_⟩);refine aT 2 nd (bG GN B<|ai<|aU iY<|ae 1<|aE ⟨_,_,rfl,rfl,⟨(by decide),(by decide)⟩,?_⟩);refine ai (aE<|ai<|aU fj<|aU cJ<|ae 1<|aE ⟨_,_,rfl,rfl,(by show(0:Int)<97;decide),bG GC B<|ai<|ae 0<|ai<|aE<|ax ⟨a,ns,9,rfl,s1.seq hS,(by decide),λc9=>⟨_,_,rfl,rfl,?_⟩⟩⟩);refine ax ⟨_,16,_,rfl,(by decide),(by decide),λR as n H2 s2 n2 hR N hN hF hf iN uc has=>?_⟩;have Ú:((16:Int)).toNat=16:=rfl;rw[Ú]at iN uc;have pq:=jv n;have DA:0<n.length:=Du.mpr<|Full.some hF;have wl:(aG n).length<=(ends n).length:=wq n (ends n) [];have uv:∀{xs:Ñ},cD xs->(∀z∈xs,z∈ag n)->xs.length<=16:=λh1 h2=>by have:=T4 N (tY h1) h2;omega
 refine aT 3 nd (bG GY B<|ai<|ae 2<|ax ⟨R,as,n,rfl,hR,(by omega),λM bs H3 s3 n3 f3 hM=>?_⟩);have nn:=hR.same s3;have vJ:=((s1.trans s2).trans s3).seq hS;refine tj 4 (aP iG) NW Xe 1 nd (eB bd) (bG GW B<|ai<|ae 3<|ax ⟨M,bs,n,rfl,hM,hN,N,(by omega),(by omega),λW ls H9 s9 n9 hW fW=>⟨W,rfl,⟨_,aj.of hW.lst⟩,λO Xg=>?_⟩⟩);have ym:ls.length=(aG n).length:=hW.len;refine jS (xs:=ls.map V.ref) (λi J G=>(∃v,J=[(some (.ref a)),some<|.int b,(some (.ref R)),(some (.ref M)),none,none,none,none,none,none,none,none,none,none,none,none,none]++[v])/\ah H9 G/\∃us cs,lB n G O us cs i) ⟨⟨none,rfl⟩,aM Xg _,[],[],lB.start av⟩ ?_ ?_ ?_
 ·rintro i J G _ ⟨_,sm,_⟩;exact aj.of<|sm _ _ hW.lst
 ·rintro i x J G U ⟨⟨v,rfl⟩,sm,us,cs,I⟩;rw[Ah,Ar]at U;obtain⟨l,hl,rfl⟩:=U;have mW:i<(aG n).length:=by have:=(Ac.mp hl).1;rwa[<-ym]
  have nY:=Ab mW;obtain⟨Y,el,hE⟩:=(hW.same sm).at' i l _ hl nY;have wk:=ng N (ends n) [] (λe he=>he) _<|At nY;generalize (aG n)[i]=es at nY hE wk;have ð:=wk.few;have lu:=I.lu;intro cl C æ ç ex;refine a8 17 Rn ?_;intro cl C æ ç ex;refine iA<|cz ?_;intro cl C æ ç ex;refine bG GO B<|ai<|ae 2<|ai<|ae 17<|ax ⟨R,l,as,n,Y,es,rfl,(nn.same s9).same sm,hN,(by omega),el,hE,wk.ends,(by omega),λl hn hm=>?_,λk ks H2 s2 n2 e2 NX m2=>?_⟩
  ·have:=aI hn λz hz=>WY wk.ends z<|hm z hz;omega
  exact⟨_,s2 _ _ I.lst,by rw[Aa];exact bI (by omega),⟨_,rfl⟩,cX (sm.trans s2) Xg,_,_,I.step s2 n2 e2 NX nY m2⟩
 rintro J HA ⟨_,sA,cu,cs,I⟩;rw[Aa,ym]at I;obtain⟨Xh,dU⟩:=I.whole;have DB:=s9.trans sA;have Û:=nn.same DB;have Ü:=hM.same DB;have ñ:=dU.len;have W9:=Xh.2.1;refine aT 5 nd (bG GB B<|ai<|ae 0<|ai<|aE<|ax ⟨a,ns,10,rfl,DB.seq vJ,(by decide),λbi H5 s5=>?_⟩);have A7:=Û.same s5;have Ý:=Ü.same s5;have oa:=Xh.same s5;have Þ:=s5.seq<|DB.seq vJ;refine aT 6 nd<|dS<|ax ⟨Z0,λs Xi=>?_⟩;refine aT 7 nd<|dS<|ax ⟨Z0,λt0 rm=>?_⟩;have sL:=aM Xi<|.lst [];have sT:=aM rm<|.lst [];have Xj:t0≠s:=λe=>by rw[e,av]at rm;cases rm
 have ua:(upd (upd H5 s<|.lst []) t0<|.lst []) s=some (Lz<|ci []):=by rw[au<|CG Xj,av];rfl
 have Xk:(upd (upd H5 s<|.lst []) t0<|.lst []) t0=some (Ls []):=av;have Od:=sL.trans sT;generalize upd (upd H5 s<|.lst []) t0 (.lst [])=H6 at ua Xk Od;have Ø:(cu.map V.ref).length=(aG n).length:=by rw[Aa];omega
 refine ke T.range (bP dH T.len DR<|ai<|ae 4<|ax ⟨O,_,rfl,.inl<|aj.of<|Od _ _ oa.1,_,rfl,(by omega),(by omega),?_⟩);rw[Ø,Bm];refine kg (n:=(aG n).length) (λt L G=>∃(d l:List Nat)(A:Addr)(Y:Ñ)(u8:Option V),ah H5 G/\G s=some (Lz<|ci d)/\G A=some (Ls Y)/\A≠s/\H5 A=none/\NH n t d l Y/\d.length<=t /\
   L=[(some (.ref a)),some<|.int b,(some (.ref R)),(some (.ref M)),(some (.ref O)),some<|.int bi,(some (.ref s)),(some (.ref A)),u8,none,none,none,none,none,none,none,none])
  ⟨[],[],t0,[],_,Od,ua,Xk,Xj,sL.free rm,⟨List.Perm.refl _,Cn,λi h=>(by cases h),Sum.nil,(W5 n).1,(W5 n).2⟩,Am _,rfl⟩ ?_ ?_
 ·rintro t L H7 ht ⟨d,l,A,Y,u8,s7,eL,eT,nT,fT,p,ß,rfl⟩;rw[Dw];refine a8 8 nd ?_;refine vq True True (λR' qq=>?_) (λ_=>?_) λ_=>a7<|a7 ⟨d,l,A,Y,_,s7,eL,eT,nT,fT,⟨p.perm,p.de,λi u=>Bt<|p.lt i u,p.sum,p.even,p.cut⟩,(by omega),rfl⟩
  ·refine cH jl<|aU YZ<|aU Pt<|ae 5<|ae 8 ⟨bi,(t:Int),rfl,rfl,?_,aE ⟨_,_,rfl,rfl,aE ⟨rfl,_,rfl,qq _ (λ_=>trivial) λ_=>trivial⟩⟩⟩;omega
  have lL:((ci d).map V.int).length=d.length:=by rw[Aa,Aa]
  refine gq<|zG DW LR MF Ik<|ae 6 (v:= .ref s) ⟨Ui eL,aU cJ<|aU Pt<|ae 5<|aU fj<|aE<|ae 8 ⟨_,_,rfl,rfl,bi,20+(t:Int),rfl,rfl,?_,?_⟩⟩
  ·omega
  refine aU fj<|bP dH T.len DR<|ai<|ae 6<|ax ⟨s,_,rfl,.inl<|aj.of eL,aE ⟨_,_,rfl,rfl,?_⟩⟩;rw[lL];have m0:∀bx:Int,0<=bx%((d.length:Int)+1):=λbx=>Bs _ (by omega);have m1:∀bx:Int,bx%((d.length:Int)+1)<(d.length:Int)+1:=λbx=>Ce _ (by omega);refine⟨_,_,rfl,rfl,by show(0:Int)<(d.length:Int)+1;omega,ae 8 ⟨s,_,_,.int (t:Int),rfl,rfl,eL,m0 _,by rw[lL];exact Int.toNat_le.mpr<|Int.le_of_lt_add_one<|m1 _,by rw[lL];exact bI (by omega),?_⟩⟩;rw[Nh];generalize (bi/2 ^ (20+(t:Int)).toNat%((d.length:Int)+1)).toNat=j;have pm:(d.take j++t :: d.drop j).Perm (l++[t]):=by
   refine List.perm_middle.trans ?_;rw[Db];exact((List.Perm.cons t p.perm).trans<|Ci (l₁:=[t]) (l₂:=l))
  have DC:(upd H7 s<|.lst<|(ci<|d.take j++t :: d.drop j).map V.int) s=some (Lz<|ci<|d.take j++t :: d.drop j):=av;have Xl:(upd H7 s<|.lst<|(ci<|d.take j++t :: d.drop j).map V.int) A=some (Ls Y):=by rwa[au nT]
  have s8:ah H5 (upd H7 s<|.lst<|(ci<|d.take j++t :: d.drop j).map V.int):=cX s7 Xi;have j8:(d.take j++t :: d.drop j).length<=t+1:=by have:=pm.length_eq;rw[Ad]at this;have:=p.perm.length_eq;show _<=_;simp at *;omega
  generalize upd H7 s (.lst<|(ci<|d.take j++t :: d.drop j).map V.int)=H8 at DC Xl s8;generalize d.take j++t :: d.drop j=à at DC pm j8;have Xm:=oa.same s8;obtain⟨c1,yx⟩:∃c1,cs[t]?=some c1:=⟨_,Ab<|(by omega)⟩;obtain⟨u1,cj⟩:∃u1,cu[t]?=some u1:=⟨_,Ab<|(by omega)⟩;have N7:=Xm.2.2 t _ _ cj yx;have C7:=dU.fI _<|At yx;have wk:=ng N (ends n) [] (λe he=>he) _<|Bp ht;have á:=C0 wk.ends<|dU.mem t _ _ yx<|Ab ht;have la:=uv p.sum.fI p.sum.mem;have lb:=uv C7 á;refine aT 7 nd (bG GM B<|ai<|ae 7<|ai<|bb cL<|ae 4<|ae 8 ⟨O,_,_,.ref u1,rfl,rfl,aj.of Xm.1,oH (by rw[Ah,cj];rfl),ax ⟨A,u1,Y,c1,rfl,Xl,N7,(by omega),tY p.sum.fI,tY C7,λm ms HC sC nC eC Xn mC=>?_⟩⟩);have dd:=Sum.dbl dU N hf hN DA p.even p.cut yx Xn mC;refine a7<|a7 ⟨à,l++[t],m,ms,_,s8.trans sC,sC _ _ DC,eC,λk=>(by rw[k,DC]at nC;cases nC),s8.free nC,⟨pm,?_,λi u=>?_,p.sum.snoc dU N yx Xn mC,dd.1,dd.2⟩,j8,rfl⟩
  ·exact lQ p.de λk=>absurd (p.lt t k)<|Cq _
  ·obtain k|k:=An.mp u
   ·exact Bt<|p.lt i k
   ·rw[Af.mp k];exact Fd _
 rintro L H7 ⟨d,l,A,Y,u8,s7,eL,eT,nT,fT,p,ß,rfl⟩;have DE:d.Nodup:=p.perm.nodup_iff.mpr p.de;have DF:∀i∈d,i<(aG n).length:=λi u=>p.lt i<|p.perm.mem_iff.mp u;have ó:=uv p.sum.fI p.sum.mem;have good:∀{m:List Nat},(∀i∈m,i<(aG n).length)->¬ ∃x∈ci m,x<0\/((aG n).length:Int)<=x:=λ{m}h⟨x,U,hb⟩=>by
  obtain⟨i,u,rfl⟩:=Ai.mp U;have:=h i u;omega
 refine tj 9 (aP iG) NW Xf 1 nd (yM rfl T.range gL) (ai<|bP dH T.len DR<|ai<|ae 4<|ax ⟨O,_,rfl,.inl<|aj.of<|s7 _ _ oa.1,ax ⟨_,rfl,(by omega),(by omega),λD hD=>?_⟩⟩);rw[Ø,Bm];refine Ku (λi J G=>(∃v,J=[(some (.ref a)),some<|.int b,(some (.ref R)),(some (.ref M)),(some (.ref O)),some<|.int bi,(some (.ref s)),(some (.ref A)),u8,none,none,none,none,none,none,none,none]++[v])/\ah H7 G/\G D=some (Lz<|ci<|(range i).filter λk=>decide (k∉d))) ⟨⟨_,rfl⟩,aM hD _,av⟩ ?_ ?_
 ·rintro i J G u ⟨⟨v,rfl⟩,sm,eD⟩;rw[Dw];have er:(range<|i+1).filter (λk=>decide (k∉d))=(range i).filter (λk=>decide (k∉d))++(if i∉d then [i]else []):=by
   rw[Dc,Ct,Cv]
   by_cases k:i∉d
   ·rw[BP<|BW k,BP k];rfl
   ·rw[BK λe=>k<|BX e,BK k];rfl
  have lf:=Cp (λk=>decide (k∉d))<|range i;rw[Cy]at lf;rw[er];intro cl C æ ç ex;refine a8 17 yV ?_;intro cl C æ ç ex;refine hU<|cH E4<|ae 17<|ae 6 ⟨s,_,rfl,.inl<|aj.of<|sm _ _ eL,rfl,Xb _,_,rfl,?_⟩;rw[BP rfl,N9];have ek:decide ((i:Int)∈ci d)=decide (i∈d):=decide_eq_decide.mpr Dt;rw[ek]
  by_cases k:i∈d
  ·rw[BW k,BK (show ¬(i∉d)from λh=>h k),Be];exact bH ⟨⟨_,rfl⟩,sm,eD⟩
  ·rw[BR k,BP (show i∉d from k)];refine cz ?_;intro cl C æ ç ex;refine ae 17 ⟨_,eD,by rw[Aa,Aa];exact bI (by omega),⟨_,rfl⟩,cX sm hD,?_⟩;rw[N0,av];show some (Lz<|ci _++[(i:Int)])=some (Lz<|ci<|_++[i]);simp[ci]
 rintro J H8 ⟨_,s8,eD⟩;generalize ho:(range (aG n).length).filter (λk=>decide (k∉d))=ot at eD;have om:∀i,i∈ot↔i<(aG n).length/\i∉d:=λi=>by rw[<-ho,Bg,Bc,CK]
 have Xp:ot.Pairwise (· < ·):=by rw[<-ho];exact List.pairwise_lt_range.filter _
 have on:ot.Nodup:=Ay.mpr<|Xp.imp λh=>Bi h;have ô:ot.length<=40:=by have:=aI on (b:=range (aG n).length) λi u=>Bc.mpr ((om i).mp u).1;rw[Cy]at this;omega
 have yy:∀z∈ag n,par n ot z=par n l z:=λz hz=>(qs N DE DF on om hz).trans<|C5 p.perm z;have Xq:=s8 _ _ eL;have â:=s8 _ _ eT;have ã:=s7.trans s8;refine aT 10 nd<|mP E5 T.gR IK<|ai<|ae 6<|ax ⟨s,_,rfl,.inl<|aj.of Xq,λg hg=>?_⟩;have DH:=aM hg<|Lz<|ci d;have Oe:(upd H8 g<|Lz<|ci d) g=some (Lz<|ci d):=av;have yz:=DH _ _ Xq;have uw:=DH _ _ â;have pH:=DH _ _ eD;have yA:=ã.trans DH;generalize upd H8 g (Lz<|ci d)=ä at Oe yz uw pH yA;have oh:=A7.same yA;have lE:=Ý.same yA;have Og:=oa.same yA;have Oh:=yA.seq Þ;refine ke T.range<|aE ⟨2,rfl,(by decide),(by decide),kg (n:=2) (λ_ L G=>ah ä G/\∃lF lG:Option V,L=[(some (.ref a)),some<|.int b,(some (.ref R)),(some (.ref M)),(some (.ref O)),some<|.int bi,(some (.ref s)),(some (.ref A)),u8,(some (.ref D)),(some (.ref g)),lF,lG,none,none,none,none]) ⟨ah.refl _,_,_,rfl⟩ ?_ ?_⟩
 ·rintro i L HB _ ⟨sB,lF,lG,rfl⟩;refine a8 11 nd ?_;refine aT 12 nd (MR GD B N8<|ai<|ae 3<|ai<|ae 10<|ax ⟨M,g,bs,n,ci d,rfl,lE.same sB,hN,N,(by omega),(by omega),sB _ _ Oe,by rw[Aa];omega,λk=>absurd k<|good DF,λm em hm DD ds HC sC nC eC sk=>?_⟩);obtain rfl:=Xd em;obtain rfl:ds=Y:=sk.uniq p.sum λz _=>C5 p.perm z;have yB:=sB.trans sC;refine fP (mQ<|vk<|lR<|iu<|bG GT B<|ai<|ae 12<|ai<|ae 7<|ax ⟨DD,A,_,rfl,eC,yB _ _ uw,(by omega),λHD sD=>⟨true,rfl,bH ?_⟩⟩);have sr:=yB.trans sD;refine vp (cH (qw un)<|ae 10<|ae 6 ⟨1,true,(by decide),WW (sr _ _ Oe)<|sr _ _ yz,_,rfl,bH<|a7 ?_⟩);have Xr:=sD _ _ eC;refine gq (jQ<|ae 12 ⟨DD,rfl,⟨_,Xr⟩,vj ⟨_,Xr,by rw[Aa];exact bI (by omega),?_⟩⟩);exact a7 ⟨cX sr<|sB.free nC,_,_,rfl⟩
 rintro L HB ⟨sB,lF,lG,rfl⟩;refine fP (mQ<|vk<|lR<|iu<|bG GT B<|ai<|MR GD B N8<|ai<|ae 3<|ai<|ae 9<|ax ⟨M,D,bs,n,ci ot,rfl,lE.same sB,hN,N,(by omega),(by omega),sB _ _ pH,by rw[Aa];omega,λk=>absurd k<|good λi u=>((om i).mp u).1,λm em hm DD ds HC sC nC eC sk=>?_⟩);obtain rfl:=Xd em;obtain rfl:ds=Y:=sk.uniq p.sum yy;have yB:=sB.trans sC;refine ai (ae 7<|ax ⟨DD,A,_,rfl,eC,yB _ _ uw,(by omega),λHD sD=>⟨true,rfl,bH ?_⟩⟩);have sr:=yB.trans sD;refine vp (lR<|iu<|bG GE B<|ai<|ae 2<|ai<|ae 7<|ax ⟨R,A,as,n,_,rfl,oh.same sr,(by omega),(by omega),sr _ _ uw,λHE sE=>⟨_,rfl,?_⟩⟩);rw[p.even];refine bH<|a7 ?_;have Xs:=sr.trans sE;refine fP (cH Y5<|bG GI B<|ai<|ae 2<|ai<|bG GS B<|ai<|ae 2<|ax ⟨R,as,n,rfl,oh.same Xs,(by omega),(by omega),λsd ks HF sF nF Oi=>?_⟩);obtain⟨iQ,ed,ek,ev⟩:=Oi.dict;refine mY ed λob=>?_;have kF:∀b o,b≠sd->HF b=some o->(upd HF sd<|.bB ob<|.dK iQ) b=some o:=λb o hb h=>by rwa[au hb]
 have Xt:lj (upd HF sd<|.bB ob<|.dK iQ) sd ob n ks:=by
  refine⟨⟨iQ,av,ek,λz hz=>?_⟩,Oi.nodup,Oi.mem⟩;obtain⟨a,Y,q1,q2,q3⟩:=ev z hz;exact⟨a,Y,q1,kF _ _ (bV q2 ed λz=>nomatch z) q2,q3.keep λt e h=>kF _ _ (bV h ed λz=>nomatch z) h⟩
 have å:ah HE (upd HF sd<|.bB ob<|.dK iQ):=cX sF nF;have DI:=Xs.trans å;generalize upd HF sd (.bB ob<|.dK iQ)=HG at Xt DI;refine ai<|ae 7<|ax ⟨R,sd,A,as,n,_,ks,ob,rfl,oh.same DI,Xt,N,hf.1,hN,DA,(by omega),DI _ _ uw,p.sum.mem,λLq HH sH hex=>vi ⟨rfl,_,rfl,?_⟩,λHH sH Mr=>?_⟩
 rotate_left
 ·exfalso
  obtain⟨fD,Oj⟩:=WF N DA p.cut;exact Mr fD Oj
 rw[BR λk=>by cases k];refine bH<|a7 ?_;have Xu:=DI.trans sH;have dbl:dv n ds:=⟨p.even,hex⟩;have é:=Xu _ _ yz;have Xv:(ci d).length=d.length:=Aa ..;have õ:d.length<=40:=by have:=aI DE (b:=range (aG n).length) λi u=>Bc.mpr<|DF i u;rw[Cy]at this;omega
 refine aT 13 nd (bP WU T.sorted CW<|ai<|ae 6<|ax ⟨s,_,rfl,aj.of é,(by omega),λd1 is Lf db gP=>?_⟩);have sS:=aM Lf<|.lst<|is.map V.int;have eS:(upd HH d1<|.lst<|is.map V.int) d1=some (Lz is):=av;have yC:=Xu.trans sS;generalize upd HH d1 (.lst<|is.map V.int)=HI at eS yC;have Ö:∀(Ld:Addr) (dl:List Nat),HI Ld=some (Lz<|ci dl)->dl.Pairwise (· < ·)->(∀ i∈dl,1<=i/\i < (aG n).length)->(∀ z∈ag n,par n dl z=par n l z)->ge (Hm NW "law" (aP iG) P w K mg Z b0) ((gn iG).drop 15) (En Q) [(some (.ref a)),some<|.int b,(some (.ref R)),(some (.ref M)),(some (.ref O)),some<|.int bi,(some (.ref s)),(some (.ref A)),u8,(some (.ref D)),(some (.ref g)),lF,lG,(some (.ref Ld)),none,none,none] HI:=by
  intro Ld dl ê Xw Xx Ol;refine ke T.range<|aE ⟨2,rfl,(by decide),(by decide),kg (n:=2) (λ_ L G=>ah HI G/\∃lF lG:Option V,L=[(some (.ref a)),some<|.int b,(some (.ref R)),(some (.ref M)),(some (.ref O)),some<|.int bi,(some (.ref s)),(some (.ref A)),u8,(some (.ref D)),(some (.ref g)),lF,lG,(some (.ref Ld)),none,none,none]) ⟨ah.refl _,_,_,rfl⟩ ?_ ?_⟩
  ·rintro i L HJ _ ⟨sJ,lF,lG,rfl⟩;have uz:=yC.trans sJ;refine a8 11 nd ?_;refine aT 12 nd<|MR GA B N8<|ai<|ae 3<|ai<|mP E5 T.gR IK<|ai<|ae 7<|ax ⟨A,_,rfl,.inl<|aj.of<|uz _ _ uw,λg2 rR=>?_⟩;have sK:=aM rR<|Ls ds;refine ax ⟨M,g2,bs,n,ds,rfl,(lE.same uz).same sK,hN,N,hf,DA,(by omega),(by omega),av,p.sum.fI,λk=>absurd dbl k,λ_ Lr nr HK ë ì Xy oI=>?_⟩;have e9:nr=dl:=Op N hf.1 hN oI Xw Xx λz hz=>(Ol z hz).trans (p.sum.sum z hz).symm;subst e9;have Xz:=sJ.trans<|sK.trans ë;have Om:HI Lr=none:=sJ.free<|sK.free ì;refine fP<|lR<|iu<|bG GU B<|ai<|ae 12<|ai<|ae 13<|ax ⟨Lr,Ld,_,rfl,Xy,Xz _ _ ê,λHL XA=>⟨true,rfl,bH<|a7 ?_⟩⟩;have yD:=XA _ _ Xy;have ö:nr.length<=40:=by
    have CD:nr.Nodup:=Ay.mpr<|Xw.imp λh=>Bi h;have:=aI CD (b:=range (aG n).length) λi u=>Bc.mpr (Xx i u).2;rw[Cy]at this;omega
   refine gq (jQ<|ae 12 ⟨Lr,rfl,⟨_,yD⟩,aE ⟨_,yD,by rw[Aa,Aa];exact bI (by omega),?_⟩⟩);exact a7 ⟨cX (Xz.trans XA) Om,_,_,rfl⟩
  rintro L HJ ⟨sJ,lF,lG,rfl⟩;have uz:=yC.trans sJ;refine aT 14 nd (aU cJ<|bG GC B<|ai<|ae 0<|ai<|aE<|ax ⟨a,ns,19,rfl,uz.seq Oh,(by decide),λOo=>?_⟩);refine aU EG (aE<|aE ⟨_,_,rfl,rfl,⟨(by decide),(by decide),(by decide)⟩,_,_,rfl,rfl,by show(0:Int)<10 ^ Int.toNat 30;decide,?_⟩);have f0:0<=Oo%10 ^ Int.toNat 30:=Bs _ (by decide);show ge _ _ _ [(some (.ref a)),some<|.int b,(some (.ref R)),(some (.ref M)),(some (.ref O)),some<|.int bi,(some (.ref s)),(some (.ref A)),u8,(some (.ref D)),(some (.ref g)),lF,lG,(some (.ref Ld)),some<|.int<|Oo%10 ^ Int.toNat 30,none,none] HJ;generalize Oo%10 ^ Int.toNat 30=r at f0;have XB:=Og.same uz;refine Qx<|fv<|ai<|y4 yR<|aE ⟨1,rfl,ai<|aU Pq<|y4 yR<|aE ⟨1,rfl,ae 14 ⟨_,_,rfl,rfl,?_⟩⟩⟩;refine ai<|bP dH T.len DR<|ai<|ae 4<|ax ⟨O,_,rfl,.inl<|aj.of XB.1,?_⟩;refine ai (aU fj<|bP dH T.len DR<|ai<|ae 4<|ax ⟨O,_,rfl,.inl<|aj.of XB.1,ae 14 ⟨_,_,rfl,rfl,ax ⟨(by show 4<=sizeLine;decide),λtp x8=>⟨tp,rfl,⟨_,aS.of av⟩,?_⟩⟩⟩⟩);rw[Ø];have sP:=aM x8<|.tup [.int (-1),.int (-1-r),.int ((aG n).length:Int),.int<|((aG n).length:Int)+r];have eP:(upd HJ tp<|.tup [.int (-1),.int (-1-r),.int ((aG n).length:Int),.int<|((aG n).length:Int)+r]) tp=some (.tup [.int (-1),.int (-1-r),.int ((aG n).length:Int),.int<|((aG n).length:Int)+r]):=av;have Oq:=uz.trans sP;generalize upd HJ tp (.tup [.int (-1),.int (-1-r),.int ((aG n).length:Int),.int<|((aG n).length:Int)+r])=HP at eP Oq;refine Qy (xs:=[.int (-1),.int (-1-r),.int ((aG n).length:Int),.int<|((aG n).length:Int)+r]) (λi L G=>ah HP G/\∃Ot Ù:Option V,L=[(some (.ref a)),some<|.int b,(some (.ref R)),(some (.ref M)),(some (.ref O)),some<|.int bi,(some (.ref s)),(some (.ref A)),u8,(some (.ref D)),(some (.ref g)),lF,lG,(some (.ref Ld)),some<|.int r,Ot,Ù]) ⟨ah.refl _,_,_,rfl⟩ ?_ ?_ ?_
  ·rintro i L G _ ⟨sm,_⟩;exact aS.of<|sm _ _ eP
  ·rintro i x L HQ U ⟨sQ,Ot,Ù,rfl⟩;obtain⟨y,rfl,hy⟩:∃y:Int,x=.int y/\(y<0\/((aG n).length:Int)<=y):=by
    match i with
    |0=>cases U;exact⟨_,rfl,.inl<|(by omega)⟩
    |1=>cases U;exact⟨_,rfl,.inl<|(by omega)⟩
    |2=>cases U;exact⟨_,rfl,.inr<|(by omega)⟩
    |3=>cases U;exact⟨_,rfl,.inr<|(by omega)⟩
    |i+4=>simp at U
   have yE:=Oq.trans sQ;have Ou:=yE _ _ yz;have lL:((ci d).map V.int).length=d.length:=by rw[Aa,Aa]
   refine a8 15 nd ?_;refine aT 16 nd<|aU cJ<|ae 14<|aU fj<|bP dH T.len DR<|ai<|ae 6<|ax ⟨s,_,rfl,.inl<|aj.of Ou,aE ⟨_,_,rfl,rfl,?_⟩⟩;rw[lL];refine⟨_,_,rfl,rfl,by show(0:Int)<(d.length:Int)+1;omega,?_⟩;have m0:0<=r%((d.length:Int)+1):=Bs _ (by omega);have m1:r%((d.length:Int)+1)<(d.length:Int)+1:=Ce _ (by omega);obtain⟨j,dG⟩:=TF m0;show ge _ _ _ [(some (.ref a)),some<|.int b,(some (.ref R)),(some (.ref M)),(some (.ref O)),some<|.int bi,(some (.ref s)),(some (.ref A)),u8,(some (.ref D)),(some (.ref g)),lF,lG,(some (.ref Ld)),some<|.int r,some<|.int y,some<|.int<|r%((d.length:Int)+1)] HQ;rw[dG];refine fP<|lR<|iu<|bG GZ B<|ai<|ae 3<|ai<|aU yW<|aU yW<|y7 yU<|ae 6<|y8<|y9<|ae 16 ⟨_,rfl,s,_,rfl,aj.of Ou,λp1 wM=>?_⟩;rw[tf];have t1:=aM wM<|.lst<|((ci d).take j).map V.int;have g1:(upd HQ p1<|.lst<|((ci d).take j).map V.int) p1=some (Lz<|(ci d).take j):=av;generalize upd HQ p1 (.lst<|((ci d).take j).map V.int)=HR at t1 g1;refine dS<|ai<|ae 15<|ax ⟨Z1,λp2 kd=>?_⟩;have t2:=aM kd<|.lst [.int y];have XD:(upd HR p2<|.lst [.int y]) p2=some (Lz [y]):=av;generalize upd HR p2 (.lst [.int y])=HS at t2 XD;have ø:((ci d).take j).length<=40:=by rw[Bh,Xv];omega
   refine⟨p1,p2,_,_,rfl,rfl,t2 _ _ g1,XD,?_,λp3 nG=>?_⟩
   ·rw[Aa];exact r9<|by show _+1<=_;omega
   have t3:=aM nG<|.lst<|((ci d).take j).map V.int++[y].map V.int;have g3:(upd HS p3<|.lst<|((ci d).take j).map V.int++[y].map V.int) p3=some (Lz<|(ci d).take j++[y]):=by rw[av];show _=some (HO.lst<|((ci d).take j++[y]).map V.int);rw[Aj]
   generalize upd HS p3 (.lst<|((ci d).take j).map V.int++[y].map V.int)=HT at t3 g3;have XE:=t1.trans<|t2.trans t3;refine y7 yU<|ae 6<|y9<|ae 16 ⟨_,rfl,y8 ⟨s,_,rfl,aj.of<|XE _ _ Ou,λp4 í=>?_⟩⟩;rw[SO];have t4:=aM í<|.lst<|((ci d).drop j).map V.int;have g4:(upd HT p4<|.lst<|((ci d).drop j).map V.int) p4=some (Lz<|(ci d).drop j):=av;generalize upd HT p4 (.lst<|((ci d).drop j).map V.int)=HU at t4 g4;have ù:((ci d).drop j).length<=40:=by rw[Dd,Xv];omega
   have û:((ci d).take j++[y]).length<=41:=by rw[Ad];show _+1<=_;omega
   refine⟨p3,p4,_,_,rfl,rfl,t4 _ _ g3,g4,?_,λp5 î=>?_⟩
   ·rw[Aa,Aa];exact r9<|(by omega)
   have t5:=aM î<|.lst<|((ci d).take j++[y]).map V.int++((ci d).drop j).map V.int;have g5:(upd HU p5<|.lst<|((ci d).take j++[y]).map V.int++((ci d).drop j).map V.int) p5=some (Lz<|((ci d).take j++[y])++(ci d).drop j):=by rw[av];show _=some (HO.lst<|(((ci d).take j++[y])++(ci d).drop j).map V.int);rw[Aj (l₁:=(ci d).take j++[y])]
   generalize upd HU p5 (.lst<|((ci d).take j++[y]).map V.int++((ci d).drop j).map V.int)=HV at t5 g5;have XG:=XE.trans<|t4.trans t5;refine ax ⟨M,p5,bs,n,_,rfl,(lE.same yE).same XG,hN,N,(by omega),(by omega),g5,by rw[Ad];omega,⟨y,Az _<|Av _<|Af.mpr rfl,hy⟩,λHW sW=>⟨true,rfl,bH<|a7<|a7 ⟨sQ.trans<|XG.trans sW,_,_,rfl⟩⟩⟩
  ·rintro L HQ ⟨sQ,Ot,Ù,rfl⟩;have yE:=Oq.trans sQ;exact bQ<|hG (vO un)<|ae 3<|ae 2 ⟨3,true,(by decide),OR (lE.same yE)<|oh.same yE,q _⟩
 refine fP<|cH lN<|aE<|ae 6 ⟨s,_,rfl,.inl<|aj.of<|yC _ _ yz,rfl,Xb _,_,rfl,?_⟩;have fF:∀(x y:Bool),(if false=true then x else y)=y:=λ_ _=>rfl;rw[fF,N9];have e0:decide ((0:Int)∈ci d)=decide (0∈d):=decide_eq_decide.mpr<|Dt (i:=0);rw[e0]
 by_cases z0:0∈d
 ·rw[BW z0];refine cz<|aT 13 nd<|ae 9<|a7 ?_;refine Ö D ot (yC _ _ pH) Xp (λi u=>?_) yy;have:=(om i).mp u;exact⟨RB λe=>this.2 (by rwa[e]),this.1⟩
 ·rw[BR z0];refine bH<|a7 ?_;have pos:∀x∈is,∃i,i∈d/\x=(i:Int):=λx U=>by
   obtain⟨i,u,rfl⟩:=Ai.mp<|db.mem_iff.mp U;exact⟨i,u,rfl⟩
  obtain⟨dl,rfl⟩:∃dl:List Nat,is=ci dl:=by
   refine⟨is.map Int.toNat,?_⟩;unfold ci;rw[Cg];refine(List.map_id is).symm.trans<|Bo λx U=>?_;obtain⟨i,_,rfl⟩:=pos x U;rfl
  have dn:(ci dl).Nodup:=db.nodup_iff.mpr (by rw[Ay,Cs];exact(Ay.mp DE).imp λh e=>h<|(by omega));have XH:dl.Perm d:=(Dm (by rw[Ay,Cs]at dn;rw[Ay];exact dn.imp λh e=>h<|by rw[e]) DE).mpr λi=>by
   rw[<-Dt,db.mem_iff,Dt]
  refine Ö d1 dl eS ?_ (λi u=>?_) λz hz=>C5 (XH.trans p.perm) z
  ·rw[Cs]at gP;rw[Ay,Cs]at dn;exact(gP.and dn).imp λ⟨a,b⟩=>(by omega)
  ·have:=XH.mem_iff.mp u;exact⟨RB λe=>z0 (by rwa[<-e]),DF i this⟩
end
end Q1
namespace L2
open PySem PySem.Spec PyProof.Rows
variable{ps:Ñ}{mg:Ò}{K:aa}
def Df.hx{P:Program}{w:World}{h Z:Heap}{k:Nat}{x:Str}{st:Stmt}{sp:Sp}(d:Df K x st)(X:K.In h)(G:h.Ns mainGlobals mg)
  (ok:∀{f:Addr}{c:FuncData},bo K x x st f c->aD P w K mg Z (XF P w) k f c ps sp)
  (e:∀(kV a pm:Value)(i:Option Addr)(j ct:Value)(b:Ó),b.length=ps.length->bindArgs (PySem.W.fnOf x x (lP st) (gn st) (aP st) .none kV a pm i j ct) ⟨b,[]⟩=pure (ps.zip b):=by intro _ _ _ _ _ _;(repeat (refine L2.vC λ_=>?_));exact L2.vD rfl):d3 P w K mg Z k x ps sp:=d.MS X G e ok
end L2
namespace Q1
open PySem L2
variable{mg:Ò}{l:PySem.W.OpenLaw}
def AC{w:World}{K:aa}{h:Heap}{Q:Addr}(X:K.In h)(G:h.Ns mainGlobals mg)(Hn:mg "law" = some (.ref Q))
  (h1:Df K "ends_round" zR) (h2:Df K "ends_in_order" zS) (h3:Df K "turned_left" Iw) (h4:Df K "turned_right" Iy) (h5:Df K "other_ends" Iz) (h6:Df K "ties_by_end" zT) (h7:Df K "left_steps" zU) (h8:Df K "right_steps" zV) (h9:Df K "ties_of" zW) (Ov:Df K "links_of" IA) (U:Df K "spread" vR) (Ow:Df K "odd_points" iF) (CM:Df K "is_round" qD) (Ox:Df K "cut_of" zX) (Oy:Df K "side_of" vS) (Oz:Df K "walkers_of" qF) (OA:Df K "walker_from" qG) (OB:Df K "core_of" vT) (OC:Df K "is_double" IC) (OG:Df K "numbers_by" vU) (OH:Df K "cores_of" zZ) (OI:Df K "_law_cell_at" IE) (x6:Df K "_law_big" qH) (OL:Df K "_law_names" IG) (OM:Df K "_law_seats" IH) (OO:Df K "_law_other" II) (OQ:Df K "_law_step" IJ) (OS:Df K "_law_face" IL) (OT:Df K "_law_put" qI) (OU:Df K "_law_net_by" qJ) (OV:Df K "_law_copy" z6) (OW:Df K "_law_side" z7) (OX:Df K "_law_even" z8) (OY:Df K "_law_sum" vV) (OZ:Df K "_law_core" oW) (O0:Df K "_law_is_set" z9) (O1:Df K "_law_numbers" AA) (O2:Df K "_law_no_walker" IM) (O3:Df K "summed" IB) (O4:Df K "double_by" zY) (hl:Df K "law" iG)
  (qc:M4 K=true)
  (z:∀ x∈(["isinstance","tuple","str","int","bool","list","dict","set","enumerate","zip","len","range","sorted","max","all","ValueError","any"]:Ñ),PySem.W.nsIn K mainGlobals x=some none):
  ∃ a:FuncData,(∀(s:Shared) (v:Value),BindsTo s a ⟨[v],[]⟩ [("_law_script",v)])/\∀Z:Heap,K.In Z->Z.Ns mainGlobals mg->aD l.prog w K mg Z bz 8 Q a ["_law_script"] (C9 K):=by
 have T:Txt mg:=⟨CP X G (z _<|by simp),CP X G (z _<|by simp),CP X G (z _<|by simp),CP X G (z _<|by simp),CP X G (z _<|by simp),CP X G (z _<|by simp),CP X G (z _<|by simp),CP X G (z _<|by simp),CP X G (z _<|by simp),CP X G (z _<|by simp),CP X G (z _<|by simp),CP X G (z _<|by simp),CP X G (z _<|by simp),CP X G (z _<|by simp),CP X G (z _<|by simp),CP X G (z _<|by simp),CP X G<|z _<|by simp⟩;have b:=Sz X G qc;refine hl.law X G Hn (λ_ _ _ _ _ _ s v=> .of_eq rfl) λZ f a F=>?_;have c:aQ l.prog w K mg Z 1 "ends_round" ["row"] wO:=h1.hs X G λF=>mm F T;have G2:aQ l.prog w K mg Z 2 "ends_in_order" ["rows"] Kz:=h2.hs X G λF=>pG F T (c.mono<|(by decide));have G3:aQ l.prog w K mg Z 1 "turned_left" ["end","many"] (iK λj=>j+1):=h3.hs X G λF=>eE F T;have G4:aQ l.prog w K mg Z 1 "turned_right" ["end","many"] (iK λj=>j-1):=h4.hs X G λF=>lq F T;have Y:aQ l.prog w K mg Z 2 "other_ends" ["rows"] kZ:=h5.hs X G λF=>Pn F T (c.mono<|(by decide));have G6:aQ l.prog w K mg Z 2 "ties_by_end" ["rows"] nJ:=h6.hs X G λF=>dO F T (c.mono<|(by decide));have G7:aQ l.prog w K mg Z 3 "left_steps" ["rows"] (iM 1):=h7.hs X G λF=>Me F T (Y.mono<|(by decide)) (G3.mono<|(by decide));have G8:aQ l.prog w K mg Z 3 "right_steps" ["rows"] (iM (-1)):=h8.hs X G λF=>kh F T (Y.mono<|(by decide)) (G4.mono<|(by decide));have d:aQ l.prog w K mg Z 1 "walker_from" ["lefts","rights","first"] rD:=OA.hs X G λF=>Hx F T;have XI:aQ l.prog w K mg Z 4 "walkers_of" ["rows"] BV:=Oz.hs X G λF=>pw F T (G7.mono<|(by decide)) (G8.mono<|(by decide)) (G6.mono<|(by decide)) (G2.mono<|(by decide)) (d.mono<|(by decide));have G9:aQ l.prog w K mg Z 1 "ties_of" ["rows"] rY:=h9.hs X G λF=>uH F T;have e:aQ l.prog w K mg Z 3 "core_of" ["rows","walker"] M7:=OB.hs X G λF=>cb F T (G6.mono<|(by decide));have XJ:aQ l.prog w K mg Z 5 "cores_of" ["rows"] C3:=OH.hs X G λF=>yG F T (XI.mono<|(by decide)) (e.mono<|(by decide));have XM:aQ l.prog w K mg Z 1 "links_of" ["rows"] B9:=Ov.hs X G λF=>oC F T;have i:aQ l.prog w K mg Z 1 "spread" ["first","links"] LO:=U.hs X G λF=>NJ F T;have k:aQ l.prog w K mg Z 2 "cut_of" ["rows","points"] LW:=Ox.hs X G λF=>y3 F T (XM.mono<|(by decide));have m:aQ l.prog w K mg Z 3 "side_of" ["rows","some"] LX:=Oy.hs X G λF=>YA F T (XM.mono<|(by decide)) (i.mono<|(by decide)) (k.mono<|(by decide));have n:aQ l.prog w K mg Z 1 "odd_points" ["rows","some"] Ml:=Ow.hs X G λF=>vG F T;have o:aQ l.prog w K mg Z 2 "is_round" ["rows","some"] ug:=CM.hs X G λF=>Sy F T (n.mono<|(by decide));have p:aQ l.prog w K mg Z 4 "is_double" ["rows","some"] Mk:=OC.hs X G λF=>tE F T (o.mono<|(by decide)) (m.mono<|(by decide));have i:aQ l.prog w K mg Z 1 "spread" ["first","links"] M9:=U.hs X G λF=>TZ F T;have q:d3 l.prog w K mg Z 6 "numbers_by" ["rows","some"] (NU<|jE K):=OG.hx X G λF=>LB F T b (p.mono<|(by decide)) (XJ.mono<|(by decide)) (G9.mono<|(by decide)) (i.mono<|(by decide));have XN:aQ l.prog w K mg Z 1 "_law_cell_at" ["_law_script","_law_k"] (AB K):=OI.hs X G λF=>wh F T;have r:aQ l.prog w K mg Z 2 "_law_big" ["_law_script","_law_at"] (IY K):=x6.hs X G λF=>ix F T (XN.mono<|(by decide));have t:aQ l.prog w K mg Z 1 "_law_names" ["_law_stem","_law_many"] IZ:=OL.hs X G λF=>Lm F T;have XQ:aQ l.prog w K mg Z 1 "_law_seats" ["_law_rows"] AF:=OM.hs X G λF=>Zl F T;have u:aQ l.prog w K mg Z 1 "_law_other" ["_law_rows","_law_seats_here","_law_end"] Ja:=OO.hs X G λF=>gv F T;have y:aQ l.prog w K mg Z 2 "_law_step" ["_law_rows","_law_seats_here","_law_end","_law_turn"] Jb:=OQ.hs X G λF=>vr F T (u.mono<|(by decide));have A:aQ l.prog w K mg Z 3 "_law_face" ["_law_rows","_law_seats_here","_law_end"] Jc:=OS.hs X G λF=>UV F T (y.mono<|(by decide));have B:aQ l.prog w K mg Z 4 "_law_put" ["_law_rows","_law_big_here","_law_tie","_law_point"] JS:=OT.hs X G λF=>dt F T (XQ.mono<|(by decide)) (A.mono<|(by decide));have C:aQ l.prog w K mg Z 5 "_law_net_by" ["_law_big_here","_law_most","_law_stem"] Kg:=OU.hs X G λF=>FH F T (t.mono<|(by decide)) (B.mono<|(by decide));have D:aQ l.prog w K mg Z 1 "_law_copy" ["_law_rows"] Kq:=OV.hs X G λF=>wd F T;have E:aQ l.prog w K mg Z 1 "_law_side" ["_law_rows","_law_seats_here","_law_some"] My:=OW.hs X G λF=>yH F T;have H:aQ l.prog w K mg Z 1 "_law_even" ["_law_rows","_law_some"] ug:=OX.hs X G λF=>fy F T;have I:aQ l.prog w K mg Z 1 "_law_sum" ["_law_one","_law_other_here"] Mt:=OY.hs X G λF=>k9 F T;have J:aQ l.prog w K mg Z 1 "_law_core" ["_law_rows","_law_walker"] ME:=OZ.hs X G λF=>US F T;have L:aQ l.prog w K mg Z 1 "_law_is_set" ["_law_found","_law_due"] Oa:=O0.hs X G λF=>wu F T;have M:aQ l.prog w K mg Z 1 "_law_numbers" ["_law_found","_law_due"] Ob:=O1.hs X G λF=>Mo F T;have N:aQ l.prog w K mg Z 1 "summed" ["one","other"] N4:=O3.hs X G λF=>ES F T;have XR:d3 l.prog w K mg Z 6 "double_by" ["rows","numbers"] (og<|jE K):=O4.hx X G λF=>m3 F T b (XJ.mono<|(by decide)) (N.mono<|(by decide));have O:aQ l.prog w K mg Z 7 "_law_no_walker" ["_law_rows","_law_numbers_here"] Oc:=O2.hs X G λF=>G5 F T b (XR.mono<|(by decide));exact ov F T (XN.mono<|(by decide)) (r.mono<|(by decide)) (C.mono<|(by decide)) (D.mono<|(by decide)) (XQ.mono<|(by decide)) (I.mono<|(by decide)) (J.mono<|(by decide)) (XI.mono<|(by decide)) (H.mono<|(by decide)) (E.mono<|(by decide)) (L.mono<|(by decide)) (M.mono<|(by decide)) (O.mono<|(by decide)) (XR.mono<|(by decide))<|q.mono<|(by decide)
variable{K:Params->aa}{YP:World->Heap->Prop}{XP:Ò->Heap->Prop}{loose:Ñ}
def walk{q:Program}{d:DefRec}(e:l.most=some 63)(i:d.params.defaults=[])
  (j:∀(w:World)(h:Heap),YP w h->(K w.params).In h)
  (F : ∀(w : World)(mg : Str → Option Value)(b : Addr)(h : Heap), (K w.params).In h → h.Ns mainGlobals mg → mg d.name = some (.ref b) →
   ∃ c:FuncData,(∀(s:Shared) (u:Value),BindsTo s c ⟨[u],[]⟩ [("_law_script",u)])/\∀Z:Heap,(K w.params).In Z->Z.Ns mainGlobals mg->aD l.prog w (K w.params) mg Z bz 8 b c ["_law_script"] (C9<|K w.params)):
  PySem.W.WalkO q loose XP YP l.row.toRowW d [] (λf vs=>PySem.call f vs):=
 L2.mJ (n:=63) (k:=8) (x:= "_law_script") (CX:=λ_=>bz) (sp:=λw=>C9<|K w.params) e (by decide) i ⟨rfl,(by decide),(by decide)⟩ j F (λ_ _ a m o _ p=>⟨a,m,rfl,p,o,λ_=>rfl⟩) λ_ _ _ _ _ z=>z
end Q1
-- see NOTE.md
namespace PySem.W.Fast
def tw5198852553965460092:=Î
def tw5413368098861726706:=Î
def tw9404029209458989457:=Î
def tw7607012041587071243:=Î
def tw10943256809225269558:=Î
def tw4989411518479984771:=Î
def tw17264839893696505500:=Î
def tw398339335004258000:=Î
def tw14581602829032078406:=Î
def tw2661148619901098873:=Î
def tw17952613060389540635:=Î
def tw8673068921468203570:=Î
def tw17293047543064944020:=Î
def tw9918265047761791361:=Î
def tw9814432611489961307:=Î
def tw10266196955641720888:=Î
def tw3734415714347311386:=Î
def tw11290761788607028615:=Î
def tw16993661786275044819:=Î
def tw12502169983049884576:=Î
def tw12029268362168908255:=Î
def tw386842681635243525:=Î
def tw15635955903566236729:=Î
def tw3225253394809909616:=Î
def tw17833188782597534344:=Î
def tw14154338876017606130:=Î
def tw5603726882113586733:=Î
def tw12499534141834606470:=Î
def tw12543340453424795815:=Î
def tw16777514211333155659:=Î
def tw8063171420835204932:=Î
def tw4365426651820674297:=Î
def tw14396320144307746328:=Î
def tw2556121678054423675:=Î
def tw14928133290269971863:=Î
def tw3901583856272914625:=Î
def tw5464841220611649972:=Î
def tw15129452086219030103:=Î
def tw6376531773606505141:=Î
def tw18096165584239822546:=Î
def tw17267272893114557542:=Î
def tw15459962863965500408:=Î
def tw15469093110642933936:=Î
def tw2979987821769851522:=Î
def tw6077590286365893594:=Î
def tw8393038931872199990:=Î
def tw12684964471910030185:=Î
def tw16167963225084133726:=Î
def tw12347999813387648981:=Î
def tw7324053636509422123:=Î
def tw4407823507720323660:=Î
def tw8529047915006736361:=Î
def tw18281664982387673842:=Î
def tw4281986290026530513:=Î
def tw4317527362669418404:=Î
def tw3944503854513436786:=Î
def tw10071628414170946047:=Î
def tw5242182173058003926:=Î
def tw639660650679107393:=Î
def tw4729780270234700547:=Î
def tw12620078146115082420:=Î
def tw6073833766826523534:=Î
def tw12765813426512373967:=Î
def tw16206735808638016371:=Î
def tw1658113211321242172:=Î
def tw16595400984003045267:=Î
def tw3665264015832702399:=Î
def tw1083625061010906889:=Î
def tw8132935064421566557:=Î
def tw4528218937809811193:=Î
def tw13604262065275407540:=Î
def tw3459189831520634998:=Î
def tw2547840526564614006:=Î
def tw6819658571543918650:=Î
def tw10302094927665973904:=Î
def tw516465716293821627:=Î
def tw2295005697369459864:=Î
def tw8502523904736148772:=Î
def tw9225316039620657062:=Î
def tw15334119044104771826:=Î
def tw17164605986487974450:=Î
def tw7827110641631500999:=Î
def tw15316389378943594799:=Î
def tw14510784459359490115:=Î
def tw11137264276876994072:=Î
def tw16527667481467661949:=Î
def tw8595610841635017422:=Î
def tw16434307909947359071:=Î
def tw5692954522154368561:=Î
def tw15767154928919687737:=Î
def tw3423555206475257503:=Î
def tw15137325960660553171:=Î
def tw2686610808474256023:=Î
def tw5906677765857113050:=Î
def tw18014856383831815326:=Î
def tw11186367038267075698:=Î
def tw10850091462277105203:=Î
def tw14910632407823186892:=Î
def tw5053650294758848932:=Î
def tw9269077647872686515:=Î
def tw685556534156028710:=Î
def tw7251952500548217224:=Î
def tw8087856056255767387:=Î
def tw8248111037691431063:=Î
def tw2407011931774729561:=Î
def tw14018910310404245867:=Î
def tw9102020506852775755:=Î
def tw5793332091930822525:=Î
def tw9645095951101569537:=Î
def tw8705525822991879587:=Î
def tw4065433093832493113:=Î
def tw14428341744694255912:=Î
def tw11354848308330525279:=Î
def tw10903000648206372219:=Î
def tw477869634285925778:=Î
def tw3571468278829764165:=Î
def tw1589972041402189789:=Î
def tw5307360686942423928:=Î
def tw2447885457421582234:=Î
def tw7455653458042316260:=Î
def tw3902861176829204715:=Î
def tw1677850991850974594:=Î
def tw10783050833635846936:=Î
def tw17344284371821557643:=Î
def tw10443889835759727819:=Î
def tw17011766224620693022:=Î
def tw8926123490904052938:=Î
def tw8441060508004617031:=Î
def tw15521942276062455813:=Î
def tw17038525376472846346:=Î
def tw6689022669151012824:=Î
def tw433956908725935656:=Î
def tw16642887925477903304:=Î
def tw16348865871585440470:=Î
def tw3632116105891941279:=Î
def tw4724330165148566064:=Î
def tw2498093504080841084:=Î
def tw13212029231753721766:=Î
def tw4569949814118936276:=Î
def tw10764948385360886685:=Î
def tw17630846263844803177:=Î
def tw10549888411236519419:=Î
def tw5627292528690146084:=Î
def tw2408805740249637094:=Î
def tw3193534722704862699:=Î
def tw747837830791237362:=Î
def tw12884740388692234205:=Î
def tw6679345199856249086:=Î
def tw12082630894633964831:=Î
def tw18179480961208543716:=Î
def tw1221320864273435988:=Î
def tw2681879673606497023:=Î
def tw7145371384538367951:=Î
def tw14000406132119919285:=Î
def tw17148681485846666033:=Î
def tw1449202887672915140:=Î
def tw16365805150547483264:=Î
def tw2270261416425649109:=Î
def tw15985065028980432836:=Î
def tw17103602438684569181:=Î
def tw15843276996713860285:=Î
def tw17396883767838891076:=Î
def tw7970217389443555036:=Î
def tw2962696582641558045:=Î
def tw1297353800532837708:=Î
def tw9829648439486660398:=Î
def tw12608984051264422048:=Î
def tw14185135188457358862:=Î
def tw4056487894830050709:=Î
def tw1295128997061037907:=Î
def tw3481161014085688700:=Î
def tw10251325642940213831:=Î
def tw8601524470382490703:=Î
def tw5543202414129809607:=Î
def tw14285310943420496212:=Î
end PySem.W.Fast
open PySem PySem.W PyProof.Rows
set_option maxRecDepth 100000 in
set_option maxHeartbeats 0 in
theorem PySem.Challenge.cw_threewebs_k41_doubles_by_walkers_holds : PySem.Challenge.rw_threewebs_k41_doubles_by_walkers.Holds := by
 w_on;o_law;k_head;(case hw=>w_witness2)
 k_fill
 refine Q1.walk (l:=PySem.Challenge.rw_threewebs_k41_doubles_by_walkers) rfl rfl (λw h ý=>PySem.W.kIn_of ý) ?F
 case F=>
  intro w mg fa h KX G uZ;refine' Q1.AC KX G uZ ?h1 ?h2 ?h3 ?h4 ?h5 ?h6 ?h7 ?h8 ?h9 ?Ov ?DJ ?Ow ?CM ?Ox ?Oy ?Oz ?OA ?OB ?OC ?OG ?OH ?OI ?x6 ?OL ?OM ?OO ?OQ ?OS ?OT ?OU ?OV ?OW ?OX ?OY ?OZ ?O0 ?O1 ?O2 ?O3 ?O4 ?h0 ?qc ?zz
  case h1|h2|h3|h4|h5|h6|h7|h8|h9|Ov|DJ|Ow|CM|Ox|Oy|Oz|OA|OB|OC|OG|OH|OI|x6|OL|OM|OO|OQ|OS|OT|OU|OV|OW|OX|OY|OZ|O0|O1|O2|O3|O4|h0=>refine' L2.vA ?a ?l ?c ?k;(case a=>k_is);(case l=>k_is);(case c=>k_is);(case k=>k_is)
  case qc=>kernel_rfl
  case zz=>
   refine' List.forall_mem_cons.mpr ⟨?_,?_⟩;k_is
   iterate 16 (refine' List.forall_mem_cons.mpr ⟨?_,?_⟩;k_is)
   exact λx hx=>nomatch hx
end

import PyProof.Rows.All
import Wide.All
import OpenK.AllK
import Wide.FinOn
import Lean
import PyProof.EqAt
import PyProof.EqKinds
import PyProof.TupleCall
import KE.KDictLaws
import KE.KDictList
import KE.KDictSum
import KE.KIsAll
import KE.KSortTup
import KE.KUnpack
import KE.KUnpackStar
import PyProof.AttrMissSeq
import PyProof.CallStr
import PyProof.Conv_int_bool
import PyProof.DictItems
import PyProof.DictIter
import PyProof.DictList
import PyProof.EnumFor
import PyProof.EnumMake
import PyProof.EnumStmt
import PyProof.ExcArgsOwn
import PyProof.ExcAttrAll.ValueError
import PyProof.ExcBaseAll.ValueError
import PyProof.FitsInt
import PyProof.NeKinds
import PyProof.NsDelKeeps
import PyProof.Rows.CatchOwn
import PyProof.Rows.CountFlat
import PyProof.Rows.EnumRows
import PyProof.Rows.FStr
import PyProof.Rows.SeqMore
import PyProof.Rows.SortRev
import PyProof.Rows.StrSplitJoin
import PyProof.Rows.StrWeight2
import PyProof.Rows.TupDisplay
import PyProof.RulesTry
import PyProof.SetNew
import PyProof.SetRoads
import PyProof.StationsW
import PyProof.TupleKey
import PyProof.WalkInts
import PyProof.ZipIter
import PySem.Challenge.RW_threewebs_k51_kinds_shown
abbrev Ï:=PySem.Value->PySem.Shared->Prop
abbrev Ð:=List (PySem.Addr×PySem.Addr)
abbrev Ñ:=List (PySem.Addr×PySem.Obj)
abbrev Ò:=List PySem.Str
abbrev Ó:=PySem.Str->Option PySem.Value
abbrev Ô:=List PySem.Value
abbrev Õ:=List PySem.Expr
abbrev Ö:=List PySem.Stmt
abbrev BJ:=@PySem.wpAny_bind
abbrev BK:=@PySem.wpAny_pure
abbrev BL:=@if_neg
abbrev BP:=@if_pos
abbrev BR:=@decide_eq_false
abbrev BW:=@decide_eq_true
abbrev BX:=@of_decide_eq_true
abbrev BZ:=@congrArg
abbrev CG:=@Ne.symm
abbrev CJ:=@PySem.wpAny_holding
abbrev CK:=@decide_eq_true_iff
abbrev CN:=@PySem.wpAny_setState_of
abbrev CP:=@PySem.wpAny_mono
abbrev CQ:=@PySem.W.mg_none_of
abbrev CT:=@PySem.Heap.SameBut.update
abbrev CV:=@if_false
abbrev CW:=@PySem.mem_of_lookup
abbrev CZ:=@PySem.wpAny_newObj_type
abbrev DG:=@PySem.wpAny_call_entry
abbrev DK:=@Classical.byContradiction
abbrev DN:=@if_true
abbrev DP:=@PySem.wpAny_setField
abbrev DQ:=@PyProof.Rows.boot_sorted
abbrev DR:=@PySem.boot_len
abbrev DW:=@decide_eq_true_eq
abbrev DX:=@PySem.W.kia_one
abbrev DY:=@PyProof.Rows.boot_isinstance
abbrev EY:=@PySem.sizeLine_eq
abbrev FJ:=@PySem.F.plainAttrs_list
abbrev FN:=@PySem.Around.under_plainId
abbrev FP:=@PySem.wpAny_truthy_bool
abbrev FQ:=@PySem.codeAny_builtin
abbrev FT:=@PyProof.Rows.wpS_bind
abbrev FW:=@PySem.wpAny_standAt
abbrev FZ:=@bne_self_eq_false
abbrev GJ:=@PySem.wpAny_typeNameOfWhole_itemiter
abbrev GQ:=@PySem.wpAny_storeSet_of
abbrev GX:=@PySem.F.slot_dict_itemiterator_next
abbrev GZ:=@decide_eq_false_iff_not
abbrev HD:=@PySem.wpAny_rule
abbrev HJ:=@beq_iff_eq
abbrev HN:=@PyProof.Rows.F.plain_set_update_loop
abbrev HS:=@of_decide_eq_false
abbrev HW:=@PySem.wpAny_passesOwn
abbrev HX:=@Prod.ext
abbrev HY:=@or_false
abbrev IK:=@PySem.wpAny_typeNameOf_itemiter
abbrev IV:=@PySem.wpAny_of_eq
abbrev IW:=@PySem.wpAny_field
abbrev JB:=@PySem.codeAny_mono
abbrev JC:=@PySem.wpAny_callSpecial?_slot
abbrev JD:=@PySem.plainId_quiet
abbrev JF:=@PySem.wpAny_attempt
abbrev JG:=@PySem.wpAny_Call_Name_kw
abbrev JH:=@PySem.wpAny_setField_rec
abbrev JK:=@PySem.W.cellsFrom_some
abbrev JL:=@PySem.Calls.callWith_builtin
abbrev JM:=@PyProof.Rows.wpS_pure
abbrev JN:=@PySem.Obj.isFreed_of_fields
abbrev JQ:=@PyProof.Rows.callWith_type1
abbrev JR:=@PySem.wpAny_askSetting
abbrev JT:=@PySem.wpAny_isInstance
abbrev JV:=@PySem.wpAny_newList
abbrev JW:=@PySem.wpAny_setEntries_of
abbrev JX:=@PySem.codeAny_of_tree
abbrev JZ:=@PySem.W.KasT.kasWp_bind
abbrev KC:=@PySem.tupleKind_room_in1
abbrev KD:=@PySem.wpAny_comprehension_free
abbrev KH:=@PySem.wpAny_typeOf
abbrev KJ:=@PyProof.Rows.F.entry_set_update_loop
abbrev KN:=@PySem.Obj.data_mapFields
abbrev KQ:=@PySem.wpAny_setEpoch_of
abbrev KR:=@PySem.wpAny_pyIter_slot
abbrev KY:=@Bool.not_eq_true'
abbrev KZ:=@PySem.wpAny_isOneOf_itemiter
abbrev LC:=@List.eraseIdx_append_of_lt_length
abbrev LK:=@PyProof.Rows.boot_list
abbrev LQ:=@PySem.W.mg_of
abbrev LR:=@PyProof.Rows.listUpdate_at
abbrev MF:=@beq_self_eq_true
abbrev MJ:=@List.Perm.append_left
abbrev MK:=@PySem.builtinLookup_eq_fast
abbrev MN:=@PyProof.Rows.boot_set
abbrev MP:=@PyProof.Rows.boot_str
abbrev NK:=@List.eraseIdxIfInBounds_toArray
abbrev NQ:=@PySem.F.args_dict_itemiterator_next_1
abbrev NZ:=@PySem.Calls.evalArgs_plain
abbrev OD:=@PySem.call_meets
abbrev OJ:=@PySem.PassesOwn.never
abbrev PB:=@PySem.strKind_is
abbrev PJ:=@PySem.codeAny_call_builtin
abbrev PK:=@PyProof.Rows.listItems_at
abbrev PL:=@PyProof.Rows.wpS_forRange
abbrev PN:=@PySem.F.entry_dict_itemiterator_next
abbrev PX:=@PySem.F.slot_dict_itemiterator_iter
abbrev QB:=@PySem.entryFor_alias
abbrev QC:=@PySem.wpAny_fieldsOf
abbrev QD:=@PySem.wpAny_newTuple
abbrev QF:=@PySem.wpAny_alloc
abbrev QG:=@PyProof.Rows.seqEpoch_at
abbrev QJ:=@List.lookup_append
abbrev QK:=@Nat.lt_of_le_of_lt
abbrev QL:=@PySem.MeetsSeq2.wpAny_forIn_array
abbrev QM:=@List.getElem?_drop
abbrev QS:=@List.perm_ext_iff_of_nodup
abbrev QT:=@Nat.mod_two_eq_zero_or_one
abbrev QV:=@PySem.wpAny_pyIter_list
abbrev QW:=@Option.isSome_map
abbrev QX:=@List.Pairwise.map
abbrev QZ:=@PySem.wpAny_dictEntries
abbrev RB:=@Nat.lt_trichotomy
abbrev RD:=@PySem.wpAny_call
abbrev RG:=@List.drop_eq_getElem_cons
abbrev RJ:=@PySem.F.slot_set_contains
abbrev RK:=@Array.getElem?_replicate
abbrev RL:=@List.nodup_range
abbrev RM:=@List.ext_getElem
abbrev RN:=@PySem.F.slot_list_insert
abbrev RP:=@PySem.F.type_list_insert
abbrev RQ:=@List.eraseIdx_cons_succ
abbrev RT:=@List.getElem?_cons_zero
abbrev RV:=@List.filter_cons_of_pos
abbrev RW:=@PySem.wpAny_execs_nil
abbrev RX:=@List.of_mem_zip
abbrev RZ:=@PySem.wpAny_specialOf
abbrev SJ:=@PySem.typeLookup_type
abbrev SM:=@PySem.wpAny_dictEpoch
abbrev SN:=@List.length_pos_of_mem
abbrev SQ:=@List.drop_of_length_le
abbrev SX:=@PyProof.Rows.boot_dict
abbrev TF:=@List.Perm.append_right
abbrev TJ:=@Bool.false_and
abbrev TQ:=@Bool.not_false
abbrev TV:=@List.getElem?_toArray
abbrev TX:=@PyProof.Rows.boot_int
abbrev TY:=@PySem.F.plain_set_new
abbrev UG:=@PyProof.Rows.boot_max
abbrev UJ:=@PySem.F.slot_list_pop
abbrev UL:=@PySem.F.type_list_pop
abbrev UW:=@Nat.add_zero
abbrev VB:=@Nat.sub_zero
abbrev VD:=@Nat.sub_self
def Z0:0<=PySem.sizeLine:=by decide
def Z2:2<=PySem.sizeLine:=by decide
def Z1:1<=PySem.sizeLine:=by decide
def Z3:3<=PySem.sizeLine:=by decide
set_option Elab.async false
set_option linter.all false
set_option maxRecDepth 100000
set_option maxHeartbeats 4000000
abbrev Aa:=@List.length_map
abbrev Ab:=@List.getElem?_eq_getElem
abbrev Ac:=@List.getElem?_eq_some_iff
abbrev Ad:=@List.mem_singleton
abbrev Ae:=@List.mem_cons_self
abbrev Af:=@List.length_append
abbrev Ag:=@PySem.Heap.get?_push_of_some
abbrev Ah:=@List.mem_cons_of_mem
abbrev Ai:=@List.getElem?_map
abbrev Aj:=@List.mem_cons
abbrev Ak:=@List.map_append
abbrev Al:=@List.mem_map
abbrev Am:=@List.mem_append
abbrev An:=@Nat.le_refl
abbrev Ao:=@List.map_congr_left
abbrev Ap:=@List.length_cons
abbrev Aq:=@PySem.Heap.lt_size
abbrev Ar:=@List.append_assoc
abbrev As:=@List.getElem?_append_left
abbrev At:=@PySem.Heap.get?_push_size
abbrev Au:=@List.mem_of_getElem?
abbrev Av:=@Bool.false_ne_true
abbrev Aw:=@List.size_toArray
abbrev Ax:=@List.mem_append_right
abbrev Ay:=@Option.map_eq_some_iff
abbrev Az:=@List.getElem?_append_right
abbrev Ba:=@List.mem_append_left
abbrev Bb:=@Bool.false_eq_true
abbrev Bc:=@List.nodup_cons
abbrev Bd:=@Int.toNat_natCast
abbrev Be:=@Nat.lt_of_lt_of_le
abbrev Bf:=@List.getElem?_eq_none
abbrev Bg:=@List.append_nil
abbrev Bh:=@List.mem_filter
abbrev Bi:=@List.map_cons
abbrev Bj:=@List.length_eq_zero_iff
abbrev Bk:=@List.length_take
abbrev Bm:=@Nat.ne_of_lt
abbrev Bn:=@Bool.and_eq_true
abbrev Bo:=@List.pairwise_iff_getElem
abbrev Bp:=@Int.emod_nonneg
abbrev Bq:=@Array.length_toList
abbrev Br:=@List.getElem?_of_mem
abbrev Bs:=@Array.getElem?_toList
abbrev Bt:=@List.mem_range
abbrev Bu:=@List.getElem_mem
abbrev Bv:=@Int.emod_lt_of_pos
abbrev Bw:=@PySem.Heap.get?_update_other
abbrev Bx:=@List.take_length
abbrev By:=@Nat.le_trans
abbrev Bz:=@Nat.zero_le
abbrev Cb:=@Nat.lt_succ_of_lt
abbrev Cc:=@Nat.mod_eq_of_lt
abbrev Cd:=@List.map_map
abbrev Ce:=@List.contains_iff_mem
abbrev Cf:=@List.flatMap_cons
abbrev Cg:=@List.nodup_iff_pairwise_ne
abbrev Ch:=@List.nodup_nil
abbrev Ci:=@List.perm_append_comm
abbrev Cj:=@List.nodup_append
abbrev Ck:=@List.take_add_one
abbrev Cm:=@List.not_mem_nil
abbrev Cn:=@Bool.eq_iff_iff
abbrev Co:=@Nat.le_of_lt
abbrev Cp:=@Nat.ne_of_gt
abbrev Cq:=@List.take_of_length_le
abbrev Cr:=@List.filter_append
abbrev Cs:=@List.pairwise_cons
abbrev Ct:=@List.length_singleton
abbrev Cu:=@PySem.Heap.get?_update_self
abbrev Cv:=@Nat.lt_irrefl
abbrev Cw:=@List.length_eraseIdx
abbrev Cy:=@List.mem_iff_getElem
abbrev Cz:=@PySem.Heap.size_push
abbrev Da:=@List.count_cons
abbrev Db:=@List.filter_cons
abbrev Dc:=@List.take_append_drop
abbrev Dd:=@List.flatten_cons
abbrev De:=@List.count_pos_iff
abbrev Dg:=@List.foldl_cons
abbrev Dh:=@List.length_drop
abbrev Di:=@Nat.lt_or_ge
abbrev Dj:=@Array.getElem?_eq_getElem
abbrev Dk:=@List.length_pos_iff
abbrev Dl:=@List.length_filter_le
abbrev Dm:=@List.getElem?_take_of_lt
abbrev Do:=@List.range_succ
abbrev Dp:=@List.lookup_cons
abbrev Dq:=@List.getElem_map
abbrev Dr:=@Array.getD_eq_getD_getElem?
abbrev Ds:=@List.ext_getElem?
abbrev Du:=@Int.zero_add
abbrev Dv:=@List.flatMap_append
abbrev Dw:=@List.all_eq_true
abbrev Dx:=@Bool.not_true
abbrev Dy:=@Bool.eq_false_iff
abbrev Dz:=@List.pairwise_map
abbrev Eb:=@Nat.not_lt_zero
abbrev Ec:=@List.filterMap_cons
abbrev Ed:=@List.getElem?_range
abbrev Ee:=@Array.getElem?_eq_none
abbrev Ef:=@Nat.mod_self
abbrev Eh:=@Array.getElem?_eq_some_iff
abbrev Ej:=@List.length_nil
abbrev Ek:=@Nat.le_succ
abbrev El:=@Nat.le_of_succ_le
abbrev Em:=@List.length_range
abbrev Ep:=@List.count_append
abbrev Er:=@Option.isSome_iff_exists
abbrev Es:=@List.mem_of_mem_eraseIdx
abbrev Eu:=@List.getElem?_replicate
abbrev Ex:=@List.count_eq_zero_of_not_mem
abbrev Ey:=@Nat.zero_add
abbrev Ez:=@List.getElem_range
abbrev Fa:=@List.append_eq_nil_iff
abbrev Fb:=@List.find?_cons
abbrev Fc:=@List.nil_append
abbrev Fd:=@List.length_replicate
abbrev Fe:=@List.mem_zipIdx_iff_le_and_getElem?_sub
abbrev Ff:=@Array.getElem?_setIfInBounds_self_of_lt
abbrev Fg:=@List.mem_erase_of_ne
abbrev Fh:=@Nat.one_pos
abbrev Fi:=@List.getElem?_modify
abbrev Fj:=@Bool.false_xor
abbrev Fk:=@Bool.xor_false
abbrev Fm:=@List.cons_append
abbrev Fn:=@List.mem_flatten
abbrev Fo:=@List.exists_mem_of_ne_nil
abbrev Fp:=@List.flatten_append
abbrev Fq:=@List.any_cons
abbrev Fr:=@List.length_erase_of_mem
abbrev Fs:=@Bool.and_comm
abbrev Ft:=@List.mem_filterMap
abbrev Fu:=@List.find?_eq_none
abbrev Fv:=@List.append_of_mem
abbrev Fw:=@Nat.lt_of_le_of_ne
abbrev Fx:=@List.getElem?_cons_succ
abbrev Fy:=@List.pairwise_singleton
abbrev Fz:=@List.getElem?_set_self
abbrev Ga:=@Nat.succ_pos
abbrev Gb:=@List.getElem?_eraseIdx
abbrev Gc:=@List.lt_irrefl
abbrev Gd:=@List.filter_eq_nil_iff
abbrev Ge:=@Nat.zero_lt_of_lt
abbrev Gf:=@List.getElem_inj
abbrev Gg:=@Nat.lt_succ_self
abbrev Gh:=@List.isEmpty_nil
abbrev Gi:=@List.mem_flatMap
abbrev Gj:=@List.lt_trans
abbrev Gk:=@List.sum_cons
abbrev Gm:=@List.getElem?_set_ne
abbrev Gn:=@List.le_iff_lt_or_eq
abbrev Go:=@List.nodup_iff_count
abbrev Gp:=@Option.map_some
abbrev Gq:=@List.forIn_cons
abbrev Gr:=@List.find?_some
abbrev Gs:=@List.filter_sublist
abbrev Gu:=@List.filter_eq_self
abbrev Gv:=@Bool.and_false
abbrev Gw:=@Nat.mod_lt
abbrev Gx:=@List.all_cons
abbrev Gy:=@Bool.true_and
namespace L2
open PySem PySem.Spec PyProof.Rows
abbrev Key:=Sum Int Str
def ra:Key->Value->Bool
 | .inl k,v=>Value.isInt k v
 | .inr x,v=>Value.isStrOf x v
def z6(w:World):Key->Int
 | .inl k=>hashInt k
 | .inr x=>hashStr w x
theorem kL:∀{k:Key} {v:Value},ra k v=true->(∃ i t,k=Sum.inl i/\v=Value.int i t)\/(∃ x t,k=Sum.inr x/\v=Value.str x t)
 | .inl i,v,h=>by
  obtain⟨t,e⟩:=Value.isInt_shape (k:=i) (v:=v) h;exact .inl ⟨i,t,rfl,e⟩
 | .inr x,v,h=>by
  obtain⟨t,e⟩:=Value.isStrOf_shape (x:=x) (v:=v) h;exact .inr ⟨x,t,rfl,e⟩
def UU(i:Int)(t:Tok):ra (.inl i) (.int i t)=true:=by simp[ra,Value.isInt]
def UX(x:Str)(t:Tok):ra (.inr x) (.str x t)=true:=by simp[ra,Value.isStrOf]
def UY(a b:Int):decide ((Sum.inl a:Key)=Sum.inl b)=(a == b):=by
 by_cases e:a=b
 ·subst e;simp
 ·have h:¬(Sum.inl a:Key)=Sum.inl b:=λq=>e<|Sum.inl.inj q;rw[BR h];exact(beq_eq_false_iff_ne.mpr e).symm
def UZ(a b:Str):decide ((Sum.inr a:Key)=Sum.inr b)=decide (a=b):=by
 by_cases e:a=b
 ·subst e;simp
 ·have h:¬(Sum.inr a:Key)=Sum.inr b:=λq=>e<|Sum.inr.inj q;rw[BR h,BR e]
def U0(a:Int)(b:Str):decide ((Sum.inl a:Key)=Sum.inr b)=false:=BR λq=>nomatch q
def U1(a:Str)(b:Int):decide ((Sum.inr a:Key)=Sum.inl b)=false:=BR λq=>nomatch q
def dj(prog:Program)(w:World):PySem.KeyKind prog w Key where
 is:=ra
 hash:=z6 w
 inj:=λv a b ha hb=>by
  rcases kL ha with ⟨i,t,rfl,rfl⟩ | ⟨x,t,rfl,rfl⟩
  ·rcases kL hb with ⟨j,u,rfl,e⟩ | ⟨y,u,rfl,e⟩
   ·injection e with e1 _;rw[e1]
   ·exact nomatch e
  ·rcases kL hb with ⟨j,u,rfl,e⟩ | ⟨y,u,rfl,e⟩
   ·exact nomatch e
   ·injection e with e1 _;rw[e1]
 byValue:=λk v h=>by
  rcases kL h with ⟨i,t,rfl,rfl⟩ | ⟨x,t,rfl,rfl⟩ <;> rfl
 pyHash:=λhv h=>by
  rcases kL hv with ⟨i,t,rfl,rfl⟩ | ⟨x,t,rfl,rfl⟩
  ·exact wpAny_pyHash_int h
  ·exact wpAny_pyHash_str h
 eqBool:=λhu hv h=>by
  rcases kL hu with ⟨i,t,rfl,rfl⟩ | ⟨x,t,rfl,rfl⟩
  ·rcases kL hv with ⟨j,u,rfl,rfl⟩ | ⟨y,u,rfl,rfl⟩
   ·rw[UY]at h;exact wpAny_eqBool_int h
   ·rw[U0]at h;exact SeqAt.EqAt.int_str i t y u _ _ _ _ h
  ·rcases kL hv with ⟨j,u,rfl,rfl⟩ | ⟨y,u,rfl,rfl⟩
   ·rw[U1]at h;exact SeqAt.EqAt.str_int x t j u _ _ _ _ h
   ·rw[UZ]at h;exact wpAny_eqBool_str h
 «strs»:=λk x t v h=>by
  rcases kL h with ⟨i,u,rfl,e⟩ | ⟨y,u,rfl,e⟩
  ·exact nomatch e
  ·injection e with e1 _
   subst e1;cases v <;> rfl
def U2(prog:Program)(w:World)(i:Int)(t:Tok):(dj prog w).is (.inl i) (.int i t)=true:=UU i t
def U3(prog:Program)(w:World)(x:Str)(t:Tok):(dj prog w).is (.inr x) (.str x t)=true:=UX x t
inductive V where
 | non | bl (b:Bool) | int (i:Int) | str (x:Str) | iT (b:Array UInt8) | rd (b:UInt64) | ref (a:Addr) | ty (n:String)
 deriving DecidableEq
def RelV:V->Value->Prop
 | .non,u=>u=Value.none
 | .bl b,u=>u=Value.bool b
 | .int i,u=>∃ t,u=Value.int i t
 | .str x,u=>∃ t,u=Value.str x t
 | .iT b,u=>∃ t,u=Value.bytes b t
 | .rd b,u=>∃ t,u=Value.float b t
 | .ref a,u=>u=Value.ref a
 | .ty n,u=>u=Value.type n
abbrev ay:List V->Ô->Prop:=Paired RelV
def ay.length{xs:List V}{us:Ô}(r:ay xs us):xs.length=us.length:=Paired.length r
theorem ay.get:∀{xs:List V} {us:Ô} {i:Nat} {x:V},ay xs us->xs[i]?=some x->∃ u,us[i]?=some u/\RelV x u
 | _,_,_,_,.nil,e=>by simp at e
 | _,_,0,_,.cons r _,e=>by simp at e;subst e;exact⟨_,rfl,r⟩
 | _,_,i+1,x,.cons _ t,e=>by
  obtain⟨u,h1,h2⟩:=ay.get (i:=i) (x:=x) t (by simpa using e);exact⟨u,by simpa using h1,h2⟩
theorem ay.set{x:V}{u:Value}(r:RelV x u):∀{xs:List V} {us:Ô} (i:Nat),ay xs us->ay (xs.set i x) (us.set i u)
 | _,_,_,.nil=> .nil
 | _,_,0,.cons _ t=> .cons r t
 | _,_,i+1,.cons q t=> .cons q<|ay.set r i t
theorem ay.append:∀{xs ys:List V} {us ws:Ô},ay xs us->ay ys ws->ay (xs++ys) (us++ws)
 | _,_,_,_,.nil,s=>s
 | _,_,_,_,.cons r t,s=> .cons r<|ay.append t s
theorem ay.take:∀{xs:List V} {us:Ô} (n:Nat),ay xs us->ay (xs.take n) (us.take n)
 | _,_,0,_=> .nil
 | _,_,_+1,.nil=> .nil
 | _,_,n+1,.cons r t=> .cons r<|ay.take n t
theorem ay.drop:∀{xs:List V} {us:Ô} (n:Nat),ay xs us->ay (xs.drop n) (us.drop n)
 | _,_,0,r=>r
 | _,_,_+1,.nil=> .nil
 | _,_,n+1,.cons _ t=>ay.drop n t
def dH:Option V->Option Value->Prop
 | some v,some u=>RelV v u
 | none,none=>True
 | _,_=>False
def KV{κ:Type}:List (κ×V)->List (κ×Value)->Prop:=Paired λ(p:κ×V) (q:κ×Value)=>p.1=q.1/\RelV p.2 q.2
def kV:Key->V
 | .inl i=> .int i
 | .inr x=> .str x
inductive HO where
 | lst (xs:List V)
 | tup (xs:List V)
 | dK (kvs:List<|Key×V) | dT (kvs:List<|List Key×V)
 | set (S:Int->Bool) (n:Nat)
 | ins (C dx:Addr) (fs:List<|Str×V)
 | own (x:Addr)
 | xd (fs:List<|Str×V)
 | met (f x:Addr)
 | xr (lo hi:Int)
 | bI (o:Obj) (u:HO)
 | nA (ps:Array Value)
 | ext (φ:Heap->Prop)
abbrev Hp:=Addr->Option HO
def upd(H:Hp)(a:Addr)(o:HO):Hp:=λb=>if b=a then some o else H b
def aA{H:Hp}{a:Addr}{o:HO}:upd H a o a=some o:=by unfold upd;rw[BP rfl]
def av{H:Hp}{a b:Addr}{o:HO}(h:b≠a):upd H a o b=H b:=by unfold upd;rw[BL h]
def tE{H:Hp}{a:Addr}{o u:HO}:upd (upd H a o) a u=upd H a u:=by
 funext b;unfold upd;split <;> rfl
def ce{H:Hp}{a b:Addr}{o u:HO}(h:H a=some o)(h':H b=some u)(d:o≠u):a≠b:=by
 intro e;subst e;rw[h]at h';exact d<|Option.some.inj h'
def bq{H:Hp}{a b:Addr}{o:HO}(h:H a=some o)(h':H b=none):a≠b:=by
 intro e;subst e;rw[h]at h';cases h'
section
variable(P:Program)(w:World)
def aB(H:Hp)(h:Heap)(a:Addr):HO->Prop
 | .lst xs=>xs.length<=sizeLine/\∃(its:Ô) (n:Nat),ay xs its/\h.get? a=some {cls:= .type "list",data:= .seq its.toArray n}
 | .tup xs=>xs.length<=sizeLine/\∃ its:Ô,ay xs its/\IsTup h a its.toArray
 | .dK kvs=>kvs.length<=sizeLine/\(a == sysModules)=false/\∃ vs,KV kvs vs/\h.DictOf (dj P w) a vs
 | .dT kvs=>kvs.length<=sizeLine/\(a == sysModules)=false/\∃ xs:List<|List Key×Addr×Value,
   Paired (λ(p:List Key×V) (q:List Key×Addr×Value)=>p.1=q.1/\H q.2.1=some (.tup<|p.1.map kV)/\RelV p.2 q.2.2) kvs xs /\
   ∃ o es ep,h.get? a=some o/\o.ExactDict/\o.data = .dict es ep/\es.toList=xs.map (entryOfKey<|tupleKind<|dj P w)/\(xs.map (·.1)).Nodup
 | .set S n=>h.SetOf (intKind P w) a S n
 | .ins C dx fs=>H dx=some (.own a)/\fs.length<=1000/\dx≠a/\h.get? a=some (PySem.W.instObj C dx) /\
   ∃ mA,h.Ns1 dx mA/\(∀ f,dH (fs.lookup f)<|mA f)/\PySem.Within mA (fs.map (·.1))
 | .own _=>∃ o,h.get? a=some o
 | .xd fs=>∃ mA,h.Ns1 a mA/\∀ f,dH (fs.lookup f)<|mA f
 | .xr lo hi=>∃ t u v,h.get? a=some {cls:= .type "range",data:= .fields #[.int lo t,.int hi u,.int 1 v]}
 | .bI o u=>h.get? a=some o/\aB H h a u
 | .nA ps=>h.get? a=some {cls:= .none,data:= .fields ps}
 | .met f x=>h.get? a=some (PySem.W.methodObj (.ref f)<|.ref x)
 | .ext φ=>φ h/\(∃ o,h.get? a=some o)/\∀ h1 h2:Heap,φ h1->(∀ o,h1.get? a=some o->h2.get? a=some o)->φ h2
def b7(H:Hp)(h:Heap):Prop:=∀ a o,H a=some o->aB P w H h a o
end
section
variable{P:Program}{w:World}{H H':Hp}{h h':Heap}{a:Addr}{o:HO}
theorem aB.lt(x:aB P w H h a o):a < h.objs.size:=by
 cases o with
 | lst xs=>obtain⟨_,_,_,_,e⟩:=x;exact Aq e
 | tup xs=>obtain⟨_,_,_,p⟩:=x;exact p.lt
 | dK kvs=>obtain⟨_,_,_,_,o,_,_,e,_⟩:=x;exact Aq e
 | dT kvs=>obtain⟨_,_,_,_,o,_,_,e,_⟩:=x;exact Aq e
 | set S n=>obtain⟨o,_,_,_,e,_⟩:=x;exact Aq e
 | ins C dx fs=>obtain⟨_,_,_,e,_⟩:=x;exact Aq e
 | own y=>obtain⟨_,e⟩:=x;exact Aq e
 | xd fs=>obtain⟨_,⟨_,_,_,e,_⟩,_⟩:=x;exact Aq e
 | xr lo hi=>obtain⟨_,_,_,e⟩:=x;exact Aq e
 | bI ob u=>obtain⟨e,_⟩:=x;exact Aq e
 | nA ps=>exact Aq (show h.get? a=some _ from x)
 | met f y=>exact Aq (show h.get? a=some _ from x)
 | ext φ=>obtain⟨_,⟨_,e⟩,_⟩:=x;exact Aq e
theorem Paired.oM{α β:Type}{F G:α->β->Prop}:∀{l₁:List α} {È:List β},Paired F l₁ È->(∀ a b,F a b->G a b)->Paired G l₁ È
 | _,_,.nil,_=> .nil
 | _,_,.cons r t,f=> .cons (f _ _ r)<|Paired.oM t f
theorem aB.fh(x:aB P w H h a o)(k:∀ b u,(b=a\/H b=some (.own a))->h.get? b=some u->h'.get? b=some u)
  (ho:∀ b,H b=some (.own a)->H' b=some (.own a)) (ht:∀ b xs,H b=some (.tup xs)->H' b=some (.tup xs)):aB P w H' h' a o:=by
 induction o with
 | lst xs=>obtain⟨z,its,n,r,e⟩:=x;exact⟨z,its,n,r,k _ _ (.inl rfl) e⟩
 | tup xs=>obtain⟨z,its,r,ob,e,c⟩:=x;exact⟨z,its,r,ob,k _ _ (.inl rfl) e,c⟩
 | dK kvs=>obtain⟨z,y,vs,r,ob,es,ep,e,c⟩:=x;exact⟨z,y,vs,r,ob,es,ep,k _ _ (.inl rfl) e,c⟩
 | dT kvs=>
  obtain⟨z,y,xs,r,ob,es,ep,e,c⟩:=x;exact⟨z,y,xs,Paired.oM r λp q z=>⟨z.1,ht _ _ z.2.1,z.2.2⟩,ob,es,ep,k _ _ (.inl rfl) e,c⟩
 | set S n=>obtain⟨ob,es,ep,t,e,c⟩:=x;exact⟨ob,es,ep,t,k _ _ (.inl rfl) e,c⟩
 | ins C dx fs=>
  obtain⟨d,z,ne,e,mA,⟨od,es,ep,e2,c⟩,r⟩:=x;exact⟨ho _ d,z,ne,k _ _ (.inl rfl) e,mA,⟨od,es,ep,k _ _ (.inr d) e2,c⟩,r⟩
 | own y=>obtain⟨ob,e⟩:=x;exact⟨ob,k _ _ (.inl rfl) e⟩
 | xd fs=>obtain⟨mA,⟨od,es,ep,e,c⟩,r⟩:=x;exact⟨mA,⟨od,es,ep,k _ _ (.inl rfl) e,c⟩,r⟩
 | xr lo hi=>obtain⟨t,u,v,e⟩:=x;exact⟨t,u,v,k _ _ (.inl rfl) e⟩
 | bI ob u ih=>obtain⟨e,q⟩:=x;exact⟨k _ _ (.inl rfl) e,ih q⟩
 | nA ps=>
  have e:h.get? a=some {cls:= .none,data:= .fields ps}:=x;show h'.get? a=some {cls:= .none,data:= .fields ps};exact k a _ (.inl rfl) e
 | met f y=>
  have e:h.get? a=some (PySem.W.methodObj (.ref f)<|.ref y):=x;show h'.get? a=some (PySem.W.methodObj (.ref f)<|.ref y);exact k a _ (.inl rfl) e
 | ext φ=>obtain⟨p,⟨o,e⟩,st⟩:=x;exact⟨st _ _ p λo q=>k _ _ (.inl rfl) q,⟨o,k _ _ (.inl rfl) e⟩,st⟩
def b7.lt(x:b7 P w H h)(e:H a=some o):a < h.objs.size:=(x a o e).lt
theorem b7.fresh(x:b7 P w H h)(e:h.objs.size<=a):H a=none:=by
 cases q:H a with
 | none=>rfl
 | some u=>exact absurd (Be (x.lt q) e)<|Cv _
def b7.kept(x:b7 P w H h)(k:∀ b u,h.get? b=some u->h'.get? b=some u):b7 P w H h':=λa o e=>
 (x a o e).fh (λb u _ q=>k b u q) (λ_ q=>q) λ_ _ q=>q
def b7.laid(x:b7 P w H h)(k:∀ b u,h.get? b=some u->h'.get? b=some u)(hp:h.objs.size<=a)(new:aB P w (upd H a o) h' a o):b7 P w (upd H a o) h':=λb u e=>by
 have hn:=x.fresh hp
 by_cases hb:b=a
 ·subst hb;rw[aA]at e;cases e;exact new
 ·rw[av hb]at e;exact(x b u e).fh (λc v _ q=>k c v q) (λc q=>by rw[av<|bq q hn];exact q) λc xs q=>by rw[av<|bq q hn];exact q
end
def Rd(H:Hp)(a:Addr)(u:HO):Prop:=H a=some u\/∃ o,H a=some (.bI o u)
def Rd.ok{P:Program}{w:World}{H:Hp}{h:Heap}{a:Addr}{u:HO}(r:Rd H a u)(x:b7 P w H h):aB P w H h a u:=by
 rcases r with r | ⟨o,r⟩
 ·exact x a u r
 ·obtain⟨_,q⟩:=x a _ r;exact q
def tF:Option HO->Prop
 | some (.lst _)=>True
 | some (.dK _)=>True
 | some (.dT _)=>True
 | some (.set _ _)=>True
 | some (.ins _ _ _)=>True
 | some (.ext _)=>True
 | _=>False
section
variable{P:Program}{w:World}{H:Hp}{h h':Heap}{x e:Addr}{o':HO}
def b7.write(ok:b7 P w H h)(mu:tF<|H x)(he:e=x\/H e=some (.own x))(k:∀ b u,b≠e->h.get? b=some u->h'.get? b=some u)(rg:∃ u,h'.get? e=some u)
  (new:aB P w (upd H x o') h' x o'):b7 P w (upd H x o') h':=λb u q=>by
 have tG:∀ c y,H c=some (.own y)->c≠x:=λc y r z=>by subst z;rw[r]at mu;exact mu
 have z7:∀ c xs,H c=some (.tup xs)->c≠x:=λc xs r z=>by subst z;rw[r]at mu;exact mu
 by_cases hb:b=x
 ·subst hb;rw[aA]at q;cases q;exact new
 ·rw[av hb]at q
  by_cases lF:b=e
  ·have q':H b=some (.own x):=by
    rcases he with z | z
    ·exact absurd (lF.trans z) hb
    ·rw[lF];exact z
   rw[q]at q';cases q';obtain⟨v,hv⟩:=rg;exact⟨v,by rw[lF];exact hv⟩
  ·refine(ok b u q).fh (λc v hc r=>k c v ?_ r) (λc r=>by rw[av<|tG c b r];exact r) λc xs r=>by rw[av<|z7 c xs r];exact r
   rcases hc with rfl | hc
   ·exact lF
   ·rintro rfl
    rcases he with z | z
    ·exact tG c b hc z
    ·rw[hc]at z;cases z;exact hb rfl
end
structure Un(fs ex:List Addr)(H H':Hp)(h h':Heap):Prop where
 keep:∀ b o,h.get? b=some o->H b=none->b∉fs->b∉ex->h'.get? b=some o
 slot:∀ b o,h.get? b=some o->H b=none->b∈fs->b∉ex->∃ sl,h'.get? b=some {o with slots:=sl}
 free:∀ b o,h.get? b=some o->H b=none->b∉ex->H' b=none
 there:∀ b o,h.get? b=some o->b∉ex->∃ o',h'.get? b=some o'
 dI:∀ b xs,H b=some (.tup xs)->H' b=some (.tup xs)
 dw:∀ b o u,H b=some (.bI o u)->H' b=some (.bI o u)
 dJ:∀ b ps,H b=some (.nA ps)->∃ more,H' b=some (.nA<|ps++more)
section
variable{fs U4 ex Mg:List Addr}{H H1 H2:Hp}{h h1 h2 h':Heap}{a x e:Addr}{o:HO}
def Un.any(u:Un fs ex H H1 h h1){b:Addr}{ob:Obj}(q:h.get? b=some ob)(n:H b=none)(hx:b∉ex):∃ sl,h1.get? b=some {ob with slots:=sl}:=by
 by_cases hb:b∈fs
 ·exact u.slot b ob q n hb hx
 ·exact⟨ob.slots,u.keep b ob q n hb hx⟩
def Un.kept(k:∀ b u,h.get? b=some u->h'.get? b=some u):Un fs ex H H h h':=
 ⟨λb ob q _ _ _=>k b ob q,λb ob q _ _ _=>⟨ob.slots,k b ob q⟩,λ_ _ _ n _=>n,λb ob q _=>⟨ob,k b ob q⟩,λ_ _ q=>q,λ_ _ _ q=>q,λ_ ps q=>⟨#[],by rw[q];simp⟩⟩
def Un.refl:Un fs ex H H h h:=Un.kept λ_ _ q=>q
def Un.laid(k:∀ b u,h.get? b=some u->h'.get? b=some u)(hp:h.objs.size<=a)(hn:H a=none):Un fs ex H (upd H a o) h h' where
 keep:=λb u q _ _ _=>k b u q
 slot:=λb u q _ _ _=>⟨u.slots,k b u q⟩
 free:=λb u q n _=>by rw[av<|Bm<|Be (Aq q) hp];exact n
 there:=λb u q _=>⟨u,k b u q⟩
 dI:=λb xs q=>by rw[av<|bq q hn];exact q
 dw:=λb u xs q=>by rw[av<|bq q hn];exact q
 dJ:=λb ps q=>⟨#[],by rw[av<|bq q hn,q];simp⟩
def Un.write(mu:tF<|H x)(he:e=x\/H e=some (.own x))(k:∀ b u,b≠e->h.get? b=some u->h'.get? b=some u)(rg:∃ u,h'.get? e=some u):Un fs ex H (upd H x o) h h':=by
 have hx:∀ b,H b=none->b≠x:=λb n z=>by subst z;rw[n]at mu;exact mu
 have hb:∀ b,H b=none->b≠e:=λb n z=>by
  subst z
  rcases he with r | r
  ·exact hx b n r
  ·rw[n]at r;cases r
 have hm:∀ b u,H b=some u->¬ tF (some u)->b≠x:=λb u q nm z=>by subst z;rw[q]at mu;exact nm mu
 refine⟨λb u q n _ _=>k b u (hb b n) q,λb u q n _ _=>⟨u.slots,k b u (hb b n) q⟩,λb u q n _=>by rw[av<|hx b n];exact n,λb u q _=>?_,
  λb xs q=>by rw[av<|hm b _ q λz=>z];exact q,λb u xs q=>by rw[av<|hm b _ q λz=>z];exact q,λb ps q=>⟨#[],by rw[av<|hm b _ q λz=>z,q];simp⟩⟩
 by_cases lF:b=e
 ·subst lF;exact rg
 ·exact⟨u,k b u lF q⟩
end
def xt(h:Heap)(H:Hp):List Addr:=(List.range h.objs.size).filter λa=>(H a).isSome
def fj(h:Heap)(H:Hp):Heap:=PySem.W.hideAll h<|xt h H
def U5(h:Heap)(H:Hp):(fj h H).objs.size=h.objs.size:=PySem.W.hideAll_size _ _
def U6{h:Heap}{H:Hp}{b:Addr}{o:Obj}(e:h.get? b=some o)(n:H b=none):(fj h H).get? b=some o:=
 PySem.W.hideAll_get _ e λhm=>by
  have q:(H b).isSome=true:=(Bh.mp hm).2;rw[n]at q;simp at q
theorem U7{h:Heap}{H:Hp}{b:Addr}{o:Obj}(e:(fj h H).get? b=some o):h.get? b=some o/\H b=none:=by
 have e':h.get? b=some o:=PySem.W.of_hideAll (xt h H) e;refine⟨e',?_⟩;cases q:H b with
 | none=>rfl
 | some x=>
  have hm:b∈xt h H:=Bh.mpr ⟨Bt.mpr<|Aq e',by simp[q]⟩;have z:(fj h H).get? b=none:=PySem.W.hideAll_none (xt h H) hm;rw[z]at e;cases e
structure Mod(K:PySem.W.Frag)(mg:Ó)(base:Heap):Prop where
 oO:K.In base
 glob:base.Ns mainGlobals mg
 blt:∃ mb,base.Ns builtinsNs mb/\∀ x:Str,x ≠ "__name__"->mb x=bootBuiltins x
 nolimit:base.NoLimit
structure Cx where
 prog:Program
 w:World
 K:PySem.W.Frag
 mg:Ó
 base:Heap
 A:Around
 N:Ò
 s₀:Shared
 H₀:Hp
 env:Env
 outer:List Env
 stack:List Env
 ex:List Addr
 fn:Str->Bool
 calm:Bool
 pn:List<|Addr×Obj
 xe:Ï
def cU(l:List Env):List Addr:=l.filterMap (·.frame)
abbrev Cx.fs(X:Cx):List Addr:=cU X.outer
def z8(sc:Scope)(x:Str):Prop:=sc.names.lookup x=some .local\/sc.names.lookup x=some .cell\/sc.names.lookup x=some .free
def Loc(sc:Scope)(x:Str):Prop:=sc.names.lookup x=some .local\/sc.names.lookup x=some .cell
def Look(env:Env)(h:Heap)(m:Ó)(x:Str)(u:Value):Prop:=
 (env.kindOf x=some .local/\m x=some u)\/((env.kindOf x=some .cell\/env.kindOf x=some .free)/\∃ c,env.cells.lookup x=some c/\h.IsCell c (some u))
structure Cx.Ok(X:Cx):Prop where
 mod:Mod X.K X.mg X.base
 kind:X.env.scope.kind = .function
 glob:X.env.globals=mainGlobals
 blt:X.env.builtins=builtinsNs
 above:X.s₀.heap.objs.size<=X.env.locals
 inj:∀ x y c,X.env.cells.lookup x=some c->X.env.cells.lookup y=some c->x=y
 has:∀ x,(X.env.kindOf x=some .cell\/X.env.kindOf x=some .free)->∃ c,X.env.cells.lookup x=some c
 lG:∀ x c,X.fn x=true->X.env.cells.lookup x=some c->X.s₀.heap.objs.size<=c
 hd:X.calm=true->X.A.handled=none
 frames:X.A.frames=some X.stack
 jr:X.stack=X.outer\/(X.stack=X.env :: X.outer/\X.env.frame=some X.env.locals)
 rh:∀ b∈X.ex,b≠X.env.locals/\∀ x c,X.env.cells.lookup x=some c->c≠b
 bs:∀ b o,X.base.get? b=some o->X.s₀.heap.get? b=some o/\X.H₀ b=none
 js:X.base.objs.size<=X.s₀.heap.objs.size
 fk:∀ b o,X.base.get? b=some o->b∉X.ex
 fQ:∀ b∈X.ex,b∉X.fs
 cv:X.s₀.heap.FunFrames X.base X.outer
 kN:∀ b∈X.fs,X.H₀ b=none
structure Inv(X:Cx)(pins:Ñ)(σ:List<|Option V)(H:Hp)(s:Shared):Prop where
 ok:X.Ok
 os:s.os=X.s₀.os
 bare:AllBare s.gens
 base:Un X.fs X.ex X.H₀ H X.s₀.heap s.heap
 loc:∃ m,s.heap.Ns X.env.locals m/\∀(i:Nat) (x:Str) (v:V),X.N[i]?=some x->σ[i]?=some (some v)->z8 X.env.scope x->∃ u,RelV v u/\Look X.env s.heap m x u
 cell:∀ x c,X.env.cells.lookup x=some c->∃ v,s.heap.IsCell c v
 free:H X.env.locals=none
 bz:∀ x c,X.env.cells.lookup x=some c->H c=none
 pin:∀ p∈X.pn++pins,s.heap.get? p.1=some p.2/\H p.1=none/\p.1≠X.env.locals/\p.1∉X.fs/\∀ v,p.2.data ≠ .cell v
 aE:b7 X.prog X.w H s.heap
 len:σ.length=X.N.length
section
variable{X:Cx}{pins:Ñ}{σ:List (Option V)}{H H':Hp}{s:Shared}{h':Heap}
def Cx.Ok.z9(ok:X.Ok){b:Addr}{o:Obj}(e:X.base.get? b=some o):b∉X.fs:=λhb=>by
 have:=(ok.cv.mem hb).1;rw[e]at this;cases this
def Inv.bs(I:Inv X pins σ H s):∀ b o,X.base.get? b=some o->s.heap.get? b=some o/\H b=none:=λb o e=>
 ⟨I.base.keep b o (I.ok.bs b o e).1 (I.ok.bs b o e).2 (I.ok.z9 e)<|I.ok.fk b o e,I.base.free b o (I.ok.bs b o e).1 (I.ok.bs b o e).2<|I.ok.fk b o e⟩
def Inv.bk(I:Inv X pins σ H s):∀ b o,X.base.get? b=some o->s.heap.get? b=some o:=λb o e=>(I.bs b o e).1
def Inv.mod(I:Inv X pins σ H s):Mod X.K X.mg X.base:=I.ok.mod
def Inv.dL(I:Inv X pins σ H s):X.K.In s.heap:=I.ok.mod.oO.keeps I.bk
def Inv.lt(I:Inv X pins σ H s):X.env.locals < s.heap.objs.size:=let ⟨_,hn,_⟩:=I.loc;hn.lt
def Inv.sz(I:Inv X pins σ H s):X.s₀.heap.objs.size<=s.heap.objs.size:=By I.ok.above<|Co I.lt
def Inv.AA(I:Inv X pins σ H s){a:Addr}(h:s.heap.objs.size<=a):a∉X.fs:=λhb=>by
 obtain⟨_,o,ho,_⟩:=I.ok.cv.mem hb;exact absurd (Be (Aq ho)<|By I.sz h)<|Cv _
def Inv.jL(I:Inv X pins σ H s):∀ x c,X.env.cells.lookup x=some c->c≠X.env.locals:=λx c e z=>by
 obtain⟨v,o,ho,hd⟩:=I.cell x c e;obtain⟨m,⟨o',es,ep,cJ,oP,_⟩,_⟩:=I.loc;rw[z,cJ]at ho;cases ho;rw[oP]at hd;cases hd
def Inv.cv(I:Inv X pins σ H s):s.heap.FunFrames X.base X.outer:=by
 have all:∀(l:List Env),(∀ b∈cU l,b∈X.fs)->X.s₀.heap.FunFrames X.base l->s.heap.FunFrames X.base l:=by
  intro l
  induction l with
  | nil=>intro _ _;trivial
  | cons env r ih=>
   intro hs hl;obtain⟨hk,⟨L,o,hf,hn,ho,hd⟩,hr⟩:=hl;have hL:L∈X.fs:=hs L (by unfold cU;rw[Ec,hf];exact Ae);obtain⟨sl,e⟩:=I.base.slot L o ho (I.ok.kN L hL) hL λz=>I.ok.fQ L z hL;exact⟨hk,⟨L,_,hf,hn,e,hd⟩,ih (λb hb=>hs b<|by unfold cU;rw[Ec,hf];exact Ah _ hb) hr⟩
 exact all X.outer (λ_ hb=>hb) I.ok.cv
def Inv.stack(I:Inv X pins σ H s):s.heap.FunFrames X.base X.stack:=by
 rcases I.ok.jr with e | ⟨e,hf⟩
 ·rw[e];exact I.cv
 ·rw[e];obtain⟨m,hn,_⟩:=I.loc;refine .cons (by rw[I.ok.kind];decide) hf hn ?_ I.cv;exact Heap.get?_none_of_le<|By I.ok.js I.ok.above
def Inv.cY(I:Inv X pins σ H s):∀ b∈cU X.stack,b∈X.env.locals :: X.fs:=λb hb=>by
 rcases I.ok.jr with e | ⟨e,hf⟩
 ·rw[e]at hb;exact Ah _ hb
 ·rw[e]at hb;unfold cU at hb;rw[Ec,hf]at hb;exact hb
def Inv.cN(I:Inv X pins σ H s):∀ b∈cU X.stack,H b=none:=λb hb=>by
 rcases Aj.mp (I.cY b hb)with e | hb
 ·rw[e];exact I.free
 ·obtain⟨_,o,ho,_⟩:=I.ok.cv.mem hb;exact I.base.free b o ho (I.ok.kN b hb) λz=>I.ok.fQ b z hb
def Inv.step{g':Array GenState}{t':Nat}{d':Drawn}{ch:List Addr}(I:Inv X pins σ H s)
  (kP:∀ b∈ch,(b∈X.ex\/X.s₀.heap.objs.size<=b)/\b≠X.env.locals/\(∀ x c,X.env.cells.lookup x=some c->c≠b)/\∀ p∈X.pn++pins,p.1≠b)
  (keep:∀ b o,b≠X.env.locals->b∉X.fs->b∉ch->s.heap.get? b=some o->H b=none->h'.get? b=some o)
  (slot:∀ b o,b≠X.env.locals->b∈X.fs->b∉ch->s.heap.get? b=some o->H b=none->∃ sl,h'.get? b=some {o with slots:=sl}) (free:∀ b o,b∉ch->s.heap.get? b=some o->H b=none->H' b=none)
  (there:∀ b o,b∉ch->s.heap.get? b=some o->∃ o',h'.get? b=some o')
  (dI:∀ b xs,H b=some (.tup xs)->H' b=some (.tup xs)) (dw:∀ b o u,H b=some (.bI o u)->H' b=some (.bI o u)) (dJ:∀ b ps,H b=some (.nA ps)->∃ more,H' b=some (.nA<|ps++more))
  (ns:∀ m,s.heap.Ns X.env.locals m->h'.Ns X.env.locals m) (aE:b7 X.prog X.w H' h') (hg:AllBare g') :
  Inv X pins σ H' {s with heap:=h',gens:=g',drawn:=d',toks:=t'}:=by
 have Mh:∀ b o,X.s₀.heap.get? b=some o->b≠X.env.locals:=λb o e=>Bm<|Be (Aq e) I.ok.above;have xu:∀ b o,X.s₀.heap.get? b=some o->b∉X.ex->b∉ch:=λb o e hx hb=>by
  rcases (kP b hb).1 with z | z
  ·exact hx z
  ·exact absurd (Be (Aq e) z)<|Cv _
 have cellK:∀ x c,X.env.cells.lookup x=some c->∀ v,s.heap.IsCell c v->h'.IsCell c v:=λx c e v ⟨o,ho,hd⟩=>by
  have tH:c∉ch:=λz=>(kP c z).2.2.1 x c e rfl
  by_cases hc:c∈X.fs
  ·obtain⟨sl,q⟩:=slot c o (I.jL x c e) hc tH ho<|I.bz x c e;exact⟨_,q,hd⟩
  ·exact⟨o,keep c o (I.jL x c e) hc tH ho<|I.bz x c e,hd⟩
 refine⟨I.ok,I.os,hg,⟨λb o e n hb hx=>?_,λb o e n hb hx=>?_,λb o e n hx=>?_,λb o e hx=>?_,λb xs e=>dI b xs<|I.base.dI b xs e,λb o xs e=>dw b o xs<|I.base.dw b o xs e,λb ps e=>?_⟩,?_,λx c e=>?_,?_,λx c e=>?_,λp hp=>?_,aE,I.len⟩
 ·exact keep b o (Mh b o e) hb (xu b o e hx) (I.base.keep b o e n hb hx)<|I.base.free b o e n hx
 ·obtain⟨sl,e1⟩:=I.base.slot b o e n hb hx;obtain⟨xv,e2⟩:=slot b _ (Mh b o e) hb (xu b o e hx) e1<|I.base.free b o e n hx;exact⟨xv,e2⟩
 ·obtain⟨o',e1⟩:=I.base.there b o e hx;exact free b o' (xu b o e hx) e1<|I.base.free b o e n hx
 ·obtain⟨o',e1⟩:=I.base.there b o e hx;exact there b o' (xu b o e hx) e1
 ·obtain⟨m1,e1⟩:=I.base.dJ b ps e;obtain⟨m2,e2⟩:=dJ b _ e1;exact⟨m1++m2,by rw[e2,Array.append_assoc]⟩
 ·obtain⟨m,hn,hl⟩:=I.loc;refine⟨m,ns m hn,λi x v e1 e2 e3=>?_⟩;obtain⟨u,r,l⟩:=hl i x v e1 e2 e3;refine⟨u,r,?_⟩
  rcases l with l | ⟨k,c,e,z⟩
  ·exact .inl l
  ·exact .inr ⟨k,c,e,cellK x c e _ z⟩
 ·obtain⟨v,z⟩:=I.cell x c e;exact⟨v,cellK x c e v z⟩
 ·obtain⟨m,⟨o,_,_,ho,_⟩,_⟩:=I.loc;exact free _ o (λz=>(kP _ z).2.1 rfl) ho I.free
 ·obtain⟨v,o,ho,hd⟩:=I.cell x c e;exact free c o (λz=>(kP c z).2.2.1 x c e rfl) ho<|I.bz x c e
 ·obtain⟨e,n,ne,nf,d⟩:=I.pin p hp;have tH:p.1∉ch:=λz=>(kP p.1 z).2.2.2 p hp rfl;exact⟨keep p.1 p.2 ne nf tH e n,free p.1 p.2 tH e n,ne,nf,d⟩
def Inv.un{t':Nat}(I:Inv X pins σ H s)(u:Un X.fs [] H H' s.heap h')(aE:b7 X.prog X.w H' h'):Inv X pins σ H' {s with heap:=h',toks:=t'}:=by
 obtain⟨m,⟨o,es,ep,ho,r⟩,_⟩:=id I.loc;obtain⟨sl,hL⟩:=u.any ho I.free (by simp);exact I.step (g':=s.gens) (d':=s.drawn) (ch:=[]) (λ_ z=>nomatch z) (λb o _ hb _ e n=>u.keep b o e n hb<|by simp) (λb o _ hb _ e n=>u.slot b o e n hb<|by simp) (λb o _ e n=>u.free b o e n<|by simp) (λb o _ e=>u.there b o e<|by simp) u.dI u.dw u.dJ (λm' hm=>by
  obtain⟨o',fm,nB,cJ,r'⟩:=hm;rw[ho]at cJ;cases cJ;exact⟨_,fm,nB,hL,r'⟩) aE I.bare
def Inv.call{g':Array GenState}{t':Nat}{d':Drawn}{ch:List Addr}(I:Inv X pins σ H s)(u:Un (cU X.stack) ch H H' s.heap h')(aE:b7 X.prog X.w H' h')(hg:AllBare g')
  (kP:∀ b∈ch,(b∈X.ex\/X.s₀.heap.objs.size<=b)/\b≠X.env.locals/\(∀ x c,X.env.cells.lookup x=some c->c≠b)/\∀ p∈X.pn++pins,p.1≠b) :
  Inv X pins σ H' {s with heap:=h',gens:=g',drawn:=d',toks:=t'}:=by
 obtain⟨m,⟨o,es,ep,ho,r⟩,_⟩:=id I.loc;obtain⟨sl,hL⟩:=u.any ho I.free λz=>(kP _ z).2.1 rfl;exact I.step (ch:=ch) kP (λb o hL hb hc e n=>u.keep b o e n (λz=>(Aj.mp<|I.cY b z).elim hL hb) hc) (λb o _ _ hc e n=>u.any e n hc) (λb o hc e n=>u.free b o e n hc) (λb o hc e=>u.there b o e hc) u.dI u.dw u.dJ (λm' hm=>by
  obtain⟨o',fm,nB,cJ,r'⟩:=hm;rw[ho]at cJ;cases cJ;exact⟨_,fm,nB,hL,r'⟩) aE hg
def Inv.turned{t':Nat}{it:Addr}(I:Inv X pins σ H s)(k:∀ b o,b≠it->s.heap.get? b=some o->h'.get? b=some o)(hn:H it=none)(hL:it≠X.env.locals)
  (h1:it∈X.ex\/X.s₀.heap.objs.size<=it) (h2:∀ x c,X.env.cells.lookup x=some c->c≠it) (h3:∀ p∈X.pn++pins,p.1≠it):Inv X pins σ H {s with heap:=h',toks:=t'}:=by
 have tI:∀ b u,H b=some u->b≠it:=λb u e z=>by rw[z,hn]at e;cases e
 refine I.step (g':=s.gens) (d':=s.drawn) (ch:=[it]) (λb hb=>?_) (λb o _ _ hc e _=>k b o (λz=>hc<|by simp[z]) e) (λb o _ _ hc e _=>⟨o.slots,k b o (λz=>hc<|by simp[z]) e⟩) (λ_ _ _ _ n=>n)
  (λb o hc e=>⟨o,k b o (λz=>hc<|by simp[z]) e⟩) (λ_ _ e=>e) (λ_ _ _ e=>e) (λb ps e=>⟨#[],by rw[e];simp⟩) (λm hm=>?_) (λb u e=>?_) I.bare
 ·have e:b=it:=by simpa using hb
  subst e;exact⟨h1,hL,h2,h3⟩
 ·obtain⟨o,es,ep,ho,r⟩:=hm;exact⟨o,es,ep,k _ o (CG hL) ho,r⟩
 ·refine(I.aE b u e).fh (λc v hc q=>k c v ?_ q) (λ_ q=>q) λ_ _ q=>q
  rcases hc with z | z
  ·rw[z];exact tI b u e
  ·exact tI c _ z
def Inv.tok(I:Inv X pins σ H s)(t:Nat):Inv X pins σ H {s with toks:=t}:=I.un (h':=s.heap) (t':=t) Un.refl I.aE
def Inv.kept{t':Nat}(I:Inv X pins σ H s)(k:∀ b u,s.heap.get? b=some u->h'.get? b=some u):Inv X pins σ H {s with heap:=h',toks:=t'}:=I.un (Un.kept k)<|I.aE.kept k
def Inv.laid{a:Addr}{o:HO}{t':Nat}(I:Inv X pins σ H s)(k:∀ b u,s.heap.get? b=some u->h'.get? b=some u)(hp:s.heap.objs.size<=a)(new:aB X.prog X.w (upd H a o) h' a o) :
  Inv X pins σ (upd H a o) {s with heap:=h',toks:=t'}:=I.un (Un.laid k hp<|I.aE.fresh hp)<|I.aE.laid k hp new
def Inv.write{x e:Addr}{o:HO}{t':Nat}(I:Inv X pins σ H s)(mu:tF<|H x)(he:e=x\/H e=some (.own x))(k:∀ b u,b≠e->s.heap.get? b=some u->h'.get? b=some u)(rg:∃ u,h'.get? e=some u)
  (new:aB X.prog X.w (upd H x o) h' x o):Inv X pins σ (upd H x o) {s with heap:=h',toks:=t'}:=I.un (Un.write mu he k rg)<|I.aE.write mu he k rg new
def Inv.iq{nC:Ñ}(I:Inv X pins σ H s)(h:∀ p∈nC,s.heap.get? p.1=some p.2/\H p.1=none/\p.1≠X.env.locals/\p.1∉X.fs/\∀ v,p.2.data ≠ .cell v):Inv X nC σ H s:=
 ⟨I.ok,I.os,I.bare,I.base,I.loc,I.cell,I.free,I.bz,λp hp=>(Am.mp hp).elim (λz=>I.pin p<|Ba _ z)<|h p,I.aE,I.len⟩
def AB{N:Ò}(hN:N.Nodup){i j:Nat}{x:Str}(a:N[i]?=some x)(b:N[j]?=some x):i=j:=by
 obtain⟨h1,e1⟩:=Ac.mp a;obtain⟨h2,e2⟩:=Ac.mp b;exact(Gf hN).mp<|e1.trans e2.symm
def Mi{M:Model}{A:Around}{E:Ï}{i:Nat}{x:Str}{v:V}{u:Value}{Q:Unit->Shared->Prop}(I:Inv X pins σ H s)(hN:X.N.Nodup)(hi:X.N[i]?=some x)(hx:Loc X.env.scope x)(r:RelV v u)
  (h:∀ s',Inv X pins (σ.set i<|some v) H s'->(∃ a,Heap.SameBut a s.heap s'.heap/\(a=X.env.locals\/X.env.cells.lookup x=some a))->Q () s') (hf:X.fn x=true\/X.env.scope.names.lookup x=some .local:=by first | exact .inl rfl | exact .inr rfl | assumption):wpAny M A (storeName X.env x u) Q E s:=by
 obtain⟨m,hn,hl⟩:=id I.loc;have oQ:(X.env.scope.kind == .class || (X.env.scope.kind == .module && X.env.locals != X.env.globals))=false:=by rw[I.ok.kind];rfl
 have hiσ:i < σ.length:=by rw[I.len];exact(Ac.mp hi).1
 have jL:=I.jL;have tracked:∀{a:Addr} {h':Heap},(∃ o,s.heap.get? a=some o/\H a=none)->Heap.SameBut a s.heap h'->b7 X.prog X.w H h':=λ{a h'} ha hs b ob e=>by
  obtain⟨_,_,nD⟩:=ha;refine(I.aE b ob e).fh (λc w' hc q=>(hs.2 c ?_).trans q) (λ_ q=>q) λ_ _ q=>q;rintro rfl
  rcases hc with rfl | hc
  ·rw[nD]at e;cases e
  ·rw[nD]at hc;cases hc
 rcases hx with hk | hk
 ·refine wpAny_storeName_local hk hn (λh' kQ hs=>?_) oQ;obtain⟨oL,_,_,jt,_⟩:=id hn;refine h _ ⟨I.ok,I.os,I.bare,⟨λb o e n hb hx=>?_,λb o e n hb hx=>?_,I.base.free,λb o e hx=>?_,I.base.dI,I.base.dw,I.base.dJ⟩,⟨_,kQ,λj y v' e1 e2 e3=>?_⟩,λy c e=>?_,I.free,I.bz,λp hp=>?_,tracked ⟨oL,jt,I.free⟩ hs,by simpa using I.len⟩ ⟨_,hs,.inl rfl⟩
  ·exact(hs.2 b<|Bm<|Be (Aq e) I.ok.above).trans<|I.base.keep b o e n hb hx
  ·obtain⟨sl,e1⟩:=I.base.slot b o e n hb hx;exact⟨sl,(hs.2 b<|Bm<|Be (Aq e) I.ok.above).trans e1⟩
  ·obtain⟨o',e1⟩:=I.base.there b o e hx;exact⟨o',(hs.2 b<|Bm<|Be (Aq e) I.ok.above).trans e1⟩
  ·by_cases hj:j=i
   ·subst hj;rw[hi]at e1;cases e1;rw[Fz hiσ]at e2;cases e2;exact⟨u,r,.inl ⟨hk,by simp⟩⟩
   ·rw[Gm<|CG hj]at e2;obtain⟨u',r',q⟩:=hl j y v' e1 e2 e3;refine⟨u',r',?_⟩
    rcases q with ⟨k,e⟩ | ⟨k,c,e,z⟩
    ·refine .inl ⟨k,?_⟩;have:y≠x:=λe=>hj<|AB hN e1<|e ▸ hi;simp[this,e]
    ·exact .inr ⟨k,c,e,z.sameBut hs<|jL y c e⟩
  ·obtain⟨w',z⟩:=I.cell y c e;exact⟨w',z.sameBut hs<|jL y c e⟩
  ·obtain⟨e,n,ne,nf,d⟩:=I.pin p hp;exact⟨(hs.2 p.1 ne).trans e,n,ne,nf,d⟩
 ·have tJ:X.fn x=true:=by
   rcases hf with z | z
   ·exact z
   ·rw[z]at hk;cases hk
  obtain⟨c,hc⟩:=I.ok.has x<|.inl hk;obtain⟨w',z⟩:=I.cell x c hc;refine wpAny_storeName_cell I.ok.kind hk hc z λh' bS hs=>?_;obtain⟨oc,Mj,AF⟩:=id z;refine h {s with heap:=h'} ⟨I.ok,I.os,I.bare,⟨λb o e n hb hx=>?_,λb o e n hb hx=>?_,I.base.free,λb o e hx=>?_,I.base.dI,I.base.dw,I.base.dJ⟩,⟨m,hn.sameBut hs<|CG<|jL x c hc,λj y v' e1 e2 e3=>?_⟩,λy c' e=>?_,I.free,I.bz,λp hp=>?_,tracked ⟨oc,Mj,I.bz x c hc⟩ hs,by simpa using I.len⟩ ⟨c,hs,.inr hc⟩
  ·exact(hs.2 b<|Bm<|Be (Aq e)<|I.ok.lG x c tJ hc).trans<|I.base.keep b o e n hb hx
  ·obtain⟨sl,e1⟩:=I.base.slot b o e n hb hx;exact⟨sl,(hs.2 b<|Bm<|Be (Aq e)<|I.ok.lG x c tJ hc).trans e1⟩
  ·obtain⟨o',e1⟩:=I.base.there b o e hx;exact⟨o',(hs.2 b<|Bm<|Be (Aq e)<|I.ok.lG x c tJ hc).trans e1⟩
  ·by_cases hj:j=i
   ·subst hj;rw[hi]at e1;cases e1;rw[Fz hiσ]at e2;cases e2;exact⟨u,r,.inr ⟨.inl hk,c,hc,bS⟩⟩
   ·rw[Gm<|CG hj]at e2;obtain⟨u',r',q⟩:=hl j y v' e1 e2 e3;refine⟨u',r',?_⟩
    rcases q with q | ⟨k,c',e,z'⟩
    ·exact .inl q
    ·refine .inr ⟨k,c',e,z'.sameBut hs ?_⟩;rintro rfl;exact hj<|AB hN e1<|I.ok.inj _ _ _ e hc ▸ hi
  ·by_cases iu:c'=c
   ·subst iu;exact⟨_,bS⟩
   ·obtain⟨w2,z2⟩:=I.cell y c' e;exact⟨w2,z2.sameBut hs iu⟩
  ·obtain⟨e,n,ne,nf,d⟩:=I.pin p hp;refine⟨(hs.2 p.1 ?_).trans e,n,ne,nf,d⟩;intro q;rw[q,Mj]at e;have q':oc=p.2:=Option.some.inj e;exact d w'<|by rw[<- q'];exact AF
def AG{M:Model}{A:Around}{E:Ï}{i:Nat}{x:Str}{v:V}{u:Value}{Q:Unit->Shared->Prop}(I:Inv X pins σ H s)(hN:X.N.Nodup)(hi:X.N[i]?=some x)(hx:Loc X.env.scope x)(r:RelV v u)
  (h:∀ s',Inv X pins (σ.set i<|some v) H s'->Q () s') (hf:X.fn x=true\/X.env.scope.names.lookup x=some .local:=by first | exact .inl rfl | exact .inr rfl | assumption):wpAny M A (storeName X.env x u) Q E s:=
 Mi I hN hi hx r (λs' I' _=>h s' I') hf
def Inv.call'{s':Shared}{ch:List Addr}(I:Inv X pins σ H s)(ho:s'.os=s.os)(u:Un (cU X.stack) ch H H' s.heap s'.heap)(aE:b7 X.prog X.w H' s'.heap)(hg:AllBare s'.gens)
  (kP:∀ b∈ch,(b∈X.ex\/X.s₀.heap.objs.size<=b)/\b≠X.env.locals/\(∀ x c,X.env.cells.lookup x=some c->c≠b)/\∀ p∈X.pn++pins,p.1≠b):Inv X pins σ H' s':=by
 obtain⟨h',g',d',t',o'⟩:=s';have e:o'=s.os:=ho;subst e;exact I.call (g':=g') (t':=t') (d':=d') u aE hg kP
end
abbrev XK:=Value->Option Addr->Hp->Prop
abbrev St:=List<|Option V
abbrev VK:=V->Hp->Prop
abbrev TE:=St->Hp->VK->Prop
abbrev TT:=St->Hp->(Bool->Hp->Prop)->Prop
abbrev TA:=St->Hp->(List V->Hp->Prop)->Prop
structure Ends where
 nx:St->Hp->Prop
 rt:VK
 bk:St->Hp->Prop:=λ_ _=>False
 ct:St->Hp->Prop:=λ_ _=>False
abbrev TS:=Ends->St->Hp->Prop
def EP(X:Cx)(pins:Ñ)(σ:St)(Q:VK)(u:Value)(s':Shared):Prop:=∃ v H',Inv X pins σ H' s'/\RelV v u/\Q v H'
def TP(X:Cx)(pins:Ñ)(σ:St)(Q:Bool->Hp->Prop)(b:Bool)(s':Shared):Prop:=∃ H',Inv X pins σ H' s'/\Q b H'
def AP(X:Cx)(pins:Ñ)(σ:St)(Q:List V->Hp->Prop)(us:Ô)(s':Shared):Prop:=∃ vs H',Inv X pins σ H' s'/\ay vs us/\Q vs H'
def SP(X:Cx)(pins:Ñ)(D:Ends)(f:Flow)(s':Shared):Prop:=
 match f with
 | .next=>∃ σ' H',Inv X pins σ' H' s'/\D.nx σ' H'
 | .brk=>∃ σ' H',Inv X pins σ' H' s'/\D.bk σ' H'
 | .cont=>∃ σ' H',Inv X pins σ' H' s'/\D.ct σ' H'
 | .ret u=>∃ v σ' H',Inv X pins σ' H' s'/\RelV v u/\D.rt v H'
def PE(X:Cx)(e:Expr)(t:TE):Prop:=
 ∀(pins:Ñ) (s:Shared) (σ:St) (H:Hp) (Q:VK),Inv X pins σ H s->t σ H Q->wpAny (model X.prog X.w) X.A (eval e X.env) (EP X pins σ Q) X.xe s
def PT(X:Cx)(e:Expr)(t:TT):Prop:=
 ∀(pins:Ñ) (s:Shared) (σ:St) (H:Hp) (Q:Bool->Hp->Prop),Inv X pins σ H s->t σ H Q->wpAny (model X.prog X.w) X.A (isTrue e X.env<|eval e X.env) (TP X pins σ Q) X.xe s
def PW(X:Cx)(e:Expr)(t:TT):Prop:=
 ∀(whole:Sem Value) (pins:Ñ) (s:Shared) (σ:St) (H:Hp) (Q:Bool->Hp->Prop),Inv X pins σ H s->t σ H Q->wpAny (model X.prog X.w) X.A (isTrue e X.env whole) (TP X pins σ Q) X.xe s
def PA(X:Cx)(es:Õ)(t:TA):Prop:=
 ∀(pos:Pos) (pins:Ñ) (s:Shared) (σ:St) (H:Hp) (Q:List V->Hp->Prop),Inv X pins σ H s->t σ H Q->wpAny (model X.prog X.w) X.A (spliced<|backTo pos<|starEach es X.env) (AP X pins σ Q) X.xe s
def PS(X:Cx)(st:Stmt)(t:TS):Prop:=
 ∀(pins:Ñ) (s:Shared) (σ:St) (H:Hp) (D:Ends),Inv X pins σ H s->t D σ H->wpAny (model X.prog X.w) X.A (exec st X.env) (SP X pins D) X.xe s
def iU(X:Cx)(st:Ö)(t:TS):Prop:=
 ∀(pins:Ñ) (s:Shared) (σ:St) (H:Hp) (D:Ends),Inv X pins σ H s->t D σ H->wpAny (model X.prog X.w) X.A (execs st X.env) (SP X pins D) X.xe s
def aN{α:Type}{t:Sem α}{Q Q':α->Shared->Prop}{M:Model}{A:Around}{E:Ï}{s:Shared}(h:wpAny M A t Q E s)(hQ:∀ a s,Q a s->Q' a s):wpAny M A t Q' E s:=CP h hQ λ_ _ x=>x
section
variable{X:Cx}
def bin{a b:Expr}{ta tb:TE}(ha:PE X a ta)(hb:PE X b tb){pins:Ñ}{s:Shared}{σ:St}{H:Hp}{R:V->V->Hp->Prop}(I:Inv X pins σ H s)(h:ta σ H λx H1=>tb σ H1 λy H2=>R x y H2)
  {α:Type} {Q:α->Shared->Prop} {f:Value->Value->Sem α}
  (hf:∀ v u s2 x y H2,Inv X pins σ H2 s2->RelV x v->RelV y u->R x y H2->wpAny (model X.prog X.w) X.A (f v u) Q X.xe s2) :
  wpAny (model X.prog X.w) X.A (eval a X.env) (λv À=>wpAny (model X.prog X.w) X.A (eval b X.env) (λu Á=>wpAny (model X.prog X.w) X.A (f v u) Q X.xe Á) X.xe À) X.xe s:=by
 refine aN (ha pins s σ H _ I h) λv s1 ⟨x,H1,I1,r1,q1⟩=>?_;refine aN (hb pins s1 σ H1 _ I1 q1) λu s2 ⟨y,H2,I2,r2,q2⟩=>?_;exact hf v u s2 x y H2 I2 r1 r2 q2
def AH(i:Nat):TE:=λσ H Q=>∃ v,σ[i]?=some (some v)/\Q v H
def tC(v:V):TE:=λ_ H Q=>Q v H
def U8{i:Nat}{x:Str}{pos:Pos}(hN:X.N[i]?=some x)(hv:z8 X.env.scope x)(hd:(x == ("__debug__" : Str))=false:=by decide)(iw:(x == ("__classdict__" : Str))=false:=by decide):PE X (.Name x pos) (AH i):=by
 intro pins s σ H Q I h;obtain⟨v,e,h⟩:=h;obtain⟨m,hn,hl⟩:=I.loc;obtain⟨u,r,l⟩:=hl i x v hN e hv;have fin:EP X pins σ Q u s:=⟨v,H,I,r,h⟩
 rcases l with ⟨hk,hm⟩ | ⟨hk,c,hc,iy⟩
 ·exact wpAny_Name (wpAny_loadName_local I.ok.kind hk hn hm fin) hd
 ·rcases hk with hk | hk
  ·exact wpAny_Name (wpAny_loadName_cell I.ok.kind hk hc iy fin) hd
  ·exact wpAny_Name (wpAny_loadName_free I.ok.kind hk hc iy fin iw) hd
def U9{i j pos}:PE X (.Constant (.int i) j pos) (tC<|.int i):=λ_ _ _ H _ I h=>wpAny_Constant_int ⟨.int i,H,I.tok _,⟨_,rfl⟩,h⟩
def U'{b j pos}:PE X (.Constant (.bool b) j pos) (tC<|.bl b):=λ_ _ _ H _ I h=>Constant_bool ⟨.bl b,H,I,rfl,h⟩
def Va{j pos}:PE X (.Constant .none j pos) (tC .non):=λ_ _ _ H _ I h=>Constant_none ⟨.non,H,I,rfl,h⟩
def Vb{x j pos}:PE X (.Constant (.str x) j pos) (tC<|.str x):=λ_ _ _ H _ I h=>Calls.Constant_str ⟨.str x,H,I.tok _,⟨_,rfl⟩,h⟩
def Gl(X:Cx)(x:Str):Prop:=X.env.kindOf x=some .globalImplicit
def ri{E:Ï}{pins:Ñ}{s:Shared}{σ:St}{H:Hp}{x:Str}{u:Value}{pos:Pos}{Q:Ï}(I:Inv X pins σ H s)(hg:Gl X x)(hm:X.mg x=some u)(h:Q u s)
  (hd:(x == ("__debug__" : Str))=false:=by decide):wpAny (model X.prog X.w) X.A (eval (.Name x pos) X.env) Q E s:=
 Calls.Name_function_global I.ok.kind hg (Calls.loadGlobal_global (by rw[I.ok.glob];exact I.mod.glob.keeps I.bk) hm h) hd
def oR{E:Ï}{pins:Ñ}{s:Shared}{σ:St}{H:Hp}{x:Str}{u:Value}{pos:Pos}{Q:Ï}(I:Inv X pins σ H s)(hg:Gl X x)(hm:X.mg x=none)(hv:bootBuiltins x=some u)(h:Q u s)
  (hn:x ≠ "__name__":=by decide) (hd:(x == ("__debug__" : Str))=false:=by decide):wpAny (model X.prog X.w) X.A (eval (.Name x pos) X.env) Q E s:=by
 obtain⟨mb,h1,h2⟩:=I.mod.blt;exact Calls.Name_function_global I.ok.kind hg (Calls.loadGlobal_builtin (by rw[I.ok.glob];exact I.mod.glob.keeps I.bk) hm (by rw[I.ok.blt];exact h1.keeps I.bk) ((h2 x hn).trans hv) h) hd
def Vc{x:Str}{v:V}{u:Value}{pos:Pos}(hg:Gl X x)(hm:X.mg x=some u)(r:RelV v u)(hd:(x == ("__debug__" : Str))=false:=by decide):PE X (.Name x pos) (tC v):=
 λ_ _ _ H _ I h=>ri I hg hm ⟨v,H,I,r,h⟩ hd
def Vd{x:Str}{v:V}{u:Value}{pos:Pos}(hg:Gl X x)(hm:X.mg x=none)(hv:bootBuiltins x=some u)(r:RelV v u)(hn:x ≠ "__name__":=by decide)(hd:(x == ("__debug__" : Str))=false:=by decide):PE X (.Name x pos) (tC v):=
 λ_ _ _ H _ I h=>oR I hg hm hv ⟨v,H,I,r,h⟩ hn hd
variable{a b:Expr}{ta tb:TE}{pos:Pos}
def PC(X:Cx)(op:CmpOp)(a b:Expr)(t:TE):Prop:=
 ∀(pins:Ñ) (s:Shared) (σ:St) (H:Hp) (Q:VK),Inv X pins σ H s->t σ H Q ->
  wpAny (model X.prog X.w) X.A (eval a X.env) (λv À=>wpAny (model X.prog X.w) X.A (eval b X.env) (λu Á=>wpAny (model X.prog X.w) X.A (compareOp op v u) (EP X pins σ Q) X.xe Á) X.xe À) X.xe s
def tB(t:TE):TT:=λσ H Q=>t σ H λx H1=>∃ c,x = .bl c/\Q c H1
def Mk{op:CmpOp}{t:TE}(h:PC X op a b t)(h1:behindInMarks op b=false:=by first | exact tK _ (by decide) (by decide) | rfl):PT X (.Compare a [op] [b] pos) (tB t):=by
 intro pins s σ H Q I hw;refine wpAny_isTrue_Compare1 (aN (h pins s σ H _ I hw) λv s1 h1=>aN h1 λu s2 h2=>aN h2 λc s3 ⟨x,H1,I1,r1,q1⟩=>?_) h1;obtain⟨d,rfl,q⟩:=q1;cases r1;exact FP ⟨H1,I1,q⟩
def Ve{e:Expr}{t:TE}(h:PE X e t)(he:∀ whole,isTrue e X.env whole=(do let v <- whole;standAt e.pos;holding [v] (truthy v)):=by intro _;rfl):PT X e (tB t):=by
 intro pins s σ H Q I hw;refine isTrue_plain (aN (h pins s σ H _ I hw) λv s1 ⟨x,H1,I1,r1,q1⟩=>?_)<|he _;obtain⟨d,rfl,q⟩:=q1;cases r1;exact FP ⟨H1,I1,q⟩
variable{tA xx:TT}{rest:Õ}
def AI(t u:TT):TT:=λσ H Q=>t σ H λc H1=>if c=true then u σ H1 Q else Q false H1
def Vf(t u:TT):TT:=λσ H Q=>t σ H λc H1=>if c=true then Q true H1 else u σ H1 Q
def AJ(t:TT):TT:=λσ H Q=>t σ H λc H1=>Q (!c) H1
theorem Vg(ha:PT X a tA):PW X (.BoolOp .And [a] pos) tA:=by
 intro wh pins s σ H Q I h;refine isTrue_and<|aN (ha pins s σ H Q I h) λc s1 e=>?_;cases c with
 | true=>exact isTrue_and_nil e
 | false=>exact e
theorem Vh(ha:PT X a tA):PW X (.BoolOp .Or [a] pos) tA:=by
 intro wh pins s σ H Q I h;refine isTrue_or<|aN (ha pins s σ H Q I h) λc s1 e=>?_;cases c with
 | false=>exact isTrue_or_nil e
 | true=>exact e
theorem Vi(ha:PT X a tA)(hb:PW X (.BoolOp .And (b :: rest) pos) xx):PW X (.BoolOp .And (a :: b :: rest) pos) (AI tA xx):=by
 intro wh pins s σ H Q I h;refine isTrue_and<|aN (ha pins s σ H _ I h) λc s1 ⟨H1,I1,q1⟩=>?_;cases c with
 | true=>exact hb wh pins s1 σ H1 Q I1 q1
 | false=>exact⟨H1,I1,q1⟩
theorem Vj(ha:PT X a tA)(hb:PW X (.BoolOp .Or (b :: rest) pos) xx):PW X (.BoolOp .Or (a :: b :: rest) pos) (Vf tA xx):=by
 intro wh pins s σ H Q I h;refine isTrue_or<|aN (ha pins s σ H _ I h) λc s1 ⟨H1,I1,q1⟩=>?_;cases c with
 | true=>exact⟨H1,I1,q1⟩
 | false=>exact hb wh pins s1 σ H1 Q I1 q1
def Vk(ha:PT X a tA):PT X (.UnaryOp .Not a pos) (AJ tA):=by
 intro pins s σ H Q I h;exact isTrue_not<|ha pins s σ H (λc H1=>Q (!c) H1) I h
def Vl(ta tb:TE):TE:=λσ H Q=>ta σ H λx H1=>∃ c,x = .bl c/\if c=true then tb σ H1 Q else Q (.bl false) H1
def Vm(ta:TE):TE:=λσ H Q=>ta σ H λx H1=>∃ c,x = .bl c/\Q (.bl (!c)) H1
def Vn{op}{t:TE}(h:PE X a t):PE X (.BoolOp op [a] pos) t:=λpins s σ H Q I hw=>BoolOp_one<|h pins s σ H Q I hw
theorem Vo(ha:PE X a ta)(hb:PE X (.BoolOp .And (b :: rest) pos) tb):PE X (.BoolOp .And (a :: b :: rest) pos) (Vl ta tb):=by
 intro pins s σ H Q I h;refine BoolOp_and<|aN (ha pins s σ H _ I h) λv s1 ⟨x,H1,I1,r1,q1⟩=>?_;obtain⟨c,rfl,q1⟩:=q1;cases r1;refine FP ?_;cases c with
 | true=>exact hb pins s1 σ H1 Q I1 q1
 | false=>exact⟨.bl false,H1,I1,rfl,q1⟩
def Vp(ha:PE X a ta):PE X (.UnaryOp .Not a pos) (Vm ta):=by
 intro pins s σ H Q I h;refine UnaryOp_<|aN (ha pins s σ H _ I h) λv s1 ⟨x,H1,I1,r1,q1⟩=>?_;obtain⟨c,rfl,q1⟩:=q1;cases r1;exact not_of<|FP ⟨.bl (!c),H1,I1,rfl,q1⟩
def Vq(t:TT)(ta tb:TE):TE:=λσ H Q=>t σ H λc H1=>if c=true then ta σ H1 Q else tb σ H1 Q
theorem Vr{c:Expr}(hc:PT X c tA)(ha:PE X a ta)(hb:PE X b tb):PE X (.IfExp c a b pos) (Vq tA ta tb):=by
 intro pins s σ H Q I h;refine wpAny_IfExp<|aN (hc pins s σ H _ I h) λd s1 ⟨H1,I1,q1⟩=>?_;cases d with
 | true=>exact ha pins s1 σ H1 Q I1 q1
 | false=>exact hb pins s1 σ H1 Q I1 q1
end
def aq(K:PySem.W.Frag)(H:Hp)(a:Addr)(xs:List V):Prop:=
 Rd H a (.lst xs) \/
  ∃(o:Obj) (its:Array Value) (n:Nat),K.lookup a=some o/\o.cls = .type "list"/\o.dict=none/\o.data = .seq its n/\its.size<=sizeLine/\ay xs its.toList
def aJ(K:PySem.W.Frag)(H:Hp)(a:Addr)(xs:List V):Prop:=
 Rd H a (.tup xs) \/
  ∃(o:Obj) (its:Array Value) (n:Nat),K.lookup a=some o/\o.cls = .type "tuple"/\o.data = .seq its n/\its.size<=sizeLine/\ay xs its.toList
def AK:Value->Option V
 | .none=>some .non
 | .bool b=>some<|.bl b
 | .int i _=>some<|.int i
 | .str x _=>some<|.str x
 | .bytes b _=>some<|.iT b
 | .float b _=>some<|.rd b
 | .ref a=>some<|.ref a
 | .type n=>some<|.ty n
 | _=>none
theorem RelV.abs{x:V}{u:Value}(r:RelV x u):AK u=some x:=by
 cases x with
 | non=>cases r;rfl
 | bl _=>cases r;rfl
 | int _=>obtain⟨t,rfl⟩:=r;rfl
 | str _=>obtain⟨t,rfl⟩:=r;rfl
 | iT _=>obtain⟨t,rfl⟩:=r;rfl
 | rd _=>obtain⟨t,rfl⟩:=r;rfl
 | ref _=>cases r;rfl
 | ty _=>cases r;rfl
def RelV.inj{x y:V}{u:Value}(r:RelV x u)(q:RelV y u):x=y:=Option.some.inj<|r.abs.symm.trans q.abs
theorem ay.inj:∀{xs ys:List V} {us:Ô},ay xs us->ay ys us->xs=ys
 | _,_,_,.nil,.nil=>rfl
 | _,_,_,.cons r t,.cons r' t'=>by rw[r.inj r',ay.inj t t']
section
variable{X:Cx}{pins:Ñ}{σ:St}{H:Hp}{s:Shared}{a:Addr}{xs ys:List V}
def aq.of{K:PySem.W.Frag}(h:H a=some (.lst xs)):aq K H a xs:= .inl<|.inl h
def aJ.of{K:PySem.W.Frag}(h:H a=some (.tup xs)):aJ K H a xs:= .inl<|.inl h
def Inv.list(I:Inv X pins σ H s)(h:aq X.K H a xs):∃ its:Ô,ay xs its/\PlainL s.heap a its.toArray/\xs.length<=sizeLine:=by
 rcases h with h | ⟨o,its,n,hk,hc,hd,hs,hz,r⟩
 ·obtain⟨z,its,n,r,e⟩:=h.ok I.aE;exact⟨its,r,⟨_,n,e,rfl,rfl,rfl⟩,z⟩
 ·refine⟨its.toList,r,⟨o,n,I.dL a o hk,hc,hd,by simpa using hs⟩,?_⟩;have e:=r.length;simp only[Bq]at e;omega
def Inv.tuple(I:Inv X pins σ H s)(h:aJ X.K H a xs):∃ its:Ô,ay xs its/\IsTup s.heap a its.toArray/\xs.length<=sizeLine:=by
 rcases h with h | ⟨o,its,n,hk,hc,hs,hz,r⟩
 ·obtain⟨z,its,r,p⟩:=h.ok I.aE;exact⟨its,r,p,z⟩
 ·refine⟨its.toList,r,⟨o,I.dL a o hk,hc,n,by simpa using hs⟩,?_⟩;have e:=r.length;simp only[Bq]at e;omega
def Inv.dM(I:Inv X pins σ H s)(h:aq X.K H a xs)(h':aq X.K H a ys):xs=ys:=by
 obtain⟨its,r,⟨o,n,e,_,_,d⟩,_⟩:=I.list h;obtain⟨its',r',⟨o',n',e',_,_,d'⟩,_⟩:=I.list h';rw[e]at e';cases e';rw[d]at d'
 injection d' with d1 _
 have:its=its':=by simpa using BZ Array.toList d1
 subst this;exact r.inj r'
end
abbrev Cx.cZ(X:Cx)(E:Ï):Cx:={X with xe:=E}
abbrev Cx.rj(X:Cx):Cx:=X.cZ λ_ _=>False
def Cx.Ok.cZ{X:Cx}(ok:X.Ok)(E:Ï):(X.cZ E).Ok:=
 ⟨ok.mod,ok.kind,ok.glob,ok.blt,ok.above,ok.inj,ok.has,ok.lG,ok.hd,ok.frames,ok.jr,ok.rh,ok.bs,ok.js,ok.fk,ok.fQ,ok.cv,ok.kN⟩
def Cx.Ok.bG{X:Cx}{E:Ï}(ok:(X.cZ E).Ok):X.Ok:=
 ⟨ok.mod,ok.kind,ok.glob,ok.blt,ok.above,ok.inj,ok.has,ok.lG,ok.hd,ok.frames,ok.jr,ok.rh,ok.bs,ok.js,ok.fk,ok.fQ,ok.cv,ok.kN⟩
section
variable{X:Cx}{pins:Ñ}{σ:St}{H:Hp}{s:Shared}{E:Ï}
def Inv.cZ(I:Inv X pins σ H s)(E:Ï):Inv (X.cZ E) pins σ H s:=⟨I.ok.cZ E,I.os,I.bare,I.base,I.loc,I.cell,I.free,I.bz,I.pin,I.aE,I.len⟩
def Inv.bG(I:Inv (X.cZ E) pins σ H s):Inv X pins σ H s:=⟨I.ok.bG,I.os,I.bare,I.base,I.loc,I.cell,I.free,I.bz,I.pin,I.aE,I.len⟩
theorem SP.bG{D:Ends}{f:Flow}{s':Shared}(h:SP (X.cZ E) pins D f s'):SP X pins D f s':=by
 cases f with
 | next=>obtain⟨σ',H',I,q⟩:=h;exact⟨σ',H',I.bG,q⟩
 | brk=>obtain⟨σ',H',I,q⟩:=h;exact⟨σ',H',I.bG,q⟩
 | cont=>obtain⟨σ',H',I,q⟩:=h;exact⟨σ',H',I.bG,q⟩
 | ret u=>obtain⟨v,σ',H',I,r,q⟩:=h;exact⟨v,σ',H',I.bG,r,q⟩
def iU.rj{st:Ö}{t:TS}(h:iU X.rj st t):iU X st t:=λpins s σ H D I hw=>
 CP (h pins s σ H D (I.cZ _) hw) (λ_ _ q=>q.bG) λ_ _ z=>False.elim z
end
section
variable{X:Cx}{st:Stmt}{rest:Ö}{t u:TS}{e:Expr}{te:TE}{pos:Pos}
def Vs:TS:=λD σ H=>D.nx σ H
def AO(t u:TS):TS:=λD σ H=>t {D with nx:=u D} σ H
def AQ:iU X [] Vs:=λ_ _ σ H _ I h=>RW ⟨σ,H,I,h⟩
theorem Vt(h1:PS X st t)(h2:iU X rest u):iU X (st :: rest) (AO t u):=by
 intro pins s σ H D I h;refine wpAny_execs_cons<|aN (h1 pins s σ H {D with nx:=u D} I h) λf s1 q=>?_;cases f with
 | next=>
  obtain⟨σ',H',I',q⟩:=q;exact h2 pins s1 σ' H' D I' q
 | ret v=>exact q
 | brk=>exact q
 | cont=>exact q
def Inv.quiet{pins:Ñ}{σ:St}{H:Hp}{s:Shared}(I:Inv X pins σ H s):interactive X.env=false:=by simp[interactive,I.ok.kind]
def Vu(te:TE):TS:=λD σ H=>te σ H λ_ H1=>D.nx σ H1
def Vv(he:PE X e te)(hs:swapsWith e none pos.line X.env=pure false:=by rfl):PS X (.Expr e pos) (Vu te):=by
 intro pins s σ H D I h;exact wpAny_Expr_any (aN (he pins s σ H _ I h) λv s1 ⟨x,H1,I1,r1,q1⟩=>⟨σ,H1,I1,q1⟩) I.quiet hs
def AT(te:TE):TS:=λD σ H=>te σ H D.rt
def Vw(he:PE X e te):PS X (.Return (some e) pos) (AT te):=by
 intro pins s σ H D I h;exact wpAny_Return_some<|aN (he pins s σ H _ I h) λv s1 ⟨x,H1,I1,r1,q1⟩=>⟨x,σ,H1,I1,r1,q1⟩
def AU(c:TT)(t u:TS):TS:=λD σ H=>c σ H λb H1=>if b=true then t D σ H1 else u D σ H1
theorem Vx{c:Expr}{a b:Ö}{tc:TT}(hc:PT X c tc)(ha:iU X a t)(hb:iU X b u):PS X (.If c a b pos) (AU tc t u):=by
 intro pins s σ H D I h;refine wpAny_If<|aN (hc pins s σ H _ I h) λd s1 ⟨H1,I1,q1⟩=>?_;cases d with
 | true=>exact ha pins s1 σ H1 D I1 q1
 | false=>exact hb pins s1 σ H1 D I1 q1
end
abbrev TG:=V->St->Hp->(St->Hp->Prop)->Prop
abbrev oU:=List V->St->Hp->(St->Hp->Prop)->Prop
def PG(X:Cx)(target:Expr)(t:TG):Prop:=
 ∀(pins:Ñ) (s:Shared) (σ:St) (H:Hp) (v:V) (u:Value) (Q:St->Hp->Prop),Inv X pins σ H s->RelV v u->t v σ H Q ->
  wpAny (model X.prog X.w) X.A (assign target X.env u) (λ_ s'=>∃ σ' H',Inv X pins σ' H' s'/\Q σ' H') X.xe s
def xA(X:Cx)(ts:Õ)(t:oU):Prop:=
 ∀(pins:Ñ) (s:Shared) (σ:St) (H:Hp) (vs:List V) (us:Ô) (Q:St->Hp->Prop),Inv X pins σ H s->ay vs us->t vs σ H Q ->
  wpAny (model X.prog X.w) X.A (assignInOrder ((assignEach ts X.env).map (·.2)) us) (λ_ s'=>∃ σ' H',Inv X pins σ' H' s'/\Q σ' H') X.xe s
section
variable{X:Cx}{pos:Pos}
def Ml(i:Nat):TG:=λv σ H Q=>Q (σ.set i<|some v) H
def Vy{i:Nat}{x:Str}(hN:X.N.Nodup)(hi:X.N[i]?=some x)(hx:Loc X.env.scope x)(hf:X.fn x=true\/X.env.scope.names.lookup x=some .local:=by first | exact .inl rfl | exact .inr rfl | assumption):PG X (.Name x pos) (Ml i):=by
 intro pins s σ H v u Q I r h;exact wpAny_assign_Name<|AG I hN hi hx r (λs' I'=>⟨_,H,I',h⟩) hf
def oV:oU:=λvs σ H Q=>vs=[]/\Q σ H
def rk(t:TG)(u:oU):oU:=λvs σ H Q=>∃ v r,vs=v :: r/\t v σ H λσ' H'=>u r σ' H' Q
def Mm:xA X [] oV:=by
 intro pins s σ H vs us Q I r h;obtain⟨e,h⟩:=h;subst e;cases r;exact assignInOrder_nil ⟨σ,H,I,h⟩
theorem tL{e:Expr}{es:Õ}{t:TG}{u:oU}(h1:PG X e t)(h2:xA X es u)
  (hs:(assignEach (e :: es) X.env).map (·.2)=assign e X.env :: (assignEach es X.env).map (·.2):=by rfl):xA X (e :: es) (rk t u):=by
 intro pins s σ H vs us Q I r h;obtain⟨v,vr,e1,h⟩:=h;subst e1;cases r with
 | cons r rr=>
  rw[hs];refine assignInOrder_cons<|aN (h1 pins s σ H _ _ _ I r h) λ_ s1 ⟨σ1,H1,I1,q1⟩=>?_;exact h2 pins s1 σ1 H1 _ _ Q I1 rr q1
def AV(K:PySem.W.Frag)(n:Nat)(t:oU):TG:=λv σ H Q=>∃ a xs,v = .ref a/\aJ K H a xs/\xs.length=n/\t xs σ H Q
def Mp{es:Õ}{k:Nat}{t:oU}{n:Nat}(hc:X.calm=true)(h:xA X es t)
  (hn:(assignEach es X.env).length=n:=by rfl) (cn:(assignEach es X.env).findIdx? (·.1)=none:=by rfl):PG X (.Tuple es k pos) (AV X.K n t):=by
 intro pins s σ H v u Q I r hw;obtain⟨a,xs,e1,hq,hl,hw⟩:=hw;subst e1;cases r;obtain⟨its,rv,ht,hz⟩:=I.tuple hq;refine assign_Tuple_tuple (I.ok.hd hc) ht (by simp[hn,<- hl,rv.length]) cn λh' hx=>?_;have I1:Inv X pins σ H {s with heap:=h'}:=I.kept (t':=s.toks) λb o e=>hx b o (Bm<|Aq e) e;exact h pins _ σ H xs _ Q I1 (by simpa using rv) hw
def tM(te:TE)(g:TG):TS:=λD σ H=>te σ H λx H1=>g x σ H1 D.nx
def Vz{tg e:Expr}{te:TE}{g:TG}(he:PE X e te)(hg:PG X tg g)(hs:swapsWithSole [tg] e pos.line X.env=pure false:=by rfl)(hw:swappedStores [tg] e X.env=pure none:=by rfl)
  (h1:(assignEach [tg] X.env).map (·.2)=[assign tg X.env]:=by rfl):PS X (.Assign [tg] e pos) (tM te g):=by
 intro pins s σ H D I h;refine wpAny_Assign_stores (aN (he pins s σ H _ I h) λv s1 ⟨x,H1,I1,r1,q1⟩=>?_) hs hw;rw[h1];exact aN (hg pins s1 σ H1 x v _ I1 r1 q1) λ_ s2 q=>q
def VA{i:Nat}{x:Str}{e:Expr}{te:TE}{pos':Pos}(hN:X.N.Nodup)(hi:X.N[i]?=some x)(hx:Loc X.env.scope x)(he:PE X e te)(hs:swapsWith e (some<|.Name x pos') pos.line X.env=pure false:=by rfl)(hf:X.fn x=true\/X.env.scope.names.lookup x=some .local:=by first | exact .inl rfl | exact .inr rfl | assumption) :
  PS X (.Assign [.Name x pos'] e pos) (tM te<|Ml i):=by
 intro pins s σ H D I h;refine wpAny_Assign_Name (aN (he pins s σ H _ I h) λv s1 ⟨y,H1,I1,r1,q1⟩=>?_) hs;exact AG I1 hN hi hx r1 (λs2 I2=>⟨_,H1,I2,q1⟩) hf
def VC(c:TT)(tb:TS):TS:=λD σ H=>∃ W:Nat->St->Hp->Prop,(∃ m,W m σ H)/\∀ m σ H,W m σ H ->
 c σ H λb H1=>if b=true then ∃ N:St->Hp->Prop,(∀ σ' H',N σ' H'->∃ m',m' < m/\W m' σ' H')/\tb {D with nx:=N,ct:=N,bk:=D.nx} σ H1 else D.nx σ H1
theorem VE{c:Expr}{body:Ö}{tc:TT}{tb:TS}(hp:PassesOwn (model X.prog X.w) X.A X.env X.xe)(hc:PT X c tc)(hb:iU X body tb):PS X (.While c body [] pos) (VC tc tb):=by
 intro pins s σ H D I h;obtain⟨W,⟨m0,w0⟩,turn⟩:=h;refine wpAny_While<|codeAny_whileLoop (λn s'=>∃ σ' H',Inv X pins σ' H' s'/\W n σ' H') ?_ m0 ⟨σ,H,I,w0⟩;rintro n s1 ⟨σ1,H1,I1,w1⟩;refine HW hp<|aN (hc pins s1 σ1 H1 _ I1<|turn n σ1 H1 w1) λb s2 ⟨H2,I2,q2⟩=>?_;cases b with
 | true=>
  obtain⟨N,hN,q2⟩:=q2;rw[BP rfl];refine HW hp<|aN (hb pins s2 σ1 H2 _ I2 q2) λf s3 q3=>?_;cases f with
  | next=>
   obtain⟨σ3,H3,I3,n3⟩:=q3;obtain⟨m',hm,w3⟩:=hN σ3 H3 n3;exact⟨m',hm,σ3,H3,I3,w3⟩
  | cont=>
   obtain⟨σ3,H3,I3,n3⟩:=q3;obtain⟨m',hm,w3⟩:=hN σ3 H3 n3;exact⟨m',hm,σ3,H3,I3,w3⟩
  | brk=>exact q3
  | ret v=>exact q3
 | false=>
  rw[BL Av];exact RW ⟨σ1,H2,I2,q2⟩
end
structure It where
 go:Nat->Hp->Prop
 tN:Nat->Hp->V->Hp->Prop
 stop:Nat->Hp->Prop
def cf(X:Cx)(pins:Ñ)(H:Hp)(b:Addr):Prop:=
 H b=none/\b≠X.env.locals/\b∉X.fs/\(b∈X.ex\/X.s₀.heap.objs.size<=b)/\(∀ x c,X.env.cells.lookup x=some c->c≠b)/\∀ p∈X.pn++pins,p.1≠b
def Inv.jM{X:Cx}{pins:Ñ}{σ:St}{H H':Hp}{s:Shared}{b:Addr}(I:Inv X pins σ H s)(hb:s.heap.objs.size<=b)(hn:H' b=none):cf X pins H' b:=by
 refine⟨hn,Cp<|Be I.lt hb,I.AA hb,.inr<|By I.sz hb,λx c e z=>?_,λp hp z=>?_⟩
 ·obtain⟨v,q⟩:=I.cell x c e;exact absurd (Be q.lt<|by rw[z];exact hb)<|Cv _
 ·exact absurd (Be (Aq (I.pin p hp).1)<|by rw[z];exact hb)<|Cv _
structure Turn(P:Program)(w:World)(K:PySem.W.Frag)(tg:Expr)(J:It)(fp:List Addr)(it:Addr)(tn:Nat->Heap->Prop):Prop where
 mem:it∈fp
 obj:∀ i h,tn i h->∀ b∈fp,∃ o,h.get? b=some o/\∀ v,o.data ≠ .cell v
 keep:∀ i h h',tn i h->(∀ b∈fp,∀ o,h.get? b=some o->h'.get? b=some o)->tn i h'
 item:∀(X:Cx),X.prog=P->X.w=w->X.K=K->X.calm=true->∀(i:Nat) (pins:Ñ) (s:Shared) (σ:St) (H:Hp) (E:Ï),Inv X pins σ H s->(∀ b∈fp,cf X pins H b)->tn i s.heap->J.go i H ->
  wpAny (model P w) X.A (pyNext<|.ref it) (λr s1=>∃ u,r=some u /\
   wpAny (model P w) X.A (letOwnedTupleGo tg (.ref it) u) (λ_ s2=>∃ x H',Inv X pins σ H' s2/\RelV x u/\J.tN i H x H'/\tn (i+1) s2.heap/\∀ b∈fp,H' b=none) E s1) E s
 done:∀(X:Cx),X.prog=P->X.w=w->X.K=K->X.calm=true->∀(i:Nat) (pins:Ñ) (s:Shared) (σ:St) (H:Hp) (E:Ï),Inv X pins σ H s->(∀ b∈fp,cf X pins H b)->tn i s.heap->J.stop i H ->
  wpAny (model P w) X.A (pyNext<|.ref it) (λr s1=>r=none/\Inv X pins σ H s1) E s
 self:∀(A:Around) (i:Nat) (s:Shared) (Q:Ï) (E:Ï),tn i s.heap->Q (.ref it) s->wpAny (model P w) A (pyIter<|.ref it) Q E s
abbrev TI:=St->Hp->(It->Hp->Prop)->Prop
def Mq(X:Cx)(pins:Ñ)(σ:St)(tg:Expr)(R:It->Hp->Prop)(nF:Value)(s2:Shared):Prop:=
 ∃(it:Addr) (fp:List Addr) (tn:Nat->Heap->Prop) (J:It) (H':Hp),nF = .ref it/\Inv X pins σ H' s2/\Turn X.prog X.w X.K tg J fp it tn/\tn 0 s2.heap/\(∀ b∈fp,cf X pins H' b)/\R J H'
def PI(X:Cx)(tg iter:Expr)(wi:TI):Prop:=
 ∀(pins:Ñ) (s:Shared) (σ:St) (H:Hp) (R:It->Hp->Prop),Inv X pins σ H s->wi σ H R ->
  wpAny (model X.prog X.w) X.A (eval iter X.env) (λv s1=>wpAny (model X.prog X.w) X.A (pyIter v) (Mq X pins σ tg R) X.xe s1) X.xe s
def AW{M:Model}{A:Around}{E:Ï}{s:Shared}{tg:Expr}{it:Addr}{u:Value}{o:Obj}{n:String}{vs:Array Value}{Q:Unit->Shared->Prop}(ho:s.heap.get? it=some o)(hc:o.cls = .type n)(hd:o.data = .fields vs)
    (hn:["enumerate","zip","dict_itemiterator","dict_reverseitemiterator","odict_iterator","itertools.zip_longest","itertools.pairwise"].contains n=false) (hQ:Q () s):wpAny M A (letOwnedTupleGo tg (.ref it) u) Q E s:=by
  unfold letOwnedTupleGo;cases tg <;> first
    | exact BK hQ
    | (cases u <;> first
        | exact BK hQ
        | (refine BJ<|wpAny_load ho ?_
           rw[hc,hd];show wpAny M A (if(["enumerate","zip","dict_itemiterator","dict_reverseitemiterator","odict_iterator","itertools.zip_longest","itertools.pairwise"].contains n && vs[0]? == some (rawInt _))=true then _ else _) Q E s;rw[BL<|by intro h;rw[hn,TJ]at h;cases h];exact BK hQ))
def oW(K:PySem.W.Frag)(a:Addr):It:=
 ⟨λi H=>∃ xs x,aq K H a xs/\xs[i]?=some x,λi H x H'=>H'=H/\∀ xs,aq K H a xs->xs[i]?=some x,λi H=>∃ xs,aq K H a xs/\xs.length<=i⟩
def VF(K:PySem.W.Frag)(a:Addr):It:=
 ⟨λi H=>∃ xs x,aJ K H a xs/\xs[i]?=some x,λi H x H'=>H'=H/\∀ xs,aJ K H a xs->xs[i]?=some x,λi H=>∃ xs,aJ K H a xs/\xs.length<=i⟩
def rm(lo:Int)(n:Nat):It:=⟨λi _=>i < n,λi H x H'=>H'=H/\x = .int (lo+i),λi _=>n<=i⟩
def VG{P:Program}{w:World}{K:PySem.W.Frag}{tg:Expr}(a it:Addr):Turn P w K tg (oW K a) [it] it (λi h=>h.IsListIter it a i) where
 mem:=by simp
 obj:=λi h st b hb=>by
  have e:b=it:=by simpa using hb
  subst e;obtain⟨o,e,c,d⟩:=st;exact⟨o,e,λv z=>by rw[d]at z;cases z⟩
 keep:=λi h h' st k=>st.at λo e=>k it (by simp) o e
 item:=by
  intro X hP hw hK hc i pins s σ H E I hf st hg;subst hP hw hK;obtain⟨xs,x,hq,hx⟩:=hg;obtain⟨its,rv,p,hz⟩:=I.list hq;obtain⟨u,hu,ru⟩:=rv.get hx;obtain⟨f0,f1,f2,f3,f4,f5⟩:=hf it (by simp);refine wpAny_pyNext_list_item st p.isList (x:=u) (by simpa using hu) λh' dC sb=>?_;have I1:Inv X pins σ H {s with heap:=h'}:=I.turned (t':=s.toks) (λb o hb e=>(sb.2 b hb).trans e) f0 f1 f3 f4 f5;obtain⟨o,e,c,d⟩:=id dC;exact⟨u,rfl,AW (s:={s with heap:=h'}) e c d (by decide) ⟨x,H,I1,ru,⟨rfl,λys hy=>by rw[I.dM hy hq];exact hx⟩,dC,λb hb=>(hf b hb).1⟩⟩
 done:=by
  intro X hP hw hK hc i pins s σ H E I hf st hg;subst hP hw hK;obtain⟨xs,hq,hx⟩:=hg;obtain⟨its,rv,p,hz⟩:=I.list hq;obtain⟨f0,f1,f2,f3,f4,f5⟩:=hf it (by simp);have hl:=rv.length;exact wpAny_pyNext_list_end (I.ok.hd hc) st p.isList (by simp;omega) λh' eb=>⟨rfl,I.turned (t':=s.toks) (λb o hb e=>eb b o hb e) f0 f1 f3 f4 f5⟩
 self:=λ_ _ _ _ _ st h=>wpAny_pyIter_listiter st h
def VH{P:Program}{w:World}{K:PySem.W.Frag}{tg:Expr}(it:Addr)(lo:Int)(n:Nat):Turn P w K tg (rm lo n) [it] it (λi h=>IsRangeIter h it (lo+(i:Nat) * 1) ((n:Int) - (i:Nat)) 1) where
 mem:=by simp
 obj:=λi h st b hb=>by
  have e:b=it:=by simpa using hb
  subst e;exact⟨_,st,λv z=>by
   have z':Data.fields _=Data.cell v:=z;cases z'⟩
 keep:=λi h h' st k=>k it (by simp) _ st
 item:=by
  intro X hP hw hK hc i pins s σ H E I hf st hg;subst hP hw hK;obtain⟨f0,f1,f2,f3,f4,f5⟩:=hf it (by simp);have W:=Walks.range (prog:=X.prog) (w:=X.w) (I.ok.hd hc) it lo 1 n;refine W.item i s _ _ hg st λv h' tk hv dC kk=>?_;obtain⟨t,rfl⟩:=hv;have I1:Inv X pins σ H {s with heap:=h',toks:=tk}:=I.turned (λb o hb e=>kk b o (by simpa using hb) e) f0 f1 f3 f4 f5;refine⟨_,rfl,AW (s:={s with heap:=h',toks:=tk}) (n:= "range_iterator") dC rfl rfl (by decide) ⟨.int<|lo+i,H,I1,⟨t,?_⟩,⟨rfl,rfl⟩,dC,λb hb=>(hf b hb).1⟩⟩;rw[Int.mul_one]
 done:=by
  intro X hP hw hK hc i pins s σ H E I hf st hg;subst hP hw hK;obtain⟨f0,f1,f2,f3,f4,f5⟩:=hf it (by simp);exact wpAny_pyNext_range_end (I.ok.hd hc) st (by have:n<=i:=hg;omega) λh' eb=>⟨rfl,I.turned (t':=s.toks) (λb o hb e=>eb b o hb e) f0 f1 f3 f4 f5⟩
 self:=λ_ _ _ _ _ st h=>wpAny_pyIter_rangeiter st h
section
variable{X:Cx}{tg:Expr}
def VI(K:PySem.W.Frag)(tl:TE):TI:=λσ H R=>tl σ H λx H1=>∃ a,x = .ref a/\(∃ xs,aq K H1 a xs)/\R (oW K a) H1
def fU{l:Expr}{tl:TE}(hl:PE X l tl):PI X tg l (VI X.K tl):=by
 intro pins s σ H R I h;refine aN (hl pins s σ H _ I h) λv s1 ⟨x,H1,I1,r1,q1⟩=>?_;obtain⟨a,e,⟨xs,hq⟩,q⟩:=q1;subst e;cases r1;obtain⟨its,rv,p,hz⟩:=I1.list hq;refine QV p.isList ?_;refine⟨s1.heap.objs.size,[s1.heap.objs.size],_,_,H1,rfl,I1.kept (t':=s1.toks) λb o e=>Ag _ e,VG a _,⟨_,At _ rfl,rfl,rfl⟩,λb hb=>?_,q⟩;have e:b=s1.heap.objs.size:=by simpa using hb
 subst e;exact I1.jM (An _)<|I1.aE.fresh<|An _
def VJ{pins:Ñ}{σ:St}{H:Hp}{s:Shared}{R:It->Hp->Prop}{E:Ï}{lo hi:Int}{t u v:Tok}{tk:Nat}(I:Inv X pins σ H s)(h1:-(2 ^ 62)<=lo)(h2:lo < 2 ^ 62)(h3:-(2 ^ 62)<=hi)(h4:hi < 2 ^ 62)
  (q:R (rm lo (hi - lo).toNat) H):wpAny (model X.prog X.w) X.A (pyIter<|.ref s.heap.objs.size) (Mq X pins σ tg R) E {s with heap:=s.heap.push {cls:= .type "range",data:= .fields #[.int lo t,.int hi u,.int 1 v]},toks:=tk}:=by
 refine wpAny_pyIter_range (IsRange.new ..) (small_one h1 h2 h3 h4) ?_;have I1:Inv X pins σ H {s with heap:=s.heap.push {cls:= .type "range",data:= .fields #[.int lo t,.int hi u,.int 1 v]},toks:=tk}:=I.kept λb o e=>Ag _ e;refine⟨(s.heap.push {cls:= .type "range",data:= .fields #[.int lo t,.int hi u,.int 1 v]}).objs.size,[(s.heap.push {cls:= .type "range",data:= .fields #[.int lo t,.int hi u,.int 1 v]}).objs.size],_,_,H,rfl,
  I1.kept (t':=tk) λb o e=>Ag _ e,VH _ lo (hi - lo).toNat,?_,λb hb=>?_,q⟩
 ·have e1:lo+((0:Nat):Int) * 1=lo:=by simp
  have e2:(((hi - lo).toNat:Nat):Int) - ((0:Nat):Int)=Builtin.Range.rangeSize lo hi 1:=by rw[rangeSize_one];split <;> omega
  show IsRangeIter _ _ (lo+((0:Nat):Int) * 1) ((((hi - lo).toNat:Nat):Int) - ((0:Nat):Int)) 1;rw[e1,e2];exact At _ rfl
 ·have e:b=(s.heap.push {cls:= .type "range",data:= .fields #[.int lo t,.int hi u,.int 1 v]}).objs.size:=by simpa using hb
  subst e;exact I1.jM (An _)<|I1.aE.fresh<|An _
def Mr(ta:TA):TI:=λσ H R=>ta σ H λvs H1=>∃ j:Int,vs=[.int j]/\-(2 ^ 62)<=j/\j < 2 ^ 62/\R (rm 0 j.toNat) H1
theorem Mt{a:Expr}{ta:TA}{p pos:Pos}(hg:Gl X "range")(hm:X.mg "range" = none)(ha:PA X [a] ta)(hs:starEach [a] X.env=[(false,eval a X.env)]:=by rfl):PI X tg (.Call (.Name "range" p) [a] [] pos) (Mr ta):=by
 intro pins s σ H R I h;refine Call_<|oR I hg hm boot_range<|JQ (aN (ha pos pins s σ H _ I h) λus s1 ⟨vs,H1,I1,r1,q1⟩=>?_) hs rfl;obtain⟨j,e,q1,q2,q⟩:=q1;subst e;cases r1 with
 | cons r rr=>
  cases rr;obtain⟨t,rfl⟩:=r;exact call_range_1<|VJ I1 (by omega) (by omega) q1 q2<|by simpa using q
def AX(wi:TI)(g:TG)(tb:TS):TS:=λD σ H=>wi σ H λJ H1=>∃ W:Nat->Nat->St->Hp->Prop,(∃ m,W 0 m σ H1)/\∀ i m σ H,W i m σ H ->
 (J.stop i H/\D.nx σ H)\/(J.go i H/\∃ N:St->Hp->Prop,(∀ σ' H',N σ' H'->∃ m',m' < m/\W (i+1) m' σ' H')/\∀ x H',J.tN i H x H'->g x σ H' λσ2 H2=>tb {D with nx:=N,ct:=N,bk:=D.nx} σ2 H2)
def tO(fp:List Addr)(h:Heap):Ñ:=fp.filterMap λb=>(h.get? b).map λo=>(b,o)
def xB{fp:List Addr}{h:Heap}{b:Addr}{o:Obj}(hb:b∈fp)(e:h.get? b=some o):(b,o)∈tO fp h:=Ft.mpr ⟨b,hb,by rw[e];rfl⟩
theorem VL{fp:List Addr}{h:Heap}{p:Addr×Obj}(hp:p∈tO fp h):p.1∈fp/\h.get? p.1=some p.2:=by
 obtain⟨b,hb,e⟩:=Ft.mp hp;cases q:h.get? b with
 | none=>rw[q]at e;cases e
 | some o=>
  rw[q]at e;have e':(b,o)=p:=Option.some.inj e;subst e';exact⟨hb,q⟩
def Inv.pinned{pins:Ñ}{σ:St}{H:Hp}{s:Shared}{fp:List Addr}(I:Inv X pins σ H s)(hf:∀ b∈fp,cf X pins H b)(ho:∀ b∈fp,∃ o,s.heap.get? b=some o/\∀ v,o.data ≠ .cell v):Inv X (pins++tO fp s.heap) σ H s:=
 I.iq λp hp=>(Am.mp hp).elim (λz=>I.pin p<|Ax _ z) λz=>by
  obtain⟨hb,e⟩:=VL z;obtain⟨f0,f1,f2,_⟩:=hf p.1 hb;obtain⟨o,e',d⟩:=ho p.1 hb;rw[e]at e';cases e';exact⟨e,f0,f1,f2,d⟩
def Inv.cO{pins pl:Ñ}{σ:St}{H:Hp}{s:Shared}(I:Inv X (pins++pl) σ H s):Inv X pins σ H s:=I.iq λp hp=>I.pin p<|Ax _<|Ba _ hp
def VM{iter:Expr}{body:Ö}{wi:TI}{g:TG}{tb:TS}{pos:Pos}(hp:PassesOwn (model X.prog X.w) X.A X.env X.xe)(hc:X.calm=true)(hi:PI X tg iter wi)(hg:PG X tg g)(hb:iU X body tb)
  (hs:∀ x,foldedSetIterable iter X.env x=pure x:=by intro _;rfl):PS X (.For tg iter body [] pos) (AX wi g tb):=by
 intro pins s σ H D I h;refine wpAny_For (aN (hi pins s σ H _ I h) λv s1 h1=>aN h1 λnF s2 h2=>?_) hs;obtain⟨it,fp,tn,J,H2,e,I2,T,fJ,f2,W,⟨m0,w0⟩,turn⟩:=h2;subst e;have stat:∀{H':Hp},(∀ b∈fp,H' b=none)->∀ b∈fp,cf X pins H' b:=λhn b hb=>⟨hn b hb,(f2 b hb).2⟩;refine codeAny_forLoop_any (λn s'=>∃ i σ' H',Inv X pins σ' H' s'/\tn i s'.heap/\(∀ b∈fp,H' b=none)/\W i n σ' H') ?_ m0 ⟨0,σ,H2,I2,fJ,λb hb=>(f2 b hb).1,w0⟩;rintro n s3 ⟨i,σ3,H3,I3,Mu,Mv,w3⟩
 rcases turn i n σ3 H3 w3 with ⟨stop,qn⟩ | ⟨go,N,hN,step⟩
 ·refine HW hp<|aN (T.done X rfl rfl rfl hc i pins s3 σ3 H3 X.xe I3 (stat Mv) Mu stop) λr s4 ⟨hr,I4⟩=>?_;subst hr;exact RW ⟨σ3,H3,I4,qn⟩
 ·refine HW hp<|aN (T.item X rfl rfl rfl hc i pins s3 σ3 H3 X.xe I3 (stat Mv) Mu go) λr s4 ⟨u,hr,h4⟩=>?_;subst hr;refine HW hp<|aN h4 λ_ s5 ⟨x,H5,I5,r5,y5,AY,VN⟩=>?_;have VO:=I5.pinned (stat VN)<|T.obj _ _ AY;refine HW hp<|aN (hg _ s5 σ3 H5 x u _ VO r5<|step x H5 y5) λ_ s6 ⟨σ6,H6,I6,q6⟩=>?_;refine HW hp<|aN (hb _ s6 σ6 H6 _ I6 q6) λf s7 q7=>?_;have again:∀{σ7:St} {H7:Hp},Inv X (pins++tO fp s5.heap) σ7 H7 s7->N σ7 H7->∃ m,m < n/\∃ i σ' H',Inv X pins σ' H' s7/\tn i s7.heap/\(∀ b∈fp,H' b=none)/\W i m σ' H':=λ{σ7 H7} I7 n7=>by
   obtain⟨m',hm,w7⟩:=hN σ7 H7 n7;refine⟨m',hm,i+1,σ7,H7,I7.cO,T.keep _ _ _ AY λb hb o e=>(I7.pin (b,o)<|Ax _<|Ax _<|xB hb e).1,λb hb=>?_,w7⟩;obtain⟨o,e,d⟩:=T.obj _ _ AY b hb;exact(I7.pin (b,o)<|Ax _<|Ax _<|xB hb e).2.1
  cases f with
  | next=>obtain⟨σ7,H7,I7,n7⟩:=q7;exact again I7 n7
  | cont=>obtain⟨σ7,H7,I7,n7⟩:=q7;exact again I7 n7
  | brk=>obtain⟨σ7,H7,I7,q7⟩:=q7;exact⟨σ7,H7,I7.cO,q7⟩
  | ret v=>obtain⟨x7,σ7,H7,I7,r7,q7⟩:=q7;exact⟨x7,σ7,H7,I7.cO,r7,q7⟩
end
abbrev R2:=V->V->Hp->VK->Prop
def cK(X:Cx)(f:Value->Value->Sem Value)(r:R2):Prop:=
 ∀(pins:Ñ) (s:Shared) (σ:St) (H:Hp) (x y:V) (v u:Value) (Q:VK),Inv X pins σ H s->RelV x v->RelV y u->r x y H Q ->
  wpAny (model X.prog X.w) X.A (f v u) (EP X pins σ Q) X.xe s
def xC(X:Cx)(f:Value->Sem Value)(r:V->Hp->VK->Prop):Prop:=
 ∀(pins:Ñ) (s:Shared) (σ:St) (H:Hp) (x:V) (v:Value) (Q:VK),Inv X pins σ H s->RelV x v->r x H Q ->
  wpAny (model X.prog X.w) X.A (f v) (EP X pins σ Q) X.xe s
def eZ(X:Cx)(f:Value)(r:List V->Hp->VK->Prop):Prop:=
 ∀(pins:Ñ) (s:Shared) (σ:St) (H:Hp) (xs:List V) (us:Ô) (Q:VK),Inv X pins σ H s->ay xs us->r xs H Q ->
  wpAny (model X.prog X.w) X.A (call f us) (EP X pins σ Q) X.xe s
def AZ(X:Cx)(r:V->Hp->(Bool->Hp->Prop)->Prop):Prop:=
 ∀(pins:Ñ) (s:Shared) (σ:St) (H:Hp) (x:V) (v:Value) (Q:Bool->Hp->Prop),Inv X pins σ H s->RelV x v->r x H Q ->
  wpAny (model X.prog X.w) X.A (truthy v) (TP X pins σ Q) X.xe s
def xD(r:R2)(ta tb:TE):TE:=λσ H Q=>ta σ H λx H1=>tb σ H1 λy H2=>r x y H2 Q
def VP(r:V->Hp->VK->Prop)(ta:TE):TE:=λσ H Q=>ta σ H λx H1=>r x H1 Q
def rI(C:Int->Int->Prop)(g:Int->Int->V):R2:=λx y H Q=>∃ i j,x = .int i/\y = .int j/\C i j/\Q (g i j) H
def ro(g:Int->Int->V):R2:=λx y H Q=>∃ i j,x = .int i/\y = .int j/\Q (g i j) H
def rU(g:Int->V):V->Hp->VK->Prop:=λx H Q=>∃ i,x = .int i/\Q (g i) H
section
variable{X:Cx}{a b c:Expr}{ta tb tc:TE}{pos:Pos}
def oX(ha:PE X a ta)(hb:PE X b tb){pins:Ñ}{s:Shared}{σ:St}{H:Hp}{R:V->V->Hp->Prop}(I:Inv X pins σ H s)
  (h:ta σ H λx H1=>tb σ H1 λy H2=>R x y H2) {Q:Ï} {f:Value->Value->Sem Value}
  (hf:∀ v u s2 x y H2,Inv X pins σ H2 s2->RelV x v->RelV y u->R x y H2->wpAny (model X.prog X.w) X.A (f v u) Q X.xe s2) :
  wpAny (model X.prog X.w) X.A (eval a X.env) (λv À=>wpAny (model X.prog X.w) X.A (eval b X.env) (λu Á=>wpAny (model X.prog X.w) X.A (f v u) Q X.xe Á) X.xe À) X.xe s:=by
 refine aN (ha pins s σ H _ I h) λv s1 ⟨x,H1,I1,r1,q1⟩=>?_;refine aN (hb pins s1 σ H1 _ I1 q1) λu s2 ⟨y,H2,I2,r2,q2⟩=>?_;exact hf v u s2 x y H2 I2 r1 r2 q2
def VQ{op:Operator}{r:R2}(ho:cK X (binaryOp op) r)(ha:PE X a ta)(hb:PE X b tb):PE X (.BinOp a op b pos) (xD r ta tb):=by
 intro pins s σ H Q I h;exact wpAny_BinOp<|oX ha hb I h λv u s2 x y H2 I2 rx ry q=>ho pins s2 σ H2 x y v u Q I2 rx ry q
def VR{op:UnaryOp}{r:V->Hp->VK->Prop}(ho:xC X (unaryOp op) r)(ha:PE X a ta):PE X (.UnaryOp op a pos) (VP r ta):=by
 intro pins s σ H Q I h;exact UnaryOp_<|aN (ha pins s σ H _ I h) λv s1 ⟨x,H1,I1,r1,q1⟩=>ho pins s1 σ H1 x v Q I1 r1 q1
def xE{f:Value->Value->Sem Value}{C:Int->Int->Prop}{g:Int->Int->Int}
  (rule:∀(i j:Int) (t u:Tok) (s:Shared) (Q:Ï) (E:Ï),C i j->Q (.int (g i j) s.toks) {s with toks:=s.toks+1}->wpAny (model X.prog X.w) X.A (f (.int i t)<|.int j u) Q E s) :
  cK X f (rI C λi j=> .int<|g i j):=by
 intro pins s σ H x y v u Q I rx ry h;obtain⟨i,j,rfl,rfl,hc,q⟩:=h;obtain⟨t,rfl⟩:=rx;obtain⟨t',rfl⟩:=ry;exact rule i j t t' s _ _ hc ⟨.int<|g i j,H,I.tok _,⟨_,rfl⟩,q⟩
def tP{f:Value->Value->Sem Value}{g:Int->Int->Int}
  (rule:∀(i j:Int) (t u:Tok) (s:Shared) (Q:Ï) (E:Ï),Q (.int (g i j) s.toks) {s with toks:=s.toks+1}->wpAny (model X.prog X.w) X.A (f (.int i t)<|.int j u) Q E s) :
  cK X f (ro λi j=> .int<|g i j):=by
 intro pins s σ H x y v u Q I rx ry h;obtain⟨i,j,rfl,rfl,q⟩:=h;obtain⟨t,rfl⟩:=rx;obtain⟨t',rfl⟩:=ry;exact rule i j t t' s _ _ ⟨.int<|g i j,H,I.tok _,⟨_,rfl⟩,q⟩
def tQ{f:Value->Value->Sem Value}{g:Int->Int->Bool}
  (rule:∀(i j:Int) (t u:Tok) (s:Shared) (Q:Ï) (E:Ï),Q (.bool<|g i j) s->wpAny (model X.prog X.w) X.A (f (.int i t)<|.int j u) Q E s) :
  cK X f (ro λi j=> .bl<|g i j):=by
 intro pins s σ H x y v u Q I rx ry h;obtain⟨i,j,rfl,rfl,q⟩:=h;obtain⟨t,rfl⟩:=rx;obtain⟨t',rfl⟩:=ry;exact rule i j t t' s _ _ ⟨.bl<|g i j,H,I,rfl,q⟩
def tR(i j:Int):Prop:=0 < j/\j < 1073741824
def A0(i j:Int):Prop:=0<=j/\j<=1000000/\i.natAbs < 2 ^ 64
def oY(i j:Int):Prop:=(-(2 ^ 64) < i/\i < 2 ^ 64)\/(-(2 ^ 64) < j/\j < 2 ^ 64)
def oY.ok{i j:Int}(h:oY i j):IntMulOk i j:=by
 rcases h with ⟨h1,h2⟩ | ⟨h1,h2⟩
 ·exact .of_left<|intBits_le_64 h1 h2
 ·exact .of_right<|intBits_le_64 h1 h2
def gM:cK X (binaryOp .Add) (ro λi j=> .int<|i+j):=tP λ_ _ _ _ _ _ _ q=>add_int q
def Mw:cK X (binaryOp .Sub) (ro λi j=> .int<|i - j):=tP λ_ _ _ _ _ _ _ q=>sub_int q
def xF:cK X (binaryOp .Mult) (rI oY λi j=> .int<|i * j):=xE λ_ _ _ _ _ _ _ hc q=>mul_int q hc.ok
def iV:cK X (binaryOp .FloorDiv) (rI tR λi j=> .int<|i / j):=xE λi j _ _ _ _ _ hc q=>by
 have h1:(0:Int) < j:=hc.1;have h2:j < 1073741824:=hc.2;exact floordiv_int (by omega) (by rw[Int.fdiv_eq_ediv_of_nonneg i<|by omega];exact q)<|.inl<|PyProof.noPylong_small<|by omega
def cL:cK X (binaryOp .Mod) (rI (λ_ j=>0 < j) λi j=> .int<|i % j):=xE λi j _ _ _ _ _ hc q=>by
 have h1:(0:Int) < j:=hc;exact mod_int' (by omega)<|by rw[Int.fmod_eq_emod_of_nonneg i<|by omega];exact q
def Mx:cK X (binaryOp .Pow) (rI A0 λi j=> .int<|i ^ j.toNat):=xE λ_ _ _ _ _ _ _ hc q=>pow_int_small hc.1 hc.2.1 hc.2.2 q
def VS{f:Value->Sem Value}{g:Int->Int}
  (rule:∀(i:Int) (t:Tok) (s:Shared) (Q:Ï) (E:Ï),Q (.int (g i) s.toks) {s with toks:=s.toks+1}->wpAny (model X.prog X.w) X.A (f<|.int i t) Q E s) :
  xC X f (rU λi=> .int<|g i):=by
 intro pins s σ H x v Q I rx h;obtain⟨i,rfl,q⟩:=h;obtain⟨t,rfl⟩:=rx;exact rule i t s _ _ ⟨.int<|g i,H,I.tok _,⟨_,rfl⟩,q⟩
def My:xC X (unaryOp .USub) (rU λi=> .int (-i)):=VS λ_ _ _ _ _ q=>neg_int q
def tT:V->V->Bool
 | .non,.non=>true | .non,.int _=>true | .int _,.non=>true | .non,.bl _=>true | .bl _,.non=>true | .non,.str _=>true | .str _,.non=>true
 | .int _,.int _=>true | .bl _,.bl _=>true | .str _,.str _=>true | .iT _,.iT _=>true
 | .int _,.str _=>true | .str _,.int _=>true | .bl _,.str _=>true | .str _,.bl _=>true
 | _,_=>false
def VU:R2:=λx y H Q=>tT x y=true/\Q (.bl<|decide (x=y)) H
def VV:R2:=λx y H Q=>tT x y=true/\Q (.bl (!decide (x=y))) H
def Mz{i j:Int}:decide (V.int i=V.int j)=(i == j):=by
 rw[Cn];simp
def xG{i j:Bool}:decide (V.bl i=V.bl j)=(i == j):=by
 rw[Cn];simp
def MA{i j:Str}:decide (V.str i=V.str j)=(i == j):=by
 rw[Cn];simp
def MB{i j:Array UInt8}:decide (V.iT i=V.iT j)=(i.toList == j.toList):=by
 rw[Cn];cases i;cases j;simp
def cB{pins:Ñ}{σ:St}{H:Hp}{s:Shared}{Q:VK}{k k':Bool}(I:Inv X pins σ H s)(q:Q (.bl k) H)(e:k=k'):EP X pins σ Q (.bool k') s:=by
 subst e;exact⟨.bl k,H,I,rfl,q⟩
theorem fV:cK X (compareOp .Eq) VU:=by
 intro pins s σ H x y v u Q I rx ry h;obtain⟨hs,q⟩:=h;cases x with
 | non=>
  cases rx;cases y with
  | non=>cases ry;exact PySem.EqNone.eq_none_none<|cB I q<|by simp
  | bl j=>cases ry;exact PySem.EqNone.eq_none_bool<|cB I q<|by simp
  | int j=>obtain⟨t',rfl⟩:=ry;exact PySem.EqNone.eq_none_int<|cB I q<|by simp
  | str j=>obtain⟨t',rfl⟩:=ry;exact PySem.EqNone.eq_none_str<|cB I q<|by simp
  | _=>exact absurd (show false=true from hs) Av
 | bl i=>
  cases rx;cases y with
  | non=>cases ry;exact PySem.EqNone.eq_bool_none<|cB I q<|by simp
  | bl j=>cases ry;exact eq_bool<|cB I q xG
  | str j=>obtain⟨t',rfl⟩:=ry;exact PySem.EqMixed.eq_bool_str<|cB I q<|by simp
  | _=>exact absurd (show false=true from hs) Av
 | int i=>
  obtain⟨t,rfl⟩:=rx;cases y with
  | non=>cases ry;exact PySem.EqNone.eq_int_none<|cB I q<|by simp
  | int j=>obtain⟨t',rfl⟩:=ry;exact eq_int<|cB I q Mz
  | str j=>obtain⟨t',rfl⟩:=ry;exact PySem.EqMixed.eq_int_str<|cB I q<|by simp
  | _=>exact absurd (show false=true from hs) Av
 | str i=>
  obtain⟨t,rfl⟩:=rx;cases y with
  | non=>cases ry;exact PySem.EqNone.eq_str_none<|cB I q<|by simp
  | bl j=>cases ry;exact PySem.EqMixed.eq_str_bool<|cB I q<|by simp
  | int j=>obtain⟨t',rfl⟩:=ry;exact PySem.EqMixed.eq_str_int<|cB I q<|by simp
  | str j=>obtain⟨t',rfl⟩:=ry;exact eq_str<|cB I q MA
  | _=>exact absurd (show false=true from hs) Av
 | iT i=>
  obtain⟨t,rfl⟩:=rx;cases y with
  | iT j=>obtain⟨t',rfl⟩:=ry;exact PySem.W.eq_bytes<|cB I q MB
  | _=>exact absurd (show false=true from hs) Av
 | _=>cases y <;> exact absurd (show false=true from hs) Av
theorem tU:cK X (compareOp .NotEq) VV:=by
 intro pins s σ H x y v u Q I rx ry h;obtain⟨hs,q⟩:=h;cases x with
 | non=>
  cases rx;cases y with
  | non=>cases ry;exact PySem.EqNone.ne_none_none<|cB I q<|by simp
  | bl j=>cases ry;exact PySem.EqNone.ne_none_bool<|cB I q<|by simp
  | int j=>obtain⟨t',rfl⟩:=ry;exact PySem.EqNone.ne_none_int<|cB I q<|by simp
  | str j=>obtain⟨t',rfl⟩:=ry;exact PySem.EqNone.ne_none_str<|cB I q<|by simp
  | _=>exact absurd (show false=true from hs) Av
 | bl i=>
  cases rx;cases y with
  | non=>cases ry;exact PySem.EqNone.ne_bool_none<|cB I q<|by simp
  | bl j=>cases ry;exact ne_bool<|cB I q<|BZ not xG
  | str j=>obtain⟨t',rfl⟩:=ry;exact PySem.EqMixed.ne_bool_str<|cB I q<|by simp
  | _=>exact absurd (show false=true from hs) Av
 | int i=>
  obtain⟨t,rfl⟩:=rx;cases y with
  | non=>cases ry;exact PySem.EqNone.ne_int_none<|cB I q<|by simp
  | int j=>obtain⟨t',rfl⟩:=ry;exact ne_int<|cB I q<|BZ not Mz
  | str j=>obtain⟨t',rfl⟩:=ry;exact PySem.EqMixed.ne_int_str<|cB I q<|by simp
  | _=>exact absurd (show false=true from hs) Av
 | str i=>
  obtain⟨t,rfl⟩:=rx;cases y with
  | non=>cases ry;exact PySem.EqNone.ne_str_none<|cB I q<|by simp
  | bl j=>cases ry;exact PySem.EqMixed.ne_str_bool<|cB I q<|by simp
  | int j=>obtain⟨t',rfl⟩:=ry;exact PySem.EqMixed.ne_str_int<|cB I q<|by simp
  | str j=>obtain⟨t',rfl⟩:=ry;exact ne_str<|cB I q<|BZ not MA
  | _=>exact absurd (show false=true from hs) Av
 | iT i=>
  obtain⟨t,rfl⟩:=rx;cases y with
  | iT j=>obtain⟨t',rfl⟩:=ry;exact PySem.W.ne_bytes<|cB I q<|BZ not MB
  | _=>exact absurd (show false=true from hs) Av
 | _=>cases y <;> exact absurd (show false=true from hs) Av
def VW:cK X (compareOp .Lt) (ro λi j=> .bl<|decide (i < j)):=tQ λ_ _ _ _ _ _ _ q=>lt_int q
def MC:cK X (compareOp .Gt) (ro λi j=> .bl<|decide (j < i)):=tQ λ_ _ _ _ _ _ _ q=>gt_int q
def VX:cK X (compareOp .Lt) (λx y H Q=>∃ i j,x = .str i/\y = .str j/\Q (.bl<|decide (i.cps.toList < j.cps.toList)) H):=by
 intro pins s σ H x y v u Q I rx ry h;obtain⟨i,j,rfl,rfl,q⟩:=h;obtain⟨t,rfl⟩:=rx;obtain⟨t',rfl⟩:=ry;exact lt_str<|cB I q rfl
def A1:cK X (compareOp .IsNot) (λx y H Q=>y = .non/\Q (.bl (!decide (x = .non))) H):=by
 intro pins s σ H x y v u Q I rx ry h;obtain⟨rfl,q⟩:=h;cases ry;refine isnot_none_gen<|cB I q ?_;cases x <;> first
  | (cases rx;rfl)
  | (obtain⟨t,rfl⟩:=rx;rfl)
def VY{op:CmpOp}{r:R2}(ho:cK X (compareOp op) r)(ha:PE X a ta)(hb:PE X b tb)(hm:behindInMarks op b=false):PE X (.Compare a [op] [b] pos) (xD r ta tb):=by
 intro pins s σ H Q I h;exact wpAny_Compare1 (oX ha hb I h λv u s2 x y H2 I2 rx ry q=>ho pins s2 σ H2 x y v u Q I2 rx ry q) hm
def VZ(t:TE):TT:=λσ H Q=>t σ H λx H'=>∃ k,x = .bl k/\Q k H'
def V0{op:CmpOp}{r:R2}(ho:cK X (compareOp op) r)(ha:PE X a ta)(hb:PE X b tb)(hm:behindInMarks op b=false):PT X (.Compare a [op] [b] pos) (VZ<|xD r ta tb):=by
 intro pins s σ H Q I h;refine wpAny_isTrue_Compare1 (aN (ha pins s σ H _ I h) λv s1 ⟨x,H1,I1,r1,q1⟩=>aN (hb pins s1 σ H1 _ I1 q1) λu s2 ⟨y,H2,I2,r2,q2⟩=>
  aN (ho pins s2 σ H2 x y v u _ I2 r1 r2 q2) λc s3 ⟨z,H3,I3,r3,k,e,q3⟩=>?_) hm
 subst e;cases r3;exact FP ⟨H3,I3,q3⟩
def oZ(K:PySem.W.Frag)(x:V)(H:Hp)(k:Bool):Prop:=
 match x with
 | .non=>k=false
 | .bl b=>k=b
 | .int i=>k=(i != 0)
 | .str y=>y.length<=sizeLine/\k=((y.length:Int) != 0)
 | .iT y=>y.size<=sizeLine/\k=((y.size:Int) != 0)
 | .ref p=>(∃ xs,aq K H p xs/\k = !xs.isEmpty)\/(∃ xs,aJ K H p xs/\k = !xs.isEmpty)\/∃ kvs,H p=some (.dK kvs)/\k = !kvs.isEmpty
 | _=>False
def V1{κ:Type}{kvs:List (κ×V)}{vs:List (κ×Value)}(r:KV kvs vs):(!vs.isEmpty) = !kvs.isEmpty:=by
 cases r <;> rfl
def MD{xs:List V}{its:Ô}(r:ay xs its):(!its.toArray.isEmpty) = !xs.isEmpty:=by
 cases r <;> simp
def tV:(sizeLine:Nat) < 2 ^ 63:=by rw[EY];decide
theorem V2:AZ X (λx H Q=>∃ k,oZ X.K x H k/\Q k H):=by
 intro pins s σ H x v Q I rx h;obtain⟨k,e,q⟩:=h;have hl:=tV;have hs:sizeLine=16777216:=EY;cases x with
 | non=>
  cases rx;have e':k=false:=e;subst e';exact truthy_none ⟨H,I,q⟩
 | bl b=>
  cases rx;have e':k=b:=e;subst e';exact FP ⟨H,I,q⟩
 | int i=>
  obtain⟨t,rfl⟩:=rx;have e':k=(i != 0):=e;subst e';exact PySem.P.truthy_int ⟨H,I,q⟩
 | str y=>
  obtain⟨t,rfl⟩:=rx;obtain⟨hy,e'⟩:y.length<=sizeLine/\k=((y.length:Int) != 0):=e;subst e';exact PySem.P.truthy_str (by omega) ⟨H,I.tok _,q⟩
 | iT y=>
  obtain⟨t,rfl⟩:=rx;obtain⟨hy,e'⟩:y.size<=sizeLine/\k=((y.size:Int) != 0):=e;subst e';exact PySem.W.truthy_bytes (by omega) ⟨H,I.tok _,q⟩
 | ref p=>
  cases rx;have e':(∃ xs,aq X.K H p xs/\k = !xs.isEmpty)\/(∃ xs,aJ X.K H p xs/\k = !xs.isEmpty)\/∃ kvs,H p=some (.dK kvs)/\k = !kvs.isEmpty:=e
  rcases e' with ⟨xs,hx,e'⟩ | ⟨xs,hx,e'⟩ | ⟨kvs,hx,e'⟩
  ·subst e';obtain⟨its,r,pl,hz⟩:=I.list hx;have hlen:=r.length;exact wpAny_truthy_list pl.isList (by simp only[Aw];omega) ⟨H,I.tok _,by rw[MD r];exact q⟩
  ·subst e';obtain⟨its,r,pl,hz⟩:=I.tuple hx;have hlen:=r.length;exact truthy_tuple pl (by simp only[Aw];omega) ⟨H,I.tok _,by rw[MD r];exact q⟩
  ·subst e';obtain⟨hz,hS,vs,r,m⟩:kvs.length<=sizeLine/\(p == sysModules)=false/\∃ vs,KV kvs vs/\s.heap.DictOf (dj X.prog X.w) p vs:=I.aE p _ hx;have hlen:kvs.length=vs.length:=Paired.length r;exact wpAny_truthy_dict hS m (by omega) ⟨H,I.tok _,by rw[V1 r];exact q⟩
 | _=>exact(show False from e).elim
def V3(ha:PE X a ta)(he:∀ whole,isTrue a X.env whole=(do let v <- whole;standAt a.pos;holding [v] (truthy v))) :
  PT X a (λσ H Q=>ta σ H λx H'=>∃ k,oZ X.K x H' k/\Q k H'):=by
 intro pins s σ H Q I h;exact isTrue_plain (aN (ha pins s σ H _ I h) λv s1 ⟨x,H1,I1,r1,q1⟩=>V2 pins s1 σ H1 x v Q I1 r1 q1)<|he _
def ME:cK X (binaryOp .Add) (λx y H Q=>∃ i j,x = .str i/\y = .str j/\i.length+j.length<=sizeLine/\Q (.str<|i++j) H):=by
 intro pins s σ H x y v u Q I rx ry h;obtain⟨i,j,rfl,rfl,hz,q⟩:=h;obtain⟨t,rfl⟩:=rx;obtain⟨t',rfl⟩:=ry;exact add_str (λt' tk=>⟨.str<|i++j,H,I.tok _,⟨_,rfl⟩,q⟩) hz
theorem vals1{x:V}{us:Ô}(r:ay [x] us):∃ u,us=[u]/\RelV x u:=by
 cases r with
 | cons r1 r2=>cases r2;exact⟨_,rfl,r1⟩
theorem vals2{x y:V}{us:Ô}(r:ay [x,y] us):∃ u w',us=[u,w']/\RelV x u/\RelV y w':=by
 cases r with
 | cons r1 r2=>
  cases r2 with
  | cons r3 r4=>cases r4;exact⟨_,_,rfl,r1,r3⟩
def MG(hc:X.calm=true):eZ X (.builtin "max") (λxs H Q=>∃ i j,xs=[.int i,.int j]/\Q (.int (if j > i then j else i)) H):=by
 intro pins s σ H xs us Q I r h;obtain⟨i,j,rfl,q⟩:=h;obtain⟨u,w',rfl,⟨t,rfl⟩,⟨t',rfl⟩⟩:=vals2 r;refine max_two_ints (I.ok.hd hc) λh' tk k=>⟨_,H,I.kept k,?_,q⟩
 by_cases hj:j > i
 ·rw[BP hj,BP hj];exact⟨_,rfl⟩
 ·rw[BL hj,BL hj];exact⟨_,rfl⟩
end
structure o6(h:Heap)(x dx C:Addr)(mA:Ó):Prop where
 obj:h.get? x=some (PySem.W.instObj C dx)
 ns:h.Ns1 dx mA
 ne:dx≠x
def V4{h:Heap}{dx:Addr}{mA:Ó}(n:h.Ns1 dx mA):∃ od,h.get? dx=some od/\∀ name,PySem.W.lookIn name od=some (mA name):=by
 obtain⟨o,es,ep,ho,hd,hk,_,hm⟩:=n;refine⟨o,ho,λname=>?_⟩;have e:=hm name;unfold nsFind findBy at e;rw[<- Array.find?_toList]at e;unfold PySem.W.lookIn;rw[hd]
 dsimp only
 split
 ·rename_i y q;rw[q]at e;exact BZ some e
 ·rename_i q;rw[q]at e;have a:es.toList.any (·.refKey)=false:=by
   rw[List.any_eq_false];intro y hy;obtain⟨z,t,A2⟩:=hk y<|Array.mem_toList_iff.mp hy;simp[DictEntry.refKey,A2]
  have a':¬ es.toList.any (·.refKey)=true:=by rw[a];exact Av
  rw[BL a'];exact BZ some e
def o6.look{h:Heap}{x dx C:Addr}{mA:Ó}(I:o6 h x dx C mA):∃ od,PySem.W.InstAt h x (PySem.W.instObj C dx) C (some od)/\∀ name,PySem.W.lookIn name od=some (mA name):=
 let ⟨od,ho,hl⟩:=V4 I.ns
 ⟨od,⟨I.obj,rfl,rfl,ho⟩,hl⟩
section
variable{prog:Program}{w:World}{A:Around}{E:Ï}{s:Shared}{K:PySem.W.Frag}{x dx C f:Addr}{mA:Ó}{name:Str}{v:Value}
end
theorem dH.some_of{v:V}{o:Option Value}(r:dH (some v) o):∃ u,o=some u/\RelV v u:=by
 cases o with
 | none=>exact(show False from r).elim
 | some u=>exact⟨u,rfl,r⟩
section
variable{P:Program}{w:World}{H H':Hp}{h h':Heap}{a C dx:Addr}{fs U4:List (Str×V)}
def V5(aE:b7 P w H h)(e:H a=some (.ins C dx fs)):∃ mA,o6 h a dx C mA/\(∀ f,dH (fs.lookup f)<|mA f)/\PySem.Within mA (fs.map (·.1))/\fs.length<=1000/\H dx=some (.own a):=by
 obtain⟨d,z,ne,ob,mA,n,r,q⟩:=(show aB P w H h a (.ins C dx fs)from aE a _ e);exact⟨mA,⟨ob,n,ne⟩,r,q,z,d⟩
end
structure A3(K:PySem.W.Frag)(C:Addr):Prop where
 pg:PySem.W.plainGet K C Str.empty=true
 hd:PySem.W.hasDictIn K C=true
 po:PySem.W.plainOver K C=true
 sa:PySem.W.findIn K (.ref C) "__setattr__" = some (some<|.builtin "object.__setattr__")
def A3.get{K:PySem.W.Frag}{C:Addr}(c:A3 K C)(f:Str):PySem.W.plainGet K C f=true:=c.pg
section
variable{X:Cx}{pins:Ñ}{σ:St}{H:Hp}{s:Shared}{a C dx:Addr}{fs:List (Str×V)}{f:Str}{v:V}{A:Around}{E:Ï}
end
section
variable{X:Cx}{o e value:Expr}{f:Str}{pos pos' A4:Pos}{ta tv:TE}
end
section
variable{X:Cx}{pins:Ñ}{σ:St}{H:Hp}{s:Shared}{A:Around}{E:Ï}{Q:Ï}{c:Value}{b:Bool}
inductive c7 (K:PySem.W.Frag) (H:Hp):V->Value->Prop where
 | non:c7 K H .non<|.type "NoneType"
 | bl (x:Bool):c7 K H (.bl x)<|.type "bool"
 | int (i:Int):c7 K H (.int i)<|.type "int"
 | str (x:Str):c7 K H (.str x)<|.type "str"
 | rd (x:UInt64):c7 K H (.rd x)<|.type "float"
 | lst {a:Addr} {xs:List V} (e:H a=some (.lst xs)):c7 K H (.ref a)<|.type "list"
 | bI {a:Addr} {o:Obj} {xs:List V} (e:H a=some (.bI o<|.lst xs)):c7 K H (.ref a)<|.type "list"
 | tup {a:Addr} {xs:List V} (e:H a=some (.tup xs)):c7 K H (.ref a)<|.type "tuple"
 | dK {a:Addr} {kvs:List (Key×V)} (e:H a=some (.dK kvs)):c7 K H (.ref a)<|.type "dict"
 | dT {a:Addr} {kvs:List (List Key×V)} (e:H a=some (.dT kvs)):c7 K H (.ref a)<|.type "dict"
 | ins {a C dx:Addr} {fs:List (Str×V)} (e:H a=some (.ins C dx fs)) (cl:A3 K C) (ha:PySem.W.findIn K (.ref C) "__class__" = some (some<|.builtin "object.__class__"))
   (hn:PySem.W.specialIn K (.builtin "object.__class__") "__get__" = some (some<|.builtin "getset_descriptor.__get__")) (MH:PySem.W.takesIn K (.builtin "object.__class__")=some true)
   (hm:PySem.W.mroIn K C (.type "object")=some true):c7 K H (.ref a)<|.ref C
theorem V6{x:V}{u t:Value}(I:Inv X pins σ H s)(rx:RelV x u)(ty:c7 X.K H x t)(e:PySem.W.kitOne X.K t c=some b)(h:∀ tk,Q (.bool b) {s with toks:=tk}) :
  wpAny (model X.prog X.w) A (call (.builtin "isinstance") [u,c]) Q E s:=by
 cases ty with
 | non=>cases (show u=Value.none from rx);exact DX PySem.W.kitx_none I.dL True.intro e (λz=>nomatch z) h
 | bl y=>cases (show u=Value.bool y from rx);exact DX PySem.W.kitx_bool I.dL True.intro e (λz=>nomatch z) h
 | int i=>obtain⟨t,q⟩:=(show ∃ t,u=Value.int i t from rx);cases q;exact DX PySem.W.kitx_int I.dL True.intro e (λz=>nomatch z) h
 | str y=>obtain⟨t,q⟩:=(show ∃ t,u=Value.str y t from rx);cases q;exact DX PySem.W.kitx_str I.dL True.intro e (λz=>nomatch z) h
 | rd y=>obtain⟨t,q⟩:=(show ∃ t,u=Value.float y t from rx);cases q;exact DX PySem.W.kitx_float I.dL True.intro e (λz=>nomatch z) h
 | @lst a xs ea=>
  cases (show u=Value.ref a from rx);obtain⟨_,_,n,_,h1⟩:=(show aB X.prog X.w H s.heap a (.lst xs)from I.aE a _ ea);exact DX PySem.W.kitx_list I.dL ⟨_,h1,rfl⟩ e (λz=>nomatch z) h
 | @bI a ob xs ea=>
  cases (show u=Value.ref a from rx);obtain⟨_,_,_,n,_,h1⟩:=(show aB X.prog X.w H s.heap a (.bI ob<|.lst xs)from I.aE a _ ea);exact DX PySem.W.kitx_list I.dL ⟨_,h1,rfl⟩ e (λz=>nomatch z) h
 | @tup a xs ea=>
  cases (show u=Value.ref a from rx);obtain⟨_,_,_,p⟩:=(show aB X.prog X.w H s.heap a (.tup xs)from I.aE a _ ea);obtain⟨o,h1,h2,_⟩:=p;exact DX PySem.W.kitx_tuple I.dL ⟨o,h1,h2⟩ e (λz=>nomatch z) h
 | @dK a kvs ea=>
  cases (show u=Value.ref a from rx);obtain⟨_,_,vs,_,p⟩:=(show aB X.prog X.w H s.heap a (.dK kvs)from I.aE a _ ea);obtain⟨o,es,ep,h1,h2,_⟩:=p;exact DX PySem.W.kitx_dict I.dL ⟨o,h1,h2.1⟩ e (λz=>nomatch z) h
 | @dT a kvs ea=>
  cases (show u=Value.ref a from rx);obtain⟨_,_,xs,_,o,es,ep,h1,h2,_⟩:=(show aB X.prog X.w H s.heap a (.dT kvs)from I.aE a _ ea);exact DX PySem.W.kitx_dict I.dL ⟨o,h1,h2.1⟩ e (λz=>nomatch z) h
 | @ins a C dx fs ea cl ha hn MH hm=>
  cases (show u=Value.ref a from rx);obtain⟨mA,O,_⟩:=V5 I.aE ea;obtain⟨od,J,_⟩:=O.look;exact DX (PySem.W.kitx_own (cl.get _) cl.hd ha hn MH hm) I.dL J e (λz=>nomatch z) h
end
structure bo(k:Nat)(A:Around):Prop where
 hd:A.handled=none
 dp:A.depth+3 * k+5 < recursionLimit
 un:A.units+16 * k+200 < cLine
def bo.mono{j k:Nat}{A:Around}(r:bo k A)(h:j<=k):bo j A:=⟨r.hd,by have:=r.dp;omega,by have:=r.un;omega⟩
def bo.deeper{k:Nat}{A:Around}(r:bo (k+1) A)(env:Env):bo k (A.deeper env):=
 ⟨r.hd,by have:=r.dp;show A.depth+1+3 * k+5 < _;omega,by have:=r.un;show A.units+3+16 * k+200 < _;omega⟩
def bo.depth{k:Nat}{A:Around}(r:bo k A):A.depth < recursionLimit:=by have:=r.dp;omega
def A5:TA:=λ_ H Q=>Q [] H
def MI(ta:TE)(tr:TA):TA:=λσ H Q=>ta σ H λx H1=>tr σ H1 λxs H2=>Q (x :: xs) H2
section
variable{X:Cx}{e:Expr}{es:Õ}{te:TE}{t:TA}{pos:Pos}
def V7:PA X [] A5:=λ_ _ _ _ H Q I h=>Calls.spliced_nil ⟨[],H,I,.nil,h⟩
def V8(ha:PE X e te)(hr:PA X es t)(hs:starEach (e :: es) X.env=(false,eval e X.env) :: starEach es X.env:=by rfl):PA X (e :: es) (MI te t):=by
 intro pos pins s σ H Q I h;rw[hs];show wpAny _ _ (spliced<|(false,eval e X.env) :: backTo pos (starEach es X.env)) _ _ s;refine Calls.spliced_cons<|aN (ha pins s σ H _ I h) λu s1 ⟨x,H1,I1,r1,q1⟩=>?_;exact aN (hr pos pins s1 σ H1 _ I1 q1) λus s2 ⟨xs,H2,I2,r2,q2⟩=>⟨x :: xs,H2,I2,.cons r1 r2,q2⟩
def A6(t:TA):TE:=λσ H Q=>t σ H λxs H1=>xs.length<=sizeLine/\∀ p,H1 p=none->Q (.ref p) (upd H1 p<|.tup xs)
def A7(t:TA):TE:=λσ H Q=>t σ H λxs H1=>xs.length<=sizeLine/\∀ p,H1 p=none->Q (.ref p) (upd H1 p<|.lst xs)
def V9{x1}(h:PA X es t):PE X (.Tuple es x1 pos) (A6 t):=by
 intro pins s σ H Q I hq;refine wpAny_Tuple_spliced (aN (h pos pins s σ H _ I hq) λus s1 ⟨xs,H1,I1,r,z,q⟩=>⟨by rw[<- r.length];exact z,?_⟩);have hf:H1 s1.heap.objs.size=none:=I1.aE.fresh<|An _;refine⟨.ref s1.heap.objs.size,upd H1 s1.heap.objs.size<|.tup xs,I1.laid (t':=s1.toks) (λb u e=>Ag _ e) (An _) ?_,rfl,q _ hf⟩;exact⟨z,us,r,⟨_,At _ rfl,rfl,_,rfl⟩⟩
def V'(h:PA X es t):PE X (.List es pos) (A7 t):=by
 intro pins s σ H Q I hq;refine wpAny_List_spliced (aN (h pos pins s σ H _ I hq) λus s1 ⟨xs,H1,I1,r,z,q⟩=>⟨by rw[<- r.length];exact z,?_⟩);have hf:H1 s1.heap.objs.size=none:=I1.aE.fresh<|An _;refine⟨.ref s1.heap.objs.size,upd H1 s1.heap.objs.size<|.lst xs,I1.laid (t':=s1.toks) (λb u e=>Ag _ e) (An _) ?_,rfl,q _ hf⟩;exact⟨z,us,0,r,At _ rfl⟩
end
abbrev Sp:=List V->Hp->VK->XK->Prop
abbrev fX:=List Env->Hp->Shared->XK->Ï
structure lH(P:Program)(w:World)(K:PySem.W.Frag)(mg:Ó)(base:Heap)(A:Around)(outer:List Env)(s:Shared)(H:Hp):Prop where
 frames:A.frames=some outer
 mod:Mod K mg base
 bs:∀ b o,base.get? b=some o->s.heap.get? b=some o/\H b=none
 js:base.objs.size<=s.heap.objs.size
 cv:s.heap.FunFrames base outer
 kN:∀ b∈cU outer,H b=none
 aE:b7 P w H s.heap
 bare:AllBare s.gens
def CE(outer:List Env)(P:Program)(w:World)(H:Hp)(s:Shared)(Q:VK)(u:Value)(s':Shared):Prop:=
 ∃ v H',s'.os=s.os/\AllBare s'.gens/\Un (cU outer) [] H H' s.heap s'.heap/\b7 P w H' s'.heap/\RelV v u/\Q v H'
def CR(CX:fX)(outer:List Env)(P:Program)(w:World)(H:Hp)(s:Shared)(Q:VK)(E:XK)(r:Result)(s':Shared):Prop:=
 match r with
 | .ok (.ret u)=>CE outer P w H s Q u s'
 | .ok _=>False
 | .error e=>CX outer H s E e s'
structure aG(P:Program)(w:World)(K:PySem.W.Frag)(mg:Ó)(base:Heap)(CX:fX)(k:Nat)(f:Addr)(fd:FuncData)(ps:Ò)(sp:Sp):Prop where
 len:∀ vs H Q E,sp vs H Q E->vs.length=ps.length
 run:∀(A:Around) (outer:List Env) (s:Shared) (H:Hp) (args:Args) (us:Ô) (vs:List V) (Q:VK) (E:XK),bo k A->lH P w K mg base A outer s H->BindsTo s fd args (ps.zip us)->ay vs us->sp vs H Q E ->
  codeAny (model P w) A (.call (.ref f) args) (CR CX outer P w H s Q E) s
def aG.mono{P:Program}{w:World}{K:PySem.W.Frag}{mg:Ó}{base:Heap}{CX:fX}{j k:Nat}{f:Addr}{fd:FuncData}{ps:Ò}{sp:Sp}(F:aG P w K mg base CX j f fd ps sp)(h:j<=k) :
  aG P w K mg base CX k f fd ps sp:=⟨F.len,λA outer s H args us vs Q E hr=>F.run A outer s H args us vs Q E<|hr.mono h⟩
section
variable{X:Cx}{pins:Ñ}{σ:St}{H:Hp}{s s':Shared}
def Inv.tW(I:Inv X pins σ H s):lH X.prog X.w X.K X.mg X.base X.A X.stack s H:=
 ⟨I.ok.frames,I.ok.mod,I.bs,By I.ok.js I.sz,I.stack,I.cN,I.aE,I.bare⟩
def Inv.after{Q:VK}{u:Value}(I:Inv X pins σ H s)(h:CE X.stack X.prog X.w H s Q u s'):EP X pins σ Q u s':=by
 obtain⟨v,H',os,bare,un,aE,r,q⟩:=h;obtain⟨hh,g,d,t,bW⟩:=s';obtain rfl:bW=s.os:=os;exact⟨v,H',I.call (h':=hh) (g':=g) (d':=d) (t':=t) (ch:=[]) un aE bare (λb z=>absurd z<|by simp),r,q⟩
end
def ML(sp:Sp)(lJ:List V)(E:XK)(t:TA):TE:=λσ H Q=>t σ H λvs H1=>sp (vs++lJ) H1 Q E
def Binds(K:PySem.W.Frag)(fd:FuncData)(ps:Ò)(ds:Ô):Prop:=
 ∀(s:Shared) (us:Ô),K.In s.heap->(us++ds).length=ps.length->BindsTo s fd ⟨us,[]⟩ (ps.zip<|us++ds)
def Binds.all{K:PySem.W.Frag}{fd:FuncData}{ps:Ò}(h:∀ us:Ô,us.length=ps.length->bindArgs fd ⟨us,[]⟩=pure (ps.zip us)):Binds K fd ps []:=λs us _ hl=>by
 rw[Bg]at hl ⊢;exact .of_eq<|h us hl
def lK(CX:fX)(X:Cx)(E:XK):Prop:=∀(pins:Ñ) (σ:St) (H:Hp) (s:Shared) (e:Value) (s':Shared),Inv X pins σ H s->CX X.stack H s E e s'->X.xe e s'
section
variable{X:Cx}{CX:fX}{k:Nat}{f C:Addr}{fd:FuncData}{ps:Ò}{sp:Sp}{lJ:List V}{ds:Ô}{E:XK}{x m:Str}{p pos apos:Pos}{e o:Expr}{es:Õ}{ta:TE}{t:TA}
theorem Wa{pins:Ñ}{σ:St}{H:Hp}{s:Shared}{Q:VK}{us:Ô}{vs:List V}(F:aG X.prog X.w X.K X.mg X.base CX k f fd ps sp)(hr:bo k X.A)(hb:Binds X.K fd ps ds)(hd:ay lJ ds)(hx:lK CX X E)
  (I:Inv X pins σ H s) (r:ay vs us) (h:sp (vs++lJ) H Q E):wpAny (model X.prog X.w) X.A (call (.ref f) us) (EP X pins σ Q) X.xe s:=by
 have r2:ay (vs++lJ) (us++ds):=r.append hd;have hl:(us++ds).length=ps.length:=by rw[<- r2.length];exact F.len _ _ _ _ h
 refine RD<|JB (F.run X.A X.stack s H ⟨us,[]⟩ (us++ds) (vs++lJ) Q E hr I.tW (hb s us I.dL hl) r2 h) λr s' hq=>?_;cases r with
 | error e=>exact hx pins σ H s e s' I hq
 | ok fl=>
  cases fl with
  | ret u=>exact I.after hq
  | next=>exact False.elim hq
  | brk=>exact False.elim hq
  | cont=>exact False.elim hq
def Wb(F:aG X.prog X.w X.K X.mg X.base CX k f fd ps sp)(hr:bo k X.A)(hg:Gl X x)(hm:X.mg x=some (.ref f))(hk:PySem.W.keepIn X.K (.ref f)=true)(hb:Binds X.K fd ps ds)(hd:ay lJ ds)(hx:lK CX X E)
  (ha:PA X (e :: es) t) (cw:(x == ("__debug__" : Str))=false:=by decide) (he:starEach (e :: es) X.env=(false,eval e X.env) :: starEach es X.env:=by rfl) (jN:(backTo pos<|starEach es X.env).any (·.1)=false:=by rfl) :
  PE X (.Call (.Name x p) (e :: es) [] pos) (ML sp lJ E t):=by
 intro pins s σ H Q I h;refine JG<|ri I hg hm ?_ cw;refine PySem.W.callWith_K (h₀:=X.base) I.ok.mod.oO hk (aN (ha pos pins s σ H _ I h) λus s1 ⟨vs,H1,I1,r,q⟩=>⟨I1.dL,?_⟩) he jN;exact Wa F hr hb hd hx I1 r q
end
section
variable{X:Cx}{CX:fX}{k:Nat}{f C:Addr}{fd:FuncData}{ps ks:Ò}{sp:Sp}{E:XK}{x m:Str}{p pos apos Wc:Pos}{e o:Expr}{es:Õ}{kws:List Keyword}{te ta:TE}{t tk:TA}{nm:Option Str}
variable{g:Ô->Ô->Ô}{gV:List V->List V->List V}
end
structure ak(N P:Ò)(sc:Scope):Prop where
 kind:sc.kind = .function
 co:sc.isCoroutine=false
 gen:sc.isGenerator=false
 nd:N.Nodup
 pre:N.take P.length=P
 par:∀ x∈P,sc.names.lookup x=some .local\/sc.names.lookup x=some .cell
 o7:∀ y∈sc.names,y.2 ≠ .free
theorem MM{kindOf:Str->Option NameKind}{x:Str}:∀{binds:List (Str×Value)} {m:Ó},(∀ v,(x,v)∉binds)->bindL kindOf binds m x=m x
 | [],_,_=>rfl
 | (n,v) :: r,m,h=>by
  unfold bindL;rw[MM λw hw=>h w<|Ah _ hw]
  split
  ·have:x≠n:=by rintro rfl;exact h v Ae
   simp[this]
  ·rfl
theorem MO{kindOf:Str->Option NameKind}{x:Str}:∀{binds:List (Str×Value)} {m:Ó},(∀ v,(x,v)∉binds)->bindC kindOf binds m x=m x
 | [],_,_=>rfl
 | (n,v) :: r,m,h=>by
  unfold bindC;rw[MO λw hw=>h w<|Ah _ hw]
  split
  ·rfl
  ·have:x≠n:=by rintro rfl;exact h v Ae
   simp[this]
theorem MQ{kindOf:Str->Option NameKind}{x:Str}{v:Value}:∀{P:Ò} {vs:Ô} {i:Nat} {m:Ó},P.Nodup->P[i]?=some x->vs[i]?=some v->kindOf x=some .local ->
  bindL kindOf (P.zip vs) m x=some v
 | [],_,_,_,_,h,_,_=>by simp at h
 | _ :: _,[],_,_,_,_,h,_=>by simp at h
 | p :: P,w :: vs,0,m,nd,h1,h2,hk=>by
  simp at h1 h2;subst h1;subst h2;show bindL kindOf ((p,w) :: P.zip vs) m p=_;unfold bindL;rw[MM λv hv=>(Bc.mp nd).1 (RX hv).1,BP hk];simp
 | p :: P,w :: vs,i+1,m,nd,h1,h2,hk=>by
  show bindL kindOf ((p,w) :: P.zip vs) m x=_;unfold bindL;exact MQ (i:=i) (Bc.mp nd).2 (by simpa using h1) (by simpa using h2) hk
theorem MR{kindOf:Str->Option NameKind}{x:Str}{v:Value}:∀{P:Ò} {vs:Ô} {i:Nat} {m:Ó},P.Nodup->P[i]?=some x->vs[i]?=some v->kindOf x≠some .local ->
  bindC kindOf (P.zip vs) m x=some v
 | [],_,_,_,_,h,_,_=>by simp at h
 | _ :: _,[],_,_,_,_,h,_=>by simp at h
 | p :: P,w :: vs,0,m,nd,h1,h2,hk=>by
  simp at h1 h2;subst h1;subst h2;show bindC kindOf ((p,w) :: P.zip vs) m p=_;unfold bindC;rw[MO λv hv=>(Bc.mp nd).1 (RX hv).1,BL hk];simp
 | p :: P,w :: vs,i+1,m,nd,h1,h2,hk=>by
  show bindC kindOf ((p,w) :: P.zip vs) m x=_;unfold bindC;exact MR (i:=i) (Bc.mp nd).2 (by simpa using h1) (by simpa using h2) hk
def start(N:Ò)(vs:List V):St:=vs.map some++List.replicate (N.length - vs.length) none
def c8(CX:fX)(P:Program)(w:World)(K:PySem.W.Frag)(mg:Ó)(base:Heap)(N:Ò)(qual:Str)(scope:Scope)(f:Addr)(cd:Value)(A:Around)(outer:List Env)(s:Shared)(H:Hp)(E:XK):Cx where
 prog:=P
 w:=w
 K:=K
 mg:=mg
 base:=base
 A:=A.deeper<|envOfC qual scope s.heap.objs.size f cd
 N:=N
 s₀:=s
 H₀:=H
 env:=envOfC qual scope s.heap.objs.size f cd
 outer:=outer
 stack:=envOfC qual scope s.heap.objs.size f cd :: outer
 ex:=[]
 calm:=true
 fn:=λ_=>true
 pn:=[]
 xe:=λe s'=>wpAny (model P w) (A.deeper<|envOfC qual scope s.heap.objs.size f cd) (leaving (envOfC qual scope s.heap.objs.size f cd) e) (λ_ o8=>CX outer H s E e o8) (λe' o8=>CX outer H s E e' o8) s'
def MS{sc:Scope}{n:Nat}{x:Str}(h:sc.names.lookup x=some .cell):∃ c,(cellsFrom n sc.names []).lookup x=some c:=by
 have q:=JK sc.names n []<|.inl h;exact Er.mp q
def Wd{CX:fX}{P:Program}{w:World}{K:PySem.W.Frag}{mg:Ó}{base:Heap}{N ps:Ò}{qual:Str}{scope:Scope}{f:Addr}{cd:Value}{A:Around}{outer:List Env}{s s1:Shared}{H:Hp}{E:XK}{us:Ô}{vs:List V}
  (S:ak N ps scope) (hd:A.handled=none) (e0:lH P w K mg base A outer s H) (hl:vs.length=ps.length) (r:ay vs us)
  (x:InCallC s s.heap.objs.size (bindL (envOfC qual scope s.heap.objs.size f cd).kindOf (ps.zip us) λ_=>none) (cellsFrom (s.heap.objs.size+1) scope.names []) (bindC (envOfC qual scope s.heap.objs.size f cd).kindOf (ps.zip us) λ_=>none) s1) :
  Inv (c8 CX P w K mg base N qual scope f cd A outer s H E) [] (start N vs) H s1:=by
 have jN:ps.length<=N.length:=by have:=BZ List.length S.pre;rw[Bk]at this;omega
 obtain⟨h1,tk,rfl,hk⟩:=x.done;have tX:∀ b:Addr,b∉(c8 CX P w K mg base N qual scope f cd A outer s H E).ex:=λb z=>absurd (show b∈([]:List Addr)from z) (by simp);refine⟨⟨e0.mod,S.kind,rfl,rfl,An _,λy z c h1 h2=>?_,λy hy=>?_,λy c _ h=>?_,λ_=>hd,Around.frames_deeper e0.frames,.inr ⟨rfl,rfl⟩,λb z=>absurd z<|tX b,e0.bs,e0.js,λb _ _=>tX b,λb z=>absurd z<|tX b,e0.cv,e0.kN⟩,
  rfl,e0.bare,Un.kept hk,⟨_,x.toInCall.ns,λi y v h1 h2 h3=>?_⟩,λy c h=>⟨_,x.cell y c h⟩,e0.aE.fresh<|An _,λy c h=>?_,λp hp=>absurd (show p∈([]:Ñ)from hp) (by simp),e0.aE.kept hk,?_⟩
 ·exact name_of_addr x.apart (CW h1)<|CW h2
 ·have hy:scope.names.lookup y=some .cell\/scope.names.lookup y=some .free:=hy
  rcases hy with hy | hy
  ·exact MS hy
  ·exact absurd rfl (S.o7 _<|CW hy)
 ·exact Co<|x.above y c<|CW h
 ·have hi:i < vs.length:=by
   unfold start at h2
   by_cases hi:i < vs.length
   ·exact hi
   ·rw[Az<|by simpa using hi]at h2;rw[Eu]at h2
    split at h2 <;> cases h2
  have ha:vs[i]?=some v:=by
   unfold start at h2;rw[As (by simpa using hi),Ai]at h2;cases e:vs[i]? with
   | none=>rw[e]at h2;cases h2
   | some a=>rw[e]at h2;cases h2;rfl
  obtain⟨u,hu,rv⟩:=r.get ha;have hp:ps[i]?=some y:=by
   rw[<- S.pre,Dm<|by omega];exact h1
  have MT:ps.Nodup:=by rw[<- S.pre];exact S.nd.sublist<|List.take_sublist _ _
  refine⟨u,rv,?_⟩
  rcases S.par y (Au hp)with k | k
  ·exact .inl ⟨k,MQ MT hp hu k⟩
  ·obtain⟨c,e⟩:=MS (n:=s.heap.objs.size+1) k;refine .inr ⟨.inl k,c,e,?_⟩;have q:=x.cell y c e;rw[MR MT hp hu<|by show scope.names.lookup y≠_;rw[k];decide]at q;exact q
 ·exact e0.aE.fresh<|Co<|x.above y c<|CW h
 ·unfold start;show _=N.length;rw[Af,Aa,Fd];omega
theorem MU{CX:fX}{P:Program}{w:World}{K:PySem.W.Frag}{mg:Ó}{base:Heap}{k:Nat}{f:Addr}{name qual:Str}{params:Arguments}{body:Ö}{scope:Scope}{dV kV doc pm bJ ct oc:Value}{an od:Option Addr}
  {jO:Array (Option Value)} {N ps:Ò} {sp:Sp} (lk:K.lookup f=some ⟨oc,od,.func<|PySem.W.fnOf name qual params body scope dV kV doc pm an bJ ct,jO⟩) (iw:PySem.W.codeIn K bJ qual=true) (S:ak N ps scope)
  (len:∀ vs H Q E,sp vs H Q E->vs.length=ps.length)
  (cP : ∀ (A : Around) (outer : List Env) (s : Shared) (H : Hp) (vs : List V) (Q : VK) (E : XK), bo k (A.deeper<|envOfC qual scope s.heap.objs.size f bJ) → sp vs H Q E →
   ∃ t,iU (c8 CX P w K mg base N qual scope f bJ A outer s H E) body t/\t {nx:=λ_ H'=>Q .non H',rt:=Q} (start N vs) H) :
  aG P w K mg base CX (k+1) f (PySem.W.fnOf name qual params body scope dV kV doc pm an bJ ct) ps sp:=by
 refine⟨len,λA outer s H args us vs Q E hr e0 hb r dD=>?_⟩;have hl:=len _ _ _ _ dD;have KX:K.In s.heap:=e0.mod.oO.keeps λb o e=>(e0.bs b o e).1;have lim:s.heap.NoLimit:=e0.mod.nolimit.keeps λb o e=>(e0.bs b o e).1;have tY:∀ y∈ps.zip us,scope.names.lookup y.1=some .local\/(scope.names.lookup y.1=some .cell/\((cellsFrom (s.heap.objs.size+1) scope.names []).lookup y.1).isSome=true):=λ⟨n,v⟩ hy=>by
  rcases S.par n (RX hy).1 with q | q
  ·exact .inl q
  ·exact .inr ⟨q,JK _ _ _<|.inl q⟩
 refine codeAny_call_function hr.depth (KX _ _ lk) rfl S.co S.gen rfl (PySem.W.codeRec_of KX iw) (hb _ _ _ _ ?_);refine wpAny_newFunctionEnv_cells S.kind tY λenv he s1 x=>?_;subst he;refine⟨lim.keeps x.toInCall.keep,codeAny_func ?_⟩;obtain⟨t,ht,hq⟩:=cP A outer s H vs Q E (hr.deeper _) dD;have I:Inv (c8 CX P w K mg base N qual scope f bJ A outer s H E) [] (start N vs) H s1:=Wd S hr.hd e0 hl r x;refine CP (ht [] s1 (start N vs) H _ I hq) (λfl s' hs=>?_) λe s' hs=>hs;have fin:∀{σ':St} {H':Hp} {v:V} {u:Value},Inv (c8 CX P w K mg base N qual scope f bJ A outer s H E) [] σ' H' s'->RelV v u->Q v H'->CE outer P w H s Q u s':=
  λ{σ' H' v u} J rv q=>⟨v,H',J.os,J.bare,J.base,J.aE,rv,q⟩
 cases fl with
 | ret u=>
  obtain⟨v,σ',H',J,rv,q⟩:=hs;exact fin J rv q
 | next=>
  obtain⟨σ',H',J,q⟩:=hs;exact fin (v:=V.non) (u:=Value.none) J rfl q
 | brk=>
  obtain⟨_,_,_,q⟩:=hs;exact False.elim q
 | cont=>
  obtain⟨_,_,_,q⟩:=hs;exact False.elim q
section
variable{X:Cx}{x:Str}{p pos:Pos}{e:Expr}{es:Õ}{t:TA}{id T:String}{r:List V->Hp->VK->Prop}
def xH(r:List V->Hp->VK->Prop)(t:TA):TE:=λσ H Q=>t σ H λvs H1=>r vs H1 Q
def Wf(hc:eZ X (.builtin id) r)(hg:Gl X x)(hm:X.mg x=none)(hv:bootBuiltins x=some (.builtin id))(ha:PA X (e :: es) t)(hn:x ≠ "__name__":=by decide)(cw:(x == ("__debug__" : Str))=false:=by decide)
  (he:starEach (e :: es) X.env=(false,eval e X.env) :: starEach es X.env:=by rfl) (jN:(backTo pos<|starEach es X.env).any (·.1)=false:=by rfl):PE X (.Call (.Name x p) (e :: es) [] pos) (xH r t):=by
 intro pins s σ H Q I h;refine JG<|oR I hg hm hv ?_ hn cw;exact PyProof.Rows.callWith_builtin1 (aN (ha pos pins s σ H _ I h) λus s1 ⟨vs,H1,I1,r1,q1⟩=>hc pins s1 σ H1 vs us Q I1 r1 q1) he jN
def Wg(hc:eZ X (.type T) r)(hg:Gl X x)(hm:X.mg x=none)(hv:bootBuiltins x=some (.type T))(ha:PA X (e :: es) t)(hn:x ≠ "__name__":=by decide)(cw:(x == ("__debug__" : Str))=false:=by decide)
  (he:starEach (e :: es) X.env=(false,eval e X.env) :: starEach es X.env:=by rfl) (jN:(backTo pos<|starEach es X.env).any (·.1)=false:=by rfl):PE X (.Call (.Name x p) (e :: es) [] pos) (xH r t):=by
 intro pins s σ H Q I h;refine JG<|oR I hg hm hv ?_ hn cw;exact JQ (aN (ha pos pins s σ H _ I h) λus s1 ⟨vs,H1,I1,r1,q1⟩=>hc pins s1 σ H1 vs us Q I1 r1 q1) he jN
end
end L2
namespace HT
open PySem PyProof.Rows
section
open PySem.SeqAt
open PySem.AutoSeq1 (wpAny_loadPart')
open PySem.MeetsSeq PySem.MeetsSeq2 PySem.MeetsSeq3
end
section
variable{prog:Program}{w:World}{A:Around}{E:Ï}{s:Shared}
def fY(n d:Nat):Option Int->Nat
 | none=>d
 | some v=>if v < 0 then(v+(n:Int)).toNat else min v.toNat n
def fZ(n d:Nat):fY n d none=d:=rfl
def iz(n d k:Nat):fY n d (some (k:Int))=min k n:=by
 show(if(k:Int) < 0 then((k:Int)+(n:Int)).toNat else min (k:Int).toNat n)=min k n;rw[BL (by omega),Bd]
end
end HT
namespace L2
open PySem PySem.Spec PyProof.Rows
abbrev TO:=St->Hp->(Option Int->Hp->Prop)->Prop
def PO(X:Cx)(e:Option Expr)(t:TO):Prop:=
 ∀(pins:Ñ) (s:Shared) (σ:St) (H:Hp) (Q:Option Int->Hp->Prop),Inv X pins σ H s->t σ H Q ->
  wpAny (model X.prog X.w) X.A (evalPart e X.env) (λu s'=>∃ o H',Inv X pins σ H' s'/\IsPart u o/\Q o H') X.xe s
def Wh:TO:=λ_ H Q=>Q none H
def Wi(t:TE):TO:=λσ H Q=>t σ H λx H1=>∃ i,x = .int i/\Q (some i) H1
section
variable{X:Cx}{e:Expr}{te:TE}{lo hi:Option Expr}{tl th:TO}{pos p2:Pos}
def Wj:PO X none Wh:=by
 intro pins s σ H Q I h;rw[evalPart_none];exact BK ⟨none,H,I,.none,h⟩
def Wk(h:PE X e te):PO X (some e) (Wi te):=by
 intro pins s σ H Q I hw;rw[evalPart_some];refine aN (h pins s σ H _ I hw) λu s1 ⟨x,H1,I1,r1,q1⟩=>?_;obtain⟨i,rfl,q⟩:=q1;obtain⟨t,rfl⟩:=r1;exact⟨some i,H1,I1,.int i t,q⟩
def A8(X:Cx)(r:V->Option Int->Option Int->Hp->VK->Prop):Prop:=
 ∀(pins:Ñ) (s:Shared) (σ:St) (H:Hp) (x:V) (v vl vu:Value) (lo hi:Option Int) (sl:Addr) (Q:VK),Inv X pins σ H s->RelV x v->s.heap.IsSliceOf sl vl vu .none->IsPart vl lo->IsPart vu hi->r x lo hi H Q ->
  ∃ T id,typeLookup (.type T) "__getitem__" = pure (some<|.builtin id)/\s.TypeIs v T/\wpAny (model X.prog X.w) X.A (getItem v<|.ref sl) (EP X pins σ Q) X.xe s
def Wl(r:V->Option Int->Option Int->Hp->VK->Prop)(te:TE)(tl th:TO):TE:=λσ H Q=>te σ H λx H1=>tl σ H1 λl H2=>th σ H2 λu H3=>r x l u H3 Q
def Wm{r:V->Option Int->Option Int->Hp->VK->Prop}(hr:A8 X r)(he:PE X e te)(hl:PO X lo tl)(hu:PO X hi th):PE X (.Subscript e (.Slice lo hi none p2) pos) (Wl r te tl th):=by
 intro pins s σ H Q I h;refine Subscript_<|aN (he pins s σ H _ I h) λv s1 ⟨x,H1,I1,r1,q1⟩=>?_;refine wpAny_Slice<|aN (hl pins s1 σ H1 _ I1 q1) λvl s2 ⟨l,H2,I2,pl,q2⟩=>aN (hu pins s2 σ H2 _ I2 q2) λvu s3 ⟨u,H3,I3,pu,q3⟩=>?_;rw[evalPart_none];refine BK ?_;have I4:Inv X pins σ H3 {s3 with heap:=s3.heap.push {cls:= .type "slice",data:= .fields #[vl,vu,.none]}}:=I3.kept (t':=s3.toks) λb ob q=>Ag _ q;obtain⟨T,id,hT,ht,hg⟩:=hr pins {s3 with heap:=s3.heap.push {cls:= .type "slice",data:= .fields #[vl,vu,.none]}} σ H3 x v vl vu l u s3.heap.objs.size Q I4 r1 (Heap.IsSliceOf.new ..) pl pu q3;show wpAny (model X.prog X.w) X.A (subscriptTail e (.Slice lo hi none p2) v<|.ref s3.heap.objs.size) (EP X pins σ Q) X.xe {s3 with heap:=s3.heap.push {cls:= .type "slice",data:= .fields #[vl,vu,.none]}};exact tail_any (ops:=[.ref s3.heap.objs.size,v]) ht hT hg<|by with_unfolding_all rfl
def f7(xs:List V)(lo hi:Option Int):List V:=(xs.drop<|HT.fY xs.length 0 lo).take<|HT.fY xs.length xs.length hi - HT.fY xs.length 0 lo
def Wn(xs:List V)(lo hi:Option Int):(f7 xs lo hi).length<=xs.length:=by
 unfold f7;rw[Bk,Dh];omega
end
def nG(n:Nat)(i:Int):Option Nat:=if 0<=i then(if i < n then some i.toNat else none)else if -(n:Int)<=i then some (i+n).toNat else none
def dN{α:Type}(xs:List α)(i:Int):Option α:=(nG xs.length i).bind λj=>xs[j]?
def Wo{n:Nat}{i:Int}{j:Nat}(h:nG n i=some j):seqIndex? i n=some j/\j < n/\-(n:Int)<=i/\i < n:=by
 unfold nG at h
 by_cases h0:0<=i
 ·rw[BP h0]at h
  by_cases h1:i < n
  ·rw[BP h1]at h;have e:i.toNat=j:=Option.some.inj h;exact⟨by rw[seqIndex_of h0 h1,e],by omega,by omega,h1⟩
  ·rw[BL h1]at h;cases h
 ·rw[BL h0]at h
  by_cases h1:-(n:Int)<=i
  ·rw[BP h1]at h;have e:(i+n).toNat=j:=Option.some.inj h;exact⟨by rw[seqIndex_neg (by omega) h1,e],by omega,h1,by omega⟩
  ·rw[BL h1]at h;cases h
theorem A9{α:Type}{xs:List α}{i:Int}{v:α}(h:dN xs i=some v):∃ j,seqIndex? i xs.length=some j/\xs[j]?=some v/\j < xs.length/\-(xs.length:Int)<=i/\i < xs.length:=by
 unfold dN at h;cases e:nG xs.length i with
 | none=>rw[e]at h;cases h
 | some j=>
  rw[e]at h;obtain⟨h1,h2,h3,h4⟩:=Wo e;exact⟨j,h1,h,h2,h3,h4⟩
def rp{α:Type}{xs:List α}{j:Nat}{v:α}(h:xs[j]?=some v):dN xs (j:Int)=some v:=by
 have hj:j < xs.length:=(Ac.mp h).1;have e:nG xs.length (j:Int)=some j:=by
  unfold nG;rw[BP (by omega),BP<|by omega];simp
 unfold dN;rw[e];exact h
def Wp{α:Type}(xs:List α)(v:α):dN (xs++[v]) (-1)=some v:=by
 have hl:(xs++[v]).length=xs.length+1:=by simp
 have e:nG (xs++[v]).length (-1)=some xs.length:=by
  unfold nG;rw[hl,BL (by decide),BP<|by omega]
  congr 1
  omega
 unfold dN;rw[e];show(xs++[v])[xs.length]?=some v;simp
def MV(b:Expr):Prop:=∀ o i,subscripted b false o i=operate [o,i] (getItem o i)
def tZ(X:Cx)(r:R2):Prop:=
 ∀(value slice:Expr) (pins:Ñ) (s:Shared) (σ:St) (H:Hp) (x y:V) (v u:Value) (Q:VK),Inv X pins σ H s->RelV x v->RelV y u->r x y H Q ->
  subscripted slice false v u=operate [v,u] (getItem v u)->wpAny (model X.prog X.w) X.A (subscriptTail value slice v u) (EP X pins σ Q) X.xe s
def t6(X:Cx)(id:String)(r:V->List V->Hp->VK->Prop):Prop:=
 ∀(pins:Ñ) (s:Shared) (σ:St) (H:Hp) (x:V) (xs:List V) (v:Value) (us:Ô) (Q:VK),Inv X pins σ H s->RelV x v->ay xs us->r x xs H Q ->
  wpAny (model X.prog X.w) X.A (call (.builtin id)<|v :: us) (EP X pins σ Q) X.xe s
section
variable{X:Cx}{a b:Expr}{ta tb:TE}{pos:Pos}
def Wq{r:R2}(hr:tZ X r)(ha:PE X a ta)(hb:PE X b tb)(hs:MV b):PE X (.Subscript a b pos) (xD r ta tb):=by
 intro pins s σ H Q I h;exact Subscript_<|oX ha hb I h λv u s2 x y H2 I2 rx ry q=>hr a b pins s2 σ H2 x y v u Q I2 rx ry q<|hs _ _
def t7(K:PySem.W.Frag):R2:=λx y H Q=>∃ p xs i v,x = .ref p/\y = .int i/\aq K H p xs/\dN xs i=some v/\Q v H
def BA(K:PySem.W.Frag):R2:=λx y H Q=>∃ p xs i v,x = .ref p/\y = .int i/\aJ K H p xs/\dN xs i=some v/\Q v H
def BD:R2:=λx y H Q=>∃ z i c,x = .str z/\y = .int i/\z.length<=sizeLine/\dN z.cps.toList i=some c/\Q (.str ⟨#[c]⟩) H
def cF:tZ X (t7 X.K):=by
 intro value slice pins s σ H x y v u Q I rx ry h hs;obtain⟨p,xs,i,z,rfl,rfl,hq,he,q⟩:=h;cases rx;obtain⟨t,rfl⟩:=ry;obtain⟨its,r,pl,hz⟩:=I.list hq;obtain⟨j,h1,h2,h3,h4,h5⟩:=A9 he;obtain⟨w,ew,d9⟩:=r.get h2;have hl:=r.length;have hn:=tV;have fin:EP X pins σ Q w s:=⟨z,H,I,d9,q⟩
 by_cases h0:0<=i
 ·have hj:i.toNat=j:=by
   rw[seqIndex_of h0 h5]at h1;exact Option.some.inj h1
  exact item_listR pl.isList h0 (by omega) (by rw[hj];simpa using ew) fin hs
 ·have hj:(i+(its.toArray.size:Int)).toNat=j:=by
   rw[seqIndex_neg (by omega) h4]at h1;rw[Aw,<- hl];exact Option.some.inj h1
  exact subscriptTail_builtinR (x:=w) pl.isList.typeIs slot_list_getitem.lookup
   (wpAny_getItem_list_neg (Q:=λr s'=>r=w/\EP X pins σ Q r s') pl.isList (by omega) (by rw[Aw] <;> omega) (by omega) (by rw[hj];simpa using ew) ⟨rfl,fin⟩) hs
def bt:tZ X (BA X.K):=by
 intro value slice pins s σ H x y v u Q I rx ry h hs;obtain⟨p,xs,i,z,rfl,rfl,hq,he,q⟩:=h;cases rx;obtain⟨t,rfl⟩:=ry;obtain⟨its,r,pl,hz⟩:=I.tuple hq;obtain⟨j,h1,h2,h3,h4,h5⟩:=A9 he;obtain⟨w,ew,d9⟩:=r.get h2;have hl:=r.length;have hn:=tV;have fin:EP X pins σ Q w s:=⟨z,H,I,d9,q⟩;exact subscriptTail_builtinR (x:=w) pl.typeIs slot_tuple_getitem.lookup
  (getItem_tuple (j:=j) (Q:=λr s'=>r=w/\EP X pins σ Q r s') pl (by omega) (by omega) (by rw[Aw,<- hl];exact h1) (by simpa using ew) ⟨rfl,fin⟩) hs
def MX:tZ X BD:=by
 intro value slice pins s σ H x y v u Q I rx ry h hs;obtain⟨z,i,c,rfl,rfl,hz,he,q⟩:=h;obtain⟨t,rfl⟩:=rx;obtain⟨t',rfl⟩:=ry;obtain⟨j,h1,h2,h3,h4,h5⟩:=A9 he;have hl:z.cps.toList.length=z.length:=by simp[Str.length]
 rw[hl]at h1 h4 h5;have hn:=tV;exact tail_any (typeIs_str s z t) slot_str_getitem.lookup (getItem_str (c:=c) (by
  have e1:decide (i < -(2 ^ 63:Int))=false:=BR (by omega);have e2:decide (i>=2 ^ 63)=false:=BR (by omega);rw[e1,e2,Bool.or_false]) (by rw[h1];simpa using h2) ⟨.str ⟨#[c]⟩,H,I.tok _,⟨_,rfl⟩,q⟩) hs
def Wr(lo hi:Option Int)(n:Nat):(sliceBounds lo hi none n).1=((HT.fY n 0 lo:Nat):Int)/\(sliceBounds lo hi none n).2.1=((HT.fY n n hi:Nat):Int)/\(sliceBounds lo hi none n).2.2=1:=by
 refine⟨?_,?_,rfl⟩
 ·cases lo with
  | none=>simp[sliceBounds,HT.fY]
  | some i=>
   simp only[sliceBounds,HT.fY,Option.getD_none,show(1:Int) > 0 by decide,DN]
   by_cases h:i < 0
   ·simp only[h,DN] <;> omega
   ·simp only[h,CV] <;> omega
 ·cases hi with
  | none=>simp[sliceBounds,HT.fY]
  | some i=>
   simp only[sliceBounds,HT.fY,Option.getD_none,show(1:Int) > 0 by decide,DN]
   by_cases h:i < 0
   ·simp only[h,DN] <;> omega
   ·simp only[h,CV] <;> omega
def Ws(its:Ô)(lo hi:Option Int):slicePick its.toArray lo hi none=((its.drop<|HT.fY its.length 0 lo).take<|HT.fY its.length its.length hi - HT.fY its.length 0 lo).toArray:=by
 obtain⟨h1,h2,h3⟩:=Wr lo hi its.toArray.size;unfold slicePick;rw[h1,h2,h3];simp only[sliceRange_one,pick_run,Aw] <;> rfl
def BE(K:PySem.W.Frag):V->Option Int->Option Int->Hp->VK->Prop:=λx lo hi H Q=>∃ a xs,x = .ref a/\aq K H a xs/\∀ p,H p=none->Q (.ref p) (upd H p<|.lst<|f7 xs lo hi)
def MY:A8 X (BE X.K):=by
 intro pins s σ H x v vl vu lo hi sl Q I rx hs pl pu h;obtain⟨a,xs,rfl,hx,q⟩:=h;cases rx;obtain⟨its,r,ht,hz⟩:=I.list hx;have hlen:=r.length;refine⟨"list",_,slot_list_getitem.lookup,ht.isList.typeIs,?_⟩;refine wpAny_getItem_list_slice ht.isList hs pl pu .none (by simp) ?_ (by rw[Aw] <;> omega);rw[Ws,<- hlen];refine⟨.ref s.heap.objs.size,_,I.laid (t':=s.toks) (o:= .lst<|f7 xs lo hi) (λb ob q=>Ag _ q) (An _) ?_,rfl,q _<|I.aE.fresh<|An _⟩;exact⟨By (Wn xs lo hi) hz,_,0,(r.drop<|HT.fY xs.length 0 lo).take<|HT.fY xs.length xs.length hi - HT.fY xs.length 0 lo,At _ rfl⟩
def jP:V->Bool
 | .non=>true
 | .bl _=>true
 | .int _=>true
 | .str _=>true
 | _=>false
def cM:V->V->Bool
 | .non,.non=>true
 | .bl a,.bl b=>a == b
 | .bl a,.int b=>(if a then 1 else 0) == b
 | .int a,.bl b=>a == (if b then 1 else 0)
 | .int a,.int b=>a == b
 | .str a,.str b=>a == b
 | _,_=>false
theorem MZ{A:Around}{s:Shared}{y x:V}{u v:Value}(ry:RelV y u)(rx:RelV x v)(fy:jP y=true)(fx:jP x=true):SeqAt.EqAt A s u v (cM y x):=by
 cases y with
 | non=>
  cases ry;cases x with
  | non=>cases rx;exact SeqAt.EqAt.same _
  | bl b=>cases rx;exact SeqAt.EqAt.none_bool b
  | int b=>obtain⟨t,rfl⟩:=rx;exact SeqAt.EqAt.none_int b t
  | str b=>obtain⟨t,rfl⟩:=rx;exact SeqAt.EqAt.none_str b t
  | _=>exact absurd (show false=true from fx) Av
 | bl a=>
  cases ry;cases x with
  | non=>cases rx;exact SeqAt.EqAt.bool_none a
  | bl b=>cases rx;exact SeqAt.EqAt.bool_bool a b
  | int b=>obtain⟨t,rfl⟩:=rx;exact SeqAt.EqAt.bool_int a b t
  | str b=>obtain⟨t,rfl⟩:=rx;exact SeqAt.EqAt.bool_str a b t
  | _=>exact absurd (show false=true from fx) Av
 | int a=>
  obtain⟨t',rfl⟩:=ry;cases x with
  | non=>cases rx;exact SeqAt.EqAt.int_none a t'
  | bl b=>cases rx;exact SeqAt.EqAt.int_bool a t' b
  | int b=>obtain⟨t,rfl⟩:=rx;exact SeqAt.EqAt.int_int a t' b t
  | str b=>obtain⟨t,rfl⟩:=rx;exact SeqAt.EqAt.int_str a t' b t
  | _=>exact absurd (show false=true from fx) Av
 | str a=>
  obtain⟨t',rfl⟩:=ry;cases x with
  | non=>cases rx;exact SeqAt.EqAt.str_none a t'
  | bl b=>cases rx;exact SeqAt.EqAt.str_bool a t' b
  | int b=>obtain⟨t,rfl⟩:=rx;exact SeqAt.EqAt.str_int a t' b t
  | str b=>obtain⟨t,rfl⟩:=rx;exact SeqAt.EqAt.str_str a t' b t
  | _=>exact absurd (show false=true from fx) Av
 | _=>exact absurd (show false=true from fy) Av
def g7(x:V)(u:Value):Bool:=match u with
 | .none=>cM .non x
 | .bool b=>cM (.bl b) x
 | .int i _=>cM (.int i) x
 | .str z _=>cM (.str z) x
 | _=>false
theorem M0{x y:V}{u:Value}(r:RelV y u)(f:jP y=true):g7 x u=cM y x:=by
 cases y with
 | non=>cases r;rfl
 | bl b=>cases r;rfl
 | int i=>obtain⟨t,rfl⟩:=r;rfl
 | str z=>obtain⟨t,rfl⟩:=r;rfl
 | _=>exact absurd (show false=true from f) Av
theorem t8{x:V}:∀{xs:List V} {us:Ô},ay xs us->xs.all jP=true->us.any (g7 x)=xs.any λy=>cM y x
 | _,_,.nil,_=>rfl
 | y :: xs,u :: us,.cons r t,f=>by
  rw[Gx,Bn]at f;rw[Fq,Fq,M0 r f.1,t8 t f.2]
theorem t9{A:Around}{s:Shared}{x:V}{v:Value}(rx:RelV x v)(fx:jP x=true):∀{xs:List V} {us:Ô},ay xs us->xs.all jP=true->∀ u∈us,SeqAt.EqAt A s u v<|g7 x u
 | _,_,.nil,_=>λu hu=>by cases hu
 | y :: xs,u :: us,.cons r t,f=>λu' hu=>by
  rw[Gx,Bn]at f
  rcases Aj.mp hu with rfl | hu
  ·rw[M0 r f.1];exact MZ r rx f.1 fx
  ·exact t9 rx fx t f.2 u' hu
def rq(x:V)(xs:List V):Bool:=xs.any λy=>cM y x
def M1(K:PySem.W.Frag)(neg:Bool):R2:=λx y H Q=>∃ p xs,y = .ref p/\(aq K H p xs\/aJ K H p xs)/\jP x=true/\xs.all jP=true/\Q (.bl (if neg then !rq x xs else rq x xs)) H
def lP:cK X (compareOp .In) (M1 X.K false):=by
 intro pins s σ H x y v u Q I rx ry h;obtain⟨p,xs,rfl,hq,fx,fs,q⟩:=h;cases ry
 rcases hq with hq | hq
 ·obtain⟨its,r,pl,hz⟩:=I.list hq;refine SeqAt.in_listAt (g7 x) pl.isList (λw hw=>t9 rx fx r fs w<|by simpa using hw) ⟨.bl _,H,I,rfl,?_⟩;rw[show its.toArray.any (g7 x)=its.any (g7 x) by simp,t8 r fs];exact q
 ·obtain⟨its,r,pl,hz⟩:=I.tuple hq;refine SeqAt.in_tupleAt (g7 x) pl (λw hw=>t9 rx fx r fs w<|by simpa using hw) ⟨.bl _,H,I,rfl,?_⟩;rw[show its.toArray.any (g7 x)=its.any (g7 x) by simp,t8 r fs];exact q
def BF:cK X (compareOp .NotIn) (M1 X.K true):=by
 intro pins s σ H x y v u Q I rx ry h;obtain⟨p,xs,rfl,hq,fx,fs,q⟩:=h;cases ry
 rcases hq with hq | hq
 ·obtain⟨its,r,pl,hz⟩:=I.list hq;refine SeqAt.notIn_listAt (g7 x) pl.isList (λw hw=>t9 rx fx r fs w<|by simpa using hw) ⟨.bl _,H,I,rfl,?_⟩;rw[show its.toArray.any (g7 x)=its.any (g7 x) by simp,t8 r fs];exact q
 ·obtain⟨its,r,pl,hz⟩:=I.tuple hq;refine SeqAt.notIn_tupleAt (g7 x) pl (λw hw=>t9 rx fx r fs w<|by simpa using hw) ⟨.bl _,H,I,rfl,?_⟩;rw[show its.toArray.any (g7 x)=its.any (g7 x) by simp,t8 r fs];exact q
def dE:eZ X (.builtin "len") (λxs H Q=>∃ p ys,xs=[.ref p]/\(aq X.K H p ys\/aJ X.K H p ys)/\Q (.int ys.length) H):=by
 intro pins s σ H xs us Q I r h;obtain⟨p,ys,rfl,hq,q⟩:=h;obtain⟨u,rfl,rx⟩:=vals1 r;cases rx;have hn:=tV
 rcases hq with hq | hq
 ·obtain⟨its,r',pl,hz⟩:=I.list hq;have hlen:=r'.length;exact Calls.call_len_list pl.isList (by simp only[Aw] <;> omega) ⟨.int ys.length,H,I.tok _,⟨s.toks+1,by rw[Aw,hlen]⟩,q⟩
 ·obtain⟨its,r',pl,hz⟩:=I.tuple hq;have hlen:=r'.length;exact len_tuple pl (by simp only[Aw] <;> omega) ⟨.int ys.length,H,I.tok _,⟨s.toks+1,by rw[Aw,hlen]⟩,q⟩
def Wt:eZ X (.type "list") (λxs H Q=>∃ p ys,xs=[.ref p]/\(aq X.K H p ys\/aJ X.K H p ys)/\∀ l,H l=none->Q (.ref l) (upd H l<|.lst ys)):=by
 intro pins s σ H xs us Q I r h;obtain⟨p,ys,rfl,hq,q⟩:=h;obtain⟨u,rfl,rx⟩:=vals1 r;cases rx;have fin:∀(its:Ô),ay ys its->ys.length<=sizeLine->∀(h':Heap) (c':Nat),(∀ b o',s.heap.get? b=some o'->h'.get? b=some o') ->
   h'.get? s.heap.objs.size=some {cls:= .type "list",dict:=none,data:= .seq its.toArray c',slots:=#[]}->EP X pins σ Q (.ref s.heap.objs.size) {s with heap:=h'}:=λits r' hz h' c' kp e=>
  ⟨.ref s.heap.objs.size,_,I.laid (t':=s.toks) kp (An _) (show aB X.prog X.w _ h' _ (.lst ys) from⟨hz,its,c',r',e⟩),rfl,q _<|I.aE.fresh<|An _⟩
 rcases hq with hq | hq
 ·obtain⟨its,r',pl,hz⟩:=I.list hq;have hlen:=r'.length;obtain⟨o,ho,hc,n,hd⟩:=pl.isList;exact call_list_seq p (.inl rfl) ho hc hd (λh' c' kp e=>fin its r' hz h' c' kp e)<|by simp only[Aw] <;> omega
 ·obtain⟨its,r',pl,hz⟩:=I.tuple hq;have hlen:=r'.length;obtain⟨o,ho,hc,n,hd⟩:=pl;exact call_list_seq p (.inr rfl) ho hc hd (λh' c' kp e=>fin its r' hz h' c' kp e)<|by simp only[Aw] <;> omega
def lQ(K:PySem.W.Frag)(T:String)(x:V)(H:Hp):Prop:=match x with
 | .str _=>T = "str"
 | .int _=>T = "int"
 | .ref p=>(T = "list"/\∃ xs,aq K H p xs)\/(T = "tuple"/\∃ o,K.lookup p=some o/\o.cls = .type "tuple"/\o.dict=none) \/
   (T = "dict"/\((∃ kvs,H p=some (.dK kvs))\/∃ kvs,H p=some (.dT kvs)))\/(T = "set"/\∃ S n,H p=some (.set S n))
 | _=>False
theorem M3{pins:Ñ}{σ:St}{H:Hp}{s:Shared}{T:String}{x:V}{v:Value}(I:Inv X pins σ H s)(r:RelV x v)(ty:lQ X.K T x H) :
  s.TypeIs v T/\∀ a,v = .ref a->∃ ob,s.heap.get? a=some ob/\ob.dict=none:=by
 cases x with
 | str z=>
  obtain⟨t,rfl⟩:=r;cases (show T = "str" from ty);exact⟨typeIs_str s z t,λ_ e=>nomatch e⟩
 | int i=>
  obtain⟨t,rfl⟩:=r;cases (show T = "int" from ty);exact⟨typeIs_int s i t,λ_ e=>nomatch e⟩
 | ref p=>
  cases r
  rcases ty with ⟨rfl,xs,hq⟩ | ⟨rfl,o,hk,hc,hd⟩ | ⟨rfl,hk⟩ | ⟨rfl,S,n,hk⟩
  ·obtain⟨its,_,pl,_⟩:=I.list hq;refine⟨pl.isList.typeIs,λa e=>?_⟩;cases e;obtain⟨o,n,e,c,hd,_⟩:=pl;exact⟨o,e,hd⟩
  ·refine⟨⟨o,I.dL p o hk,hc⟩,λa e=>?_⟩;cases e;exact⟨o,I.dL _ o hk,hd⟩
  ·have z:∃ o,s.heap.get? p=some o/\o.ExactDict:=by
    rcases hk with ⟨kvs,hk⟩ | ⟨kvs,hk⟩
    ·obtain⟨_,_,_,_,o,_,_,e,ex,_⟩:=I.aE p _ hk;exact⟨o,e,ex⟩
    ·obtain⟨_,_,_,_,o,_,_,e,ex,_⟩:=I.aE p _ hk;exact⟨o,e,ex⟩
   obtain⟨o,e,ex⟩:=z;refine⟨⟨o,e,ex.1⟩,λa e2=>?_⟩;cases e2;exact⟨o,e,ex.2.1⟩
  ·obtain⟨o,_,_,_,e,ex,_⟩:=I.aE p _ hk;refine⟨⟨o,e,ex.1⟩,λa e2=>?_⟩;cases e2;exact⟨o,e,ex.2.1⟩
 | _=>exact False.elim ty
def BG(K:PySem.W.Frag)(T:String)(r:V->List V->Hp->VK->Prop)(to:TE):TE:=λσ H Q=>to σ H λx H1=>lQ K T x H1/\r x [] H1 Q
def Wu(K:PySem.W.Frag)(T:String)(r:V->List V->Hp->VK->Prop)(to:TE)(t:TA):TE:=λσ H Q=>to σ H λx H1=>lQ K T x H1/\t σ H1 λxs H2=>r x xs H2 Q
variable{o e:Expr}{es:Õ}{to:TE}{t:TA}{name:Str}{apos dP:Pos}{T id:String}{r:V->List V->Hp->VK->Prop}
def Wv(pa:PlainAttrs T)(slot:Slot T name id)(lR:typeOf (.builtin id)=pure (.type "method_descriptor"))(hm:t6 X id r)(ho:PE X o to)
  (bP:attributeBase o name X.env (eval o X.env)=eval o X.env:=by rfl) (hline:(apos.endLine == dP.line)=true:=by rfl):PE X (.Call (.Attribute o name apos) [] [] dP) (BG X.K T r to):=by
 intro pins s σ H Q I h;refine wpAny_Call_method0_late bP hline<|aN (ho pins s σ H _ I h) λv s1 ⟨x,H1,I1,r1,ty,q1⟩=>?_;obtain⟨h1,h2⟩:=M3 I1 r1 ty;exact⟨T,id,pa,slot,lR,h1,h2,JL rfl (PySem.evalArgs_none<|hm pins s1 σ H1 x [] v [] Q I1 r1 .nil q1)⟩
def BH(pa:PlainAttrs T)(slot:Slot T name id)(lR:typeOf (.builtin id)=pure (.type "method_descriptor"))(hm:t6 X id r)(ho:PE X o to)(ha:PA X (e :: es) t)
  (bP:attributeBase o name X.env (eval o X.env)=eval o X.env:=by rfl)
  (cG : ((backTo dP<|starEach (e :: es) X.env).all (λx => !x.1) && (backToKw dP<|keywordEach [] X.env).all (λx => x.1.isSome)
   && decide ((e :: es).length+([]:List Keyword).length+(if([]:List Keyword).isEmpty then 0 else 1) < 30))=true:=by rfl)
  (hline:(apos.endLine == dP.line)=true:=by rfl) (hs:starEach (e :: es) X.env=(false,eval e X.env) :: starEach es X.env:=by rfl) (bX:(backTo dP<|starEach es X.env).any (·.1)=false:=by rfl) :
  PE X (.Call (.Attribute o name apos) (e :: es) [] dP) (Wu X.K T r to t):=by
 intro pins s σ H Q I h;refine wpAny_Call_method_late bP cG hline rfl (aN (ho pins s σ H _ I h) λv s1 ⟨x,H1,I1,r1,ty,q1⟩=>?_);obtain⟨h1,h2⟩:=M3 I1 r1 ty;refine⟨T,id,pa,slot,lR,h1,h2,?_⟩;have hA:=ha dP pins s1 σ H1 _ I1 q1;rw[hs]at hA ⊢;refine JL (by show(false || (backTo dP<|starEach es X.env).any (·.1))=false;rw[bX] <;> rfl)<|NZ ?_;exact aN hA λus s2 ⟨vs,H2,I2,r2,q2⟩=>hm pins s2 σ H2 x vs v us Q I2 r1 r2 q2
end
def o9(X:Cx)(id:String)(r:V->List V->Hp->VK->Prop):Prop:=
 ∀(pins:Ñ) (s:Shared) (σ:St) (H:Hp) (x:V) (xs:List V) (v:Value) (us:Ô) (Q:VK),Inv X pins σ H s->RelV x v->ay xs us->r x xs H Q ->
  wpAny (model X.prog X.w) X.A (call (.builtin id)<|v :: us) (EP X pins σ Q) X.xe s
theorem ay.hd{x:V}{xs:List V}{us:Ô}(h:ay (x :: xs) us):∃ u vs,us=u :: vs/\RelV x u/\ay xs vs:=by
 cases h with
 | cons r t=>exact⟨_,_,rfl,r,t⟩
def ay.nl{us:Ô}(h:ay [] us):us=[]:=by
 cases h;rfl
def ay.one{x:V}{us:Ô}(h:ay [x] us):∃ u,us=[u]/\RelV x u:=by
 obtain⟨u,vs,rfl,r,t⟩:=h.hd;rw[t.nl];exact⟨u,rfl,r⟩
def ay.two{x y:V}{us:Ô}(h:ay [x,y] us):∃ u v,us=[u,v]/\RelV x u/\RelV y v:=by
 obtain⟨u,vs,rfl,r,t⟩:=h.hd;obtain⟨v,ws,rfl,q,t⟩:=t.hd;rw[t.nl];exact⟨u,v,rfl,r,q⟩
theorem ay.zero:∀{us:Ô},ay [] us->us=[]
 | _,.nil=>rfl
theorem ay.dropLast{xs:List V}{us:Ô}(h:ay xs us):ay xs.dropLast us.dropLast:=by
 induction h with
 | nil=>exact .nil
 | cons r t ih=>
  cases t with
  | nil=>exact .nil
  | cons q t'=>exact .cons r ih
theorem ay.eraseIdx:∀{xs:List V} {us:Ô} (i:Nat),ay xs us->ay (xs.eraseIdx i) (us.eraseIdx i)
 | _,_,_,.nil=> .nil
 | _,_,0,.cons _ t=>t
 | _,_,i+1,.cons r t=> .cons r<|ay.eraseIdx i t
theorem Ww{α:Type}(l:List α):l.eraseIdx (l.length - 1)=l.dropLast:=by
 induction l with
 | nil=>rfl
 | cons a r ih=>
  cases r with
  | nil=>rfl
  | cons b r=>
   have e:(a :: b :: r).length - 1=((b :: r).length - 1)+1:=by
    have h1:(a :: b :: r).length=r.length+2:=rfl;have h2:(b :: r).length=r.length+1:=rfl;omega
   rw[e,RQ,ih]
   all_goals rfl
theorem M4{α:Type}:∀(l:List α) (i:Nat),(l.eraseIdx i).length<=l.length
 | [],_=>An _
 | _ :: _,0=>Ek _
 | _ :: r,i+1=>Nat.succ_le_succ<|M4 r i
section
variable{X:Cx}{pins:Ñ}{σ:St}{H:Hp}{s:Shared}{l b:Addr}{xs ys zs:List V}
def Inv.jQ{its its':Ô}{n:Nat}{f:Array Value->Array Value}{t':Nat}(I:Inv X pins σ H s)(hH:H l=some (.lst xs))
  (e:s.heap.get? l=some {cls:= .type "list",data:= .seq its.toArray n}) (hf:f its.toArray=its'.toArray) (hv:ay ys its') (hz:ys.length<=sizeLine) :
  Inv X pins σ (upd H l<|.lst ys) {s with heap:=s.heap.update l<|Obj.mapSeq f,toks:=t'}:=by
 have q:=PySem.IsL.update e f;rw[hf]at q;refine I.write (x:=l) (e:=l) (by rw[hH];exact trivial) (.inl rfl) (λb' u hb hu=>(Bw s.heap (Obj.mapSeq f)<|CG hb).trans hu) ⟨_,q⟩ ?_;exact⟨hz,its',_,hv,q⟩
def Inv.ua{its:Ô}{t':Nat}(I:Inv X pins σ H s)(hv:ay ys its)(hz:ys.length<=sizeLine) :
  Inv X pins σ (upd H s.heap.objs.size<|.lst ys) {s with heap:=s.heap.push {cls:= .type "list",data:= .seq its.toArray},toks:=t'}:=
 I.laid (λ_ _ q=>Ag _ q) (An _) ⟨hz,its,0,hv,At _ rfl⟩
def Inv.fresh(I:Inv X pins σ H s):H s.heap.objs.size=none:=I.aE.fresh<|An _
def Inv.f9(I:Inv X pins σ H s)(hH:H l=some (.lst xs)):xs.length<=sizeLine/\∃(its:Ô) (n:Nat),ay xs its/\xs.length=its.length/\s.heap.get? l=some {cls:= .type "list",data:= .seq its.toArray n}:=by
 obtain⟨z,its,n,r,e⟩:=I.aE l _ hH;exact⟨z,its,n,r,r.length,e⟩
def Wx{n:Nat}(h:n<=sizeLine):Builtin.List.listTooLong n=false:=by
 unfold Builtin.List.listTooLong;exact BR<|by omega
end
section
variable{X:Cx}
def Wy:V->List V->Hp->VK->Prop:=λx vs H Q=>∃ l xs y,x = .ref l/\vs=[y]/\H l=some (.lst xs)/\xs.length < sizeLine/\Q .non (upd H l<|.lst<|xs++[y])
def M5:o9 X "list.append" Wy:=by
 intro pins s σ H x vs v us Q I rx rv h;obtain⟨l,xs,y,rfl,rfl,hH,hz,q⟩:=h;cases rx;obtain⟨u,rfl,ru⟩:=rv.one;obtain⟨z,its,n,r,hl,e⟩:=I.f9 hH;refine OD F.slot_list_append ⟨_,e,rfl⟩ F.entry_list_append (F.args_list_append_2 _ _) (PySem.list_append l its.toArray n u<|by rw[Aw];omega) ⟨e,?_⟩;refine⟨.non,_,I.jQ (its':=its++[u]) hH e (by simp) (r.append<|.cons ru .nil) ?_,rfl,q⟩;rw[Af,Ct];omega
def Wz:V->List V->Hp->VK->Prop:=λx vs H Q=>∃ l b xs zs,x = .ref l/\vs=[.ref b]/\H l=some (.lst xs)/\H b=some (.lst zs)/\xs.length+zs.length<=sizeLine/\Q .non (upd H l<|.lst<|xs++zs)
def WB:o9 X "list.extend" Wz:=by
 intro pins s σ H x vs v us Q I rx rv h;obtain⟨l,b,xs,zs,rfl,rfl,hH,hB,hz,q⟩:=h;cases rx;obtain⟨u,rfl,ru⟩:=rv.one;cases ru;obtain⟨z,its,n,r,hl,e⟩:=I.f9 hH;obtain⟨z2,dQ,n2,r2,iW,e2⟩:=I.f9 hB;have hsz:its.toArray.size+dQ.toArray.size<=sizeLine:=by rw[Aw,Aw];omega
 have ub:¬(!its.toArray.isEmpty && Builtin.List.listTooLong (its.toArray.size+dQ.toArray.size))=true:=by
  rw[Wx hsz,Gv];exact Av
 refine OD F.slot_list_extend ⟨_,e,rfl⟩ F.entry_list_extend (F.args_list_extend_2 _ _)
  (AutoSeq1.list_extend_list_list_0 l its.toArray n b dQ.toArray n2 ub (by rw[Aw];omega)<|by omega) ⟨e,e2,?_⟩
 refine⟨.non,_,I.jQ (its':=its++dQ) hH e (by simp) (r.append r2) ?_,rfl,q⟩;rw[Af];omega
def BI:V->List V->Hp->VK->Prop:=λx vs H Q=>∃ l xs y,x = .ref l/\vs=[]/\H l=some (.lst xs)/\xs[xs.length - 1]?=some y/\Q y (upd H l<|.lst xs.dropLast)
def WC:o9 X "list.pop" BI:=by
 intro pins s σ H x vs v us Q I rx rv h;obtain⟨l,xs,y,rfl,rfl,hH,hy,q⟩:=h;cases rx;have WD:=rv.zero;subst WD;obtain⟨z,its,n,r,hl,e⟩:=I.f9 hH;obtain⟨u,hu,ru⟩:=r.get hy;have WG:its.toArray[its.toArray.size - 1]?=some u:=by
  show its.toArray[its.length - 1]?=some u;rw[<- Bs,<- hl];exact hu
 refine OD F.slot_list_pop ⟨_,e,rfl⟩ F.entry_list_pop (F.args_list_pop_1 _) (MeetsSeq.list_pop_last l its.toArray n u WG<|by rw[Aw];omega) ⟨e,?_⟩;refine⟨y,_,I.jQ (its':=its.dropLast) hH e ?_ r.dropLast ?_,ru,q⟩
 ·show its.toArray.eraseIdxIfInBounds (its.toArray.size - 1)=its.dropLast.toArray;rw[Aw,NK,Ww]
 ·rw[List.length_dropLast];omega
def WH:V->List V->Hp->VK->Prop:=λx vs H Q=>∃ l xs i k y,x = .ref l/\vs=[.int i]/\H l=some (.lst xs)/\-(2 ^ 63)<=i/\i < 2 ^ 63/\seqIndex? i xs.length=some k/\xs[k]?=some y/\Q y (upd H l<|.lst<|xs.eraseIdx k)
def WK:o9 X "list.pop" WH:=by
 intro pins s σ H x vs v us Q I rx rv h;obtain⟨l,xs,i,k,y,rfl,rfl,hH,h1,h2,hk,hy,q⟩:=h;cases rx;obtain⟨u,rfl,ru⟩:=rv.one;obtain⟨t,rfl⟩:=ru;obtain⟨z,its,n,r,hl,e⟩:=I.f9 hH;obtain⟨w,hw,d9⟩:=r.get hy;refine OD F.slot_list_pop ⟨_,e,rfl⟩ F.entry_list_pop (F.args_list_pop_2 _ _)
  (MeetsSeq.list_pop_at l its.toArray n i t k w (fitsIndex_both h1 h2) (by rw[Aw,<- hl];exact hk) (by rw[<- Bs];exact hw)<|by rw[Aw];omega) ⟨e,?_⟩
 refine⟨y,_,I.jQ (its':=its.eraseIdx k) hH e ?_ (r.eraseIdx k) ?_,d9,q⟩
 ·show its.toArray.eraseIdxIfInBounds k=(its.eraseIdx k).toArray;rw[NK]
 ·have:=M4 xs k;omega
def BM:R2:=λx y H Q=>∃ l b xs zs,x = .ref l/\y = .ref b/\H l=some (.lst xs)/\H b=some (.lst zs)/\xs.length+zs.length<=sizeLine/\∀ p,H p=none->Q (.ref p) (upd H p<|.lst<|xs++zs)
def WL:cK X (binaryOp .Add) BM:=by
 intro pins s σ H x y v u Q I rx ry h;obtain⟨l,b,xs,zs,rfl,rfl,hH,hB,hz,q⟩:=h;cases rx;cases ry;obtain⟨z,its,n,r,hl,e⟩:=I.f9 hH;obtain⟨z2,dQ,n2,r2,iW,e2⟩:=I.f9 hB;refine PySem.P.add_list e e2 ?_ (by rw[Aw,Aw];omega);have ea:its.toArray++dQ.toArray=(its++dQ).toArray:=by simp
 rw[ea];exact⟨.ref _,_,I.ua (t':=s.toks) (r.append r2) (by rw[Af];omega),rfl,q _ I.fresh⟩
end
section
variable{prog:Program}{w:World}{A:Around}{E:Ï}{s:Shared}
end
section
variable{X:Cx}
end
end L2
namespace M6
open PySem PySem.W PySem.Calls PyProof.Rows
theorem WM{P:Params}{h:Heap}:∀(ns:List Int) (vs:Ô),WellAll P h vs (ns.map WData.int)->IntsAre vs ns:=by
 intro ns
 induction ns with
 | nil=>
  intro vs w;rw[List.map_nil]at w;cases w;exact .nil
 | cons n ns ih=>
  intro vs w;rw[Bi]at w;cases w with
  | cons a b=>
   cases a;exact .cons _ _<|ih _ b
theorem WN{l:OpenLaw}{n:Nat}(hn:l.most=some n){P:Params}{h:Heap}{args:List WData}{vals:Ô}
  (lS:l.row.toRowW.claim.pre args=true) (BO:WellAll P h vals args) :
  ∃ a vs ns,vals=[Value.ref a]/\args=[WData.list<|ns.map WData.int]/\h.get? a=some {cls:= .type "list",data:= .seq vs.toArray}/\IntsAre vs ns/\ns.length<=n:=by
 have WO:WShape.hasAll [] args [.list .int]=true:=(pre_splitW lS).1;have hc:l.pre.holds [] {args:=args}=true:=(pre_splitW lS).2;obtain⟨d,r,rfl,h1,h2⟩:=hasAllW_cons WO;obtain rfl:=hasAllW_nil h2;obtain⟨xs,rfl,h3⟩:=hasW_list h1;obtain⟨ns,rfl⟩:=items_int h3;have hlen:ns.length<=n:=by
  unfold OpenLaw.pre at hc;have h4:(WTm.not<|.lt (.lit<|.int (n:Int))<|.len<|.arg 0).holds [] {args:=[.list<|ns.map .int]}=true:=by
   have h4:=(holds_andW hc).1;rw[hn]at h4;exact h4
  have h5:=condW_of h4<|w_not<|w_lt w_lit<|w_len_list<|w_arg rfl;rw[Aa]at h5;refine Nat.le_of_not_lt λq=>?_;have q':(n:Int) < ((ns.length:Nat):Int):=by omega
  first
   | (rw[BW q']at h5;exact absurd h5<|by decide)
   | (simp at h5;omega)
 cases BO with
 | cons w1 w2=>
  cases w2;cases w1 with
  | list ho BQ=>exact⟨_,_,ns,rfl,rfl,ho,WM ns _ BQ,hlen⟩
def WQ(l:OpenLaw)(args:List WData):l.row.toRowW.claim.post args (.bool true) args=true:=
 postW_of (r:=l.row.toRowW) (X:=(true == true))
  (show WShape.has [] (.bool true) .bool=true by first | rfl | decide | simp[WShape.has,WShape.arms,WShape.armsAll])
  (show(WTm.eq .res<|.lit<|.bool true).value [] {args:=args,res:=some<|.bool true,after:=args}=some (.bool<|true == true)from w_eq_bool (w_res rfl) w_lit) rfl
def gd{l:OpenLaw}{n:Nat}{q:Program}{loose:Ò}{XP:Ó->Heap->Prop}{YP:World->Heap->Prop}{d:DefRec}
  (hn:l.most=some n) (lT:d.params.defaults=[])
  (call : ∀ (w : World) (s₀ À : Shared) (mg mb : Str → Option Value) (fa : Addr) (o : Obj) (pm cd doc : Value) (a : Addr) (vs : List Value) (ns : List Int),
   Ground q loose [] XP w s₀ mg mb À.heap->YP w À.heap ->
   À.heap.get? fa=some o->o.data = .func (docDef d.name d.params d.body d.scope pm cd doc)->À.heap.CodeRec cd d.name->mg d.name=some (.ref fa) ->
   À.heap.get? a=some {cls:= .type "list",data:= .seq vs.toArray}->IntsAre vs ns->ns.length<=n->À.gens=#[] ->
   codeAny (model l.prog w) callerA (.call (.ref fa) ⟨[.ref a],[]⟩) (λr s'=>r = .ok (.ret<|.bool true)/\OldK À.heap s'.heap/\s'.os=À.os/\AllBare s'.gens) À) :
  WalkO q loose XP YP l.row.toRowW d [] (λf vs=>PySem.call f vs):=by
 intro w s₀ À mg mb G Y fa o pm cd doc dV kV ho hd iw hD uc hg args vals as lS hlay hrd BO hlo;obtain rfl:dV = .none:=Dflts.none hD lT;obtain rfl:kV = .none:=Dflts.noKw hD;obtain⟨a,vs,ns,rfl,rfl,g8,hints,hlen⟩:=WN hn lS BO;refine enter_call<|JB (call w s₀ À mg mb fa o pm cd doc a vs ns G Y ho (fd_plain hd) iw uc g8 hints hlen hg) λr s' hq=>?_;obtain⟨rfl,h2,h3,h4⟩:=hq;exact⟨.inl ⟨.bool true,.bool true,[],rfl,λ_=>rfl,.bool true,WQ l _,λ_=>⟨List.Pairwise.nil,λ_ hm=>(nomatch hm)⟩⟩,h2,h3,h4⟩
section
variable{prog:Program}{w:World}{A:Around}{E:Ï}{s:Shared}{K:Frag}
end
end M6
namespace L2
open PySem PySem.Spec PyProof.Rows
theorem M7:∀{vs:Ô} {ns:List Int},IntsAre vs ns->ay (ns.map V.int) vs
 | _,_,.nil=> .nil
 | _,_,.cons n t h=> .cons ⟨t,rfl⟩<|M7 h
def Only(H:Hp):Prop:=∀ b,H b=none\/∃ o xs,H b=some (.bI o<|.lst xs)
theorem WR{P:Program}{w:World}{K:PySem.W.Frag}{mg mb:Ó}{CX:fX}{k:Nat}{fa a:Addr}{fd:FuncData}{x:Str}{sp:Sp}{À:Shared}{vs:Ô}{ns:List Int}
  (KX:K.In À.heap) (xI:À.heap.Ns mainGlobals mg) (hb:À.heap.Ns builtinsNs mb) (WT:∀ x:Str,x ≠ "__name__"->mb x=bootBuiltins x) (BU:À.heap.NoLimit) (hg:À.gens=#[])
  (ha:À.heap.get? a=some {cls:= .type "list",data:= .seq vs.toArray}) (hi:IntsAre vs ns) (hl:ns.length<=sizeLine) (hr:bo k callerA)
  (F:∀ base:Heap,K.In base->base.Ns mainGlobals mg->aG P w K mg base CX k fa fd [x] sp) (ud:∀(s:Shared) (u:Value),BindsTo s fd ⟨[u],[]⟩ [(x,u)])
  (dD:∀ H:Hp,Only H->aq K H a (ns.map V.int)->sp [.ref a] H (λv _=>v = .bl true) λ_ _ _=>False)
  (BV:∀ H e s',CX [] H À (λ_ _ _=>False) e s'->False) :
  codeAny (model P w) callerA (.call (.ref fa) ⟨[.ref a],[]⟩) (λr s'=>r = .ok (.ret<|.bool true)/\OldK À.heap s'.heap/\s'.os=À.os/\AllBare s'.gens) À:=by
 have rv:=M7 hi;have B0:=hi.length;have core:∀ H:Hp,Only H->aq K H a (ns.map V.int)->b7 P w H À.heap->(∀ b,H b≠none->b=a)->(H a≠none->K.lookup a=none) ->
   codeAny (model P w) callerA (.call (.ref fa) ⟨[.ref a],[]⟩) (λr s'=>r = .ok (.ret<|.bool true)/\OldK À.heap s'.heap/\s'.os=À.os/\AllBare s'.gens) À:=by
  intro H hO hS aE hA hK;have iA:∀{b:Addr} {o:Obj},À.heap.get? b=some o->H b=none->(fj À.heap H).get? b=some o:=λe n=>U6 e n;have tX:∀{b:Addr} {o:Obj} {es:Array DictEntry} {ep:Nat},À.heap.get? b=some o->o.data = .dict es ep->H b=none:=λ{b o es ep} e d=>by
   cases q:H b with
   | none=>rfl
   | some u=>
    have e':b=a:=hA b (by rw[q];simp);subst e';rw[ha]at e;cases e;have d':Data.seq vs.toArray _=Data.dict es ep:=d;cases d'
  have xJ:∀{b:Addr} {m:Ó},À.heap.Ns b m->(fj À.heap H).Ns b m:=λ{b m} ⟨o,es,ep,e,d,r⟩=>⟨o,es,ep,iA e<|tX e d,d,r⟩;have M8:K.In (fj À.heap H):=λb o e=>iA (KX b o e)<|by
   cases q:H b with
   | none=>rfl
   | some u=>
    have e':b=a:=hA b (by rw[q];simp);subst e';rw[hK<|by rw[q];simp]at e;cases e
  have hM:Mod K mg (fj À.heap H):=⟨M8,xJ xI,⟨mb,xJ hb,WT⟩,let ⟨mc,h1,h2⟩:=BU;⟨mc,xJ h1,h2⟩⟩;have e0:lH P w K mg (fj À.heap H) callerA [] À H:=⟨rfl,hM,λb o e=>U7 e,Nat.le_of_eq<|U5 _ _,trivial,λb hb=>absurd (show b∈([]:List Addr)from hb) (by simp),aE,.of_eq hg⟩;refine JB ((F _ M8<|xJ xI).run callerA [] À H ⟨[.ref a],[]⟩ [.ref a] [.ref a] _ _ hr e0 (ud À<|.ref a) (.cons rfl .nil)<|dD H hO hS) λr s' h=>?_;cases r with
  | error e=>exact(BV H e s' h).elim
  | ok fl=>
   cases fl with
   | next=>exact False.elim h
   | brk=>exact False.elim h
   | cont=>exact False.elim h
   | ret u=>
    obtain⟨v,H',os,bare,un,B1,r',q⟩:=h;have q':v = .bl true:=q;subst q';obtain rfl:u=Value.bool true:=r';refine⟨rfl,OldK.of_keep λb o e=>?_,os,bare⟩;cases q:H b with
    | none=>exact un.keep b o e q (by intro z;exact absurd (show b∈([]:List Addr)from z)<|by simp)<|by simp
    | some u=>
     rcases hO b with z | ⟨ob,xs,z⟩
     ·rw[q]at z;cases z
     ·have z2:=un.dw b ob _ z;obtain⟨e1,_⟩:=aE b _ z;obtain⟨e2,_⟩:=B1 b _ z2;rw[e]at e1;cases e1;exact e2
 cases hk:K.lookup a with
 | some o=>
  have e:=KX a o hk;rw[ha]at e;cases e;refine core (λ_=>none) (λ_=> .inl rfl) (.inr ⟨_,vs.toArray,_,hk,rfl,rfl,rfl,by rw[Aw,B0];exact hl,by simpa using rv⟩) (λb u z=>by have z':(none:Option HO)=some u:=z;cases z') (λb z=>absurd rfl z) λz=>absurd rfl z
 | none=>
  refine core (λb=>if b=a then some (.bI {cls:= .type "list",data:= .seq vs.toArray}<|.lst<|ns.map V.int)else none) (λb=>?_) (.inl<|.inr ⟨{cls:= .type "list",data:= .seq vs.toArray},BP rfl⟩) (λb u z=>?_) (λb z=>?_) λ_=>hk
  ·by_cases hb:b=a
   ·exact .inr ⟨_,_,BP hb⟩
   ·exact .inl<|BL hb
  ·by_cases hb:b=a
   ·have z':=(BP hb).symm.trans z;cases z';subst hb;exact⟨ha,by rw[Aa];exact hl,vs,_,rv,ha⟩
   ·have z':=(BL hb).symm.trans z;cases z'
  ·by_cases hb:b=a
   ·exact hb
   ·exact absurd (BL hb) z
def lU{l:PySem.W.OpenLaw}{n k:Nat}{q:Program}{loose:Ò}{XP:Ó->Heap->Prop}{YP:World->Heap->Prop}{d:DefRec}{K:Params->PySem.W.Frag}{CX:World->fX}{sp:World->Sp}{x:Str}
  (hn:l.most=some n) (B2:n<=sizeLine) (lT:d.params.defaults=[]) (hr:bo k callerA)
  (hY:∀(w:World) (h:Heap),YP w h->(K w.params).In h)
  (F : ∀ (w : World) (mg : Str → Option Value) (fa : Addr) (h : Heap), (K w.params).In h → h.Ns mainGlobals mg → mg d.name = some (.ref fa) →
   ∃ fd:FuncData,(∀(s:Shared) (u:Value),BindsTo s fd ⟨[u],[]⟩ [(x,u)]) /\
    ∀ base:Heap,(K w.params).In base->base.Ns mainGlobals mg->aG l.prog w (K w.params) mg base (CX w) k fa fd [x] (sp w))
  (dD:∀(w:World) (H:Hp) (a:Addr) (ns:List Int),ns.length<=n->Only H->aq (K w.params) H a (ns.map V.int)->sp w [.ref a] H (λv _=>v = .bl true) λ_ _ _=>False)
  (BV:∀(w:World) (H:Hp) (s:Shared) (e:Value) (s':Shared),CX w [] H s (λ_ _ _=>False) e s'->False) :
  PySem.W.WalkO q loose XP YP l.row.toRowW d [] (λf vs=>PySem.call f vs):=by
 refine M6.gd hn lT λw s₀ À mg mb fa o pm cd doc a vs ns G Y ho hd iw uc g8 hints hlen hg=>?_;have KX:=hY w _ Y;obtain⟨fd,hb,hF⟩:=F w mg fa _ KX G.T.g uc;exact WR KX G.T.g G.T.b G.T.builtins G.T.nolimit hg g8 hints (By hlen B2) hr hF hb (λH hO hS=>dD w H a ns hlen hO hS) λH e s'=>BV w H À e s'
def nH(s:Stmt):Arguments:=match s with
 | .FunctionDef _ a _ _ _ _ _ _ _ _=>a
 | _=>{posonlyargs:=[],args:=[],vararg:=none,kwonlyargs:=[],kw_defaults:=[],kwarg:=none,defaults:=[]}
def iX(s:Stmt):Ö:=match s with
 | .FunctionDef _ _ b _ _ _ _ _ _ _=>b
 | _=>[]
def aU(s:Stmt):Scope:=match s with
 | .FunctionDef _ _ _ _ _ _ sc _ _ _=>sc
 | _=>{kind:= .function,names:=[],isGenerator:=false,isCoroutine:=false}
abbrev bH:fX:=λ_ _ _ _ _ _=>False
abbrev E0:XK:=λ_ _ _=>False
def jR{X:Cx}:lK bH X E0:=λ_ _ _ _ _ _ _ h=>h.elim
structure bE(K:PySem.W.Frag)(x qual:Str)(st:Stmt)(f:Addr)(fd:FuncData):Prop where
 ex:∃(oc:Value) (od:Option Addr) (kV doc pm:Value) (an:Option Addr) (bJ ct:Value) (jO:Array<|Option Value),
  fd=PySem.W.fnOf x qual (nH st) (iX st) (aU st) .none kV doc pm an bJ ct/\K.lookup f=some ⟨oc,od,.func fd,jO⟩/\PySem.W.codeIn K bJ qual=true
 kp:PySem.W.keepIn K (.ref f)=true
section
variable{P:Program}{w:World}{K:PySem.W.Frag}{mg:Ó}{base:Heap}
def bE.ok{x qual:Str}{st:Stmt}{f:Addr}{fd:FuncData}{N ps:Ò}{k:Nat}{sp:Sp}(F:bE K x qual st f fd)(S:ak N ps<|aU st)(len:∀ vs H Q E,sp vs H Q E->vs.length=ps.length)
  (cP : ∀ (bJ : Value) (A : Around) (outer : List Env) (s : Shared) (H : Hp) (vs : List V) (Q : VK) (E : XK), bo k (A.deeper<|envOfC qual (aU st) s.heap.objs.size f bJ) → sp vs H Q E →
   ∃ t,iU (c8 bH P w K mg base N qual (aU st) f bJ A outer s H E).rj (iX st) t/\t {nx:=λ_ H'=>Q .non H',rt:=Q} (start N vs) H):aG P w K mg base bH (k+1) f fd ps sp:=by
 obtain⟨oc,od,kV,doc,pm,an,bJ,ct,jO,rfl,lk,iw⟩:=F.ex;refine MU lk iw S len λA outer s H vs Q E hr dD=>?_;obtain⟨t,h,q⟩:=cP bJ A outer s H vs Q E hr dD;exact⟨t,h.rj,q⟩
def bE.binds{x qual:Str}{st:Stmt}{f:Addr}{fd:FuncData}{ps:Ò}(F:bE K x qual st f fd)
  (h:∀(kV doc pm:Value) (an:Option Addr) (bJ ct:Value) (us:Ô),us.length=ps.length->bindArgs (PySem.W.fnOf x qual (nH st) (iX st) (aU st) .none kV doc pm an bJ ct) ⟨us,[]⟩=pure (ps.zip us)):Binds K fd ps []:=by
 obtain⟨oc,od,kV,doc,pm,an,bJ,ct,jO,rfl,lk,iw⟩:=F.ex;exact .all<|h kV doc pm an bJ ct
def WU{x qual:Str}{st:Stmt}{f:Addr}{oc:Value}{od an:Option Addr}{jO:Array (Option Value)}{kV doc pm bJ ct:Value}(l:K.lookup f=some ⟨oc,od,.func<|PySem.W.fnOf x qual (nH st) (iX st) (aU st) .none kV doc pm an bJ ct,jO⟩)
  (c:PySem.W.codeIn K bJ qual=true) (k:PySem.W.keepIn K (.ref f)=true):bE K x qual st f (PySem.W.fnOf x qual (nH st) (iX st) (aU st) .none kV doc pm an bJ ct):=⟨⟨oc,od,kV,doc,pm,an,bJ,ct,jO,rfl,l,c⟩,k⟩
end
section
variable{X:Cx}
end
def bu{A B:Prop}(h:B):if false=true then A else B:=by
 rw[BL Av];exact h
def bY{A B:Prop}(h:A):if true=true then A else B:=by
 rw[BP rfl];exact h
def jS{c A B:Prop} [Decidable c] (h1:c->A) (h2:¬ c->B):if c then A else B:=by
 by_cases h:c
 ·rw[BP h];exact h1 h
 ·rw[BL h];exact h2 h
def aj(H H':Hp):Prop:=∀ b o,H b=some o->H' b=some o
def aj.refl(H:Hp):aj H H:=λ_ _ h=>h
def aj.trans{H H1 H2:Hp}(a:aj H H1)(b:aj H1 H2):aj H H2:=λc o h=>b c o<|a c o h
theorem aj.free{H H':Hp}(e:aj H H'){l:Addr}(h:H' l=Option.none):H l=Option.none:=by
 cases q:H l with
 | none=>rfl
 | some o=>
  rw[e l o q]at h;cases h
def aj.seq{K:PySem.W.Frag}{H H':Hp}{a:Addr}{xs:List V}(e:aj H H')(h:aq K H a xs):aq K H' a xs:=by
 rcases h with (h | ⟨o,h⟩) | h
 ·exact .inl<|.inl<|e _ _ h
 ·exact .inl<|.inr ⟨o,e _ _ h⟩
 ·exact .inr h
section
variable{κ:Type} [DecidableEq κ]
def aD(kvs:List<|κ×V)(k:κ):Option V:=(kvs.find? λkv=>decide (kv.1=k)).map (·.2)
def putK(kvs:List<|κ×V)(k:κ)(v:V):List (κ×V):=
 if(kvs.any λkv=>decide (kv.1=k))=true then kvs.map (λkv=>if kv.1=k then(kv.1,v)else kv)else kvs++[(k,v)]
def g9{p:κ×V}{r:List (κ×V)}{k:κ}(e:p.1=k):aD (p :: r) k=some p.2:=by simp[aD,Fb,e]
def gN{p:κ×V}{r:List (κ×V)}{k:κ}(e:¬ p.1=k):aD (p :: r) k=aD r k:=by simp[aD,Fb,e]
theorem rz(k:κ):∀ kvs:List<|κ×V,(kvs.any λkv=>decide (kv.1=k))=(aD kvs k).isSome
 | []=>rfl
 | p :: r=>by
  rw[Fq]
  by_cases e:p.1=k
  ·simp only[g9 e,BW e,Bool.true_or,Option.isSome_some]
  ·rw[gN e,BR e,Bool.false_or];exact rz k r
theorem M9(k j:κ)(y:V):∀ kvs:List<|κ×V,aD (kvs.map λkv=>if kv.1=k then(kv.1,y)else kv) j=(aD kvs j).map λx=>if j=k then y else x
 | []=>rfl
 | p :: r=>by
  have ih:=M9 k j y r;rw[Bi]
  by_cases h:p.1=k
  ·rw[BP h]
   by_cases e:p.1=j
   ·rw[g9 (p:=(p.1,y)) e,g9 e,Gp,BP<|e.symm.trans h]
   ·rw[gN (p:=(p.1,y)) e,gN e,ih]
  ·rw[BL h]
   by_cases e:p.1=j
   ·rw[g9 (p:=p) e,g9 e,Gp,BL λz=>h<|e.trans z]
   ·rw[gN (p:=p) e,gN e,ih]
theorem Nb(k j:κ)(y:V):∀ kvs:List<|κ×V,aD kvs k=none->aD (kvs++[(k,y)]) j=if j=k then some y else aD kvs j
 | [],_=>by
  by_cases e:k=j
  ·rw[BP e.symm];exact g9 (p:=(k,y)) e
  ·rw[BL λz=>e z.symm];exact gN (p:=(k,y)) e
 | p :: r,hn=>by
  rw[Fm];have hk:¬ p.1=k:=λz=>by rw[g9 z]at hn;cases hn
  rw[gN hk]at hn;have ih:=Nb k j y r hn
  by_cases e:p.1=j
  ·rw[g9 e,g9 e,BL λz=>hk<|e.trans z]
  ·rw[gN e,gN e,ih]
def dz(kvs:List<|κ×V)(k j:κ)(y:V):aD (putK kvs k y) j=if j=k then some y else aD kvs j:=by
 unfold putK
 by_cases a:(kvs.any λkv=>decide (kv.1=k))=true
 ·rw[BP a,M9];rw[rz]at a
  by_cases e:j=k
  ·obtain⟨x,hx⟩:=Er.mp a;rw[BP e,e,hx,Gp,BP rfl]
  ·rw[BL e];cases aD kvs j with
   | none=>rfl
   | some x=>rw[Gp,BL e]
 ·rw[BL a];refine Nb k j y kvs ?_;rw[rz]at a;cases q:aD kvs k with
  | none=>rfl
  | some x=>rw[q]at a;exact(a rfl).elim
def iB(kvs:List<|κ×V)(k:κ)(v:V):(putK kvs k v).length<=kvs.length+1:=by
 unfold putK
 split
 ·rw[Aa];omega
 ·rw[Af,Ap,Ej];omega
def Nc{kvs:List (κ×V)}{k:κ}(v:V)(h:aD kvs k=none):putK kvs k v=kvs++[(k,v)]:=by
 unfold putK;rw[rz,h];exact BL<|by decide
theorem dH.bV{o:Option V}{u:Option Value}(r:dH o u):o.isSome=u.isSome:=by
 cases o with
 | none=>cases u with
  | none=>rfl
  | some _=>exact(show False from r).elim
 | some _=>cases u with
  | none=>exact(show False from r).elim
  | some _=>rfl
theorem KV.val{kvs:List (κ×V)}{vs:List (κ×Value)}(r:KV kvs vs)(k:κ):dH (aD kvs k) (valueAt vs k):=by
 unfold KV at r
 induction r with
 | nil=>exact True.intro
 | @cons p q ps qs h t ih=>
  obtain⟨h1,h2⟩:=h
  by_cases e:p.1=k
  ·have e':q.1=k:=h1.symm.trans e;have b:valueAt (q :: qs) k=some q.2:=by simp[valueAt,Fb,e']
   rw[g9 e,b];exact h2
  ·have e':¬ q.1=k:=λz=>e<|h1.trans z;have b:valueAt (q :: qs) k=valueAt qs k:=by simp[valueAt,Fb,e']
   rw[gN e,b];exact ih
theorem KV.any{kvs:List (κ×V)}{vs:List (κ×Value)}(r:KV kvs vs)(k:κ):(kvs.any λkv=>decide (kv.1=k))=vs.any λkv=>decide (kv.1=k):=by
 unfold KV at r
 induction r with
 | nil=>rfl
 | cons h t ih=>rw[Fq,Fq,ih,h.1]
theorem KV.repl{kvs:List (κ×V)}{vs:List (κ×Value)}(r:KV kvs vs)(k:κ){y:V}{u:Value}(ry:RelV y u) :
  KV (kvs.map λkv=>if kv.1=k then(kv.1,y)else kv) (vs.map λkv=>if kv.1=k then(kv.1,u)else kv):=by
 unfold KV at r ⊢
 induction r with
 | nil=>exact .nil
 | @cons p q ps qs h t ih=>
  rw[Bi,Bi];refine .cons ?_ ih;obtain⟨h1,h2⟩:=h
  by_cases e:p.1=k
  ·rw[BP e,BP<|h1.symm.trans e];exact⟨h1,ry⟩
  ·rw[BL e,BL λz=>e<|h1.trans z];exact⟨h1,h2⟩
def KV.put{kvs:List (κ×V)}{vs:List (κ×Value)}(r:KV kvs vs)(k:κ){y:V}{u:Value}(ry:RelV y u):KV (putK kvs k y) (stored vs k u):=by
 unfold putK stored;rw[r.any k]
 by_cases e:(vs.any λkv=>decide (kv.1=k))=true
 ·rw[BP e,BP e];exact r.repl k ry
 ·rw[BL e,BL e];exact Paired.snoc r ⟨rfl,ry⟩
theorem KV.keys{kvs:List (κ×V)}{vs:List (κ×Value)}(r:KV kvs vs):kvs.map (·.1)=vs.map (·.1):=by
 unfold KV at r
 induction r with
 | nil=>rfl
 | cons h t ih=>rw[Bi,Bi,ih,h.1]
def KV.length{kvs:List (κ×V)}{vs:List (κ×Value)}(r:KV kvs vs):kvs.length=vs.length:=Paired.length r
end
theorem nI{P:Program}{w:World}{k:Key}{u:Value}(r:RelV (kV k) u):(dj P w).is k u=true:=by
 cases k with
 | inl i=>obtain⟨t,e⟩:=(show ∃ t,u=Value.int i t from r);subst e;exact U2 P w i t
 | inr x=>obtain⟨t,e⟩:=(show ∃ t,u=Value.str x t from r);subst e;exact U3 P w x t
theorem Nf{P:Program}{w:World}:∀{ks:List Key} {us:Ô},ay (ks.map kV) us->ItemsAre (dj P w) ks us
 | [],_,r=>by rw[List.map_nil]at r;cases r;exact .nil
 | k :: ks,_,r=>by
  rw[Bi]at r;cases r with
  | cons h t=>exact .cons (nI h)<|Nf t
abbrev KT(H:Hp):List (List Key×V)->List (List Key×Addr×Value)->Prop:=Paired λp q=>p.1=q.1/\H q.2.1=some (.tup<|p.1.map kV)/\RelV p.2 q.2.2
theorem KT.val{H:Hp}{kvs:List (List Key×V)}{xs:List (List Key×Addr×Value)}(r:KT H kvs xs)(k:List Key):dH (aD kvs k) ((atKey xs k).map (·.2)):=by
 induction r with
 | nil=>exact True.intro
 | @cons p q ps qs h t ih=>
  obtain⟨h1,_,h2⟩:=h
  by_cases e:p.1=k
  ·have e':q.1=k:=h1.symm.trans e;have b:atKey (q :: qs) k=some q.2:=by simp[atKey,Fb,e']
   rw[g9 e,b];exact h2
  ·have e':¬ q.1=k:=λz=>e<|h1.trans z;have b:atKey (q :: qs) k=atKey qs k:=by simp[atKey,Fb,e']
   rw[gN e,b];exact ih
theorem KT.repl{H:Hp}{kvs:List (List Key×V)}{xs:List (List Key×Addr×Value)}(r:KT H kvs xs)(k:List Key){y:V}{u:Value}(ry:RelV y u) :
  KT H (kvs.map λkv=>if kv.1=k then(kv.1,y)else kv) (xs.map<|putAt k u):=by
 induction r with
 | nil=>exact .nil
 | @cons p q ps qs h t ih=>
  rw[Bi,Bi];refine .cons ?_ ih;obtain⟨h1,h2,h3⟩:=h;unfold putAt
  by_cases e:p.1=k
  ·rw[BP e,BP<|h1.symm.trans e];exact⟨h1,h2,ry⟩
  ·rw[BL e,BL λz=>e<|h1.trans z];exact⟨h1,h2,h3⟩
def KT.put{H:Hp}{kvs:List (List Key×V)}{xs:List (List Key×Addr×Value)}(r:KT H kvs xs)(k:List Key){b:Addr}{y:V}{u:Value}(hb:H b=some (.tup<|k.map kV))(ry:RelV y u) :
  KT H (putK kvs k y) (storedH xs k b u):=by
 have e:(kvs.any λkv=>decide (kv.1=k))=(atKey xs k).isSome:=by
  rw[rz,(r.val k).bV,QW]
 unfold putK storedH;rw[e]
 by_cases q:(atKey xs k).isSome=true
 ·rw[BP q,BP q];exact r.repl k ry
 ·rw[BL q,BL q];exact Paired.snoc r ⟨rfl,hb,ry⟩
def KT.keeps{H H':Hp}{kvs:List (List Key×V)}{xs:List (List Key×Addr×Value)}(r:KT H kvs xs)(ht:∀ b ys,H b=some (.tup ys)->H' b=some (.tup ys)):KT H' kvs xs:=
 Paired.oM r λ_ _ z=>⟨z.1,ht _ _ z.2.1,z.2.2⟩
section
variable{P:Program}{w:World}{H:Hp}{h:Heap}{a:Addr}
def Ng{u:HO}(ok:b7 P w H h)(e:Rd H a u):aB P w H h a u:=e.ok ok
def rA{kvs:List (Key×V)}(ok:b7 P w H h)(e:Rd H a<|.dK kvs):kvs.length<=sizeLine/\(a == sysModules)=false/\∃ vs,KV kvs vs/\h.DictOf (dj P w) a vs:=
 show aB P w H h a (.dK kvs)from Ng ok e
def uf{kvs:List (Key×V)}(ok:b7 P w H h)(e:H a=some (.dK kvs)):kvs.length<=sizeLine/\(a == sysModules)=false/\∃ vs,KV kvs vs/\h.DictOf (dj P w) a vs:=rA ok<|.inl e
def rB{ks:List Key}(ok:b7 P w H h)(e:H a=some (.tup<|ks.map kV)):(tupleKind<|dj P w).is h ks a:=by
 obtain⟨_,its,r,o,h1,h2,n,h3⟩:=(show aB P w H h a (.tup<|ks.map kV)from ok a _ e);exact⟨o,its.toArray,n,h1,h2,h3,by simpa using Nf r⟩
def ug{kvs:List (List Key×V)}(ok:b7 P w H h)(e:Rd H a<|.dT kvs):kvs.length<=sizeLine/\(a == sysModules)=false /\
  ∃ xs,KT H kvs xs/\h.DictOfH (tupleKind<|dj P w) a xs:=by
 obtain⟨z,y,xs,r,o,es,ep,h1,h2,h3,h4,h5⟩:=(show aB P w H h a (.dT kvs)from Ng ok e);refine⟨z,y,xs,r,o,es,ep,h1,h2,h3,h4,λx hx=>?_,h5⟩;have all:∀{l:List (List Key×V)} {m:List (List Key×Addr×Value)},KT H l m->∀ x∈m,(tupleKind<|dj P w).is h x.1 x.2.1:=by
  intro l m q
  induction q with
  | nil=>intro x hx;exact nomatch hx
  | @cons p q ps qs hq t ih=>
   intro x hx
   rcases Aj.mp hx with e | hx
   ·subst e;exact rB ok<|by rw[<- hq.1];exact hq.2.1
   ·exact ih x hx
 exact all r x hx
def Nh{kvs:List (List Key×V)}(ok:b7 P w H h)(e:H a=some (.dT kvs)):kvs.length<=sizeLine/\(a == sysModules)=false /\
  ∃ xs,KT H kvs xs/\h.DictOfH (tupleKind<|dj P w) a xs:=ug ok<|.inl e
end
def a8(H:Hp)(a:Addr)(y:V)(r:Option V):Prop:=
 (∃ kvs k,Rd H a (.dK kvs)/\y=kV k/\r=aD kvs k)\/∃ kvs k b,Rd H a (.dT kvs)/\y = .ref b/\H b=some (.tup<|k.map kV)/\r=aD kvs k
def bZ(H:Hp)(a:Addr)(y v:V)(H':Hp):Prop:=
 (∃ kvs k,H a=some (.dK kvs)/\y=kV k/\kvs.length < sizeLine/\H'=upd H a (.dK<|putK kvs k v)) \/
 ∃ kvs k b,H a=some (.dT kvs)/\y = .ref b/\H b=some (.tup<|k.map kV)/\kvs.length < sizeLine/\H'=upd H a (.dT<|putK kvs k v)
def a8.k{H:Hp}{a:Addr}{kvs:List (Key×V)}{k:Key}(e:H a=some (.dK kvs)):a8 H a (kV k) (aD kvs k):= .inl ⟨kvs,k,.inl e,rfl,rfl⟩
def a8.t{H:Hp}{a b:Addr}{kvs:List (List Key×V)}{k:List Key}(e:H a=some (.dT kvs))(eb:H b=some (.tup<|k.map kV)):a8 H a (.ref b) (aD kvs k):= .inr ⟨kvs,k,b,.inl e,rfl,eb,rfl⟩
def bZ.k{H:Hp}{a:Addr}{kvs:List (Key×V)}{k:Key}{v:V}(e:H a=some (.dK kvs))(hl:kvs.length < sizeLine):bZ H a (kV k) v (upd H a<|.dK<|putK kvs k v):= .inl ⟨kvs,k,e,rfl,hl,rfl⟩
def bZ.t{H:Hp}{a b:Addr}{kvs:List (List Key×V)}{k:List Key}{v:V}(e:H a=some (.dT kvs))(eb:H b=some (.tup<|k.map kV))(hl:kvs.length < sizeLine) :
  bZ H a (.ref b) v (upd H a<|.dT<|putK kvs k v):= .inr ⟨kvs,k,b,e,rfl,eb,hl,rfl⟩
section
variable{X:Cx}{pins:Ñ}{σ:St}{H:Hp}{s:Shared}{a:Addr}{y v:V}{u r:Value}{o:Option V}{A:Around}{E:Ï}
def Inv.big(I:Inv X pins σ H s):sysModules < s.heap.objs.size:=by
 have h:mainGlobals < s.heap.objs.size:=(I.mod.glob.keeps I.bk).lt;exact Nat.lt_trans (by decide) h
def WV{Q:Ï}(hu:A.units+1 < cLine)(I:Inv X pins σ H s)(g:a8 H a y<|some v)(ry:RelV y u)(h:∀ w' s',Inv X pins σ H s'->RelV v w'->Q w' s') :
  wpAny (model X.prog X.w) A (getItem (.ref a) u) Q E s:=by
 rcases g with ⟨kvs,k,e,ey,l⟩ | ⟨kvs,k,b,e,ey,eb,l⟩
 ·subst ey;obtain⟨z,hd,vs,rel,dd⟩:=rA I.aE e;obtain⟨w',hw,d9⟩:=dH.some_of (v:=v) (o:=valueAt vs k) (by rw[l];exact rel.val k);exact wpAny_getItem_of (nI ry) dd.mapOf hw<|h w' _ (I.tok _) d9
 ·subst ey;cases (show u=Value.ref b from ry);obtain⟨z,hd,xs,rel,dd⟩:=ug I.aE e;obtain⟨w',hw,d9⟩:=dH.some_of (v:=v) (o:=(atKey xs k).map (·.2)) (by rw[l];exact rel.val k);obtain⟨p,hp,lV⟩:=Ay.mp hw;refine wpAny_getItem_heap (KC hu) (rB I.aE eb) dd hp ?_;rw[lV];exact h w' _ (I.tok _) d9
def B3{Q:Ï}(hu:A.units+1 < cLine)(I:Inv X pins σ H s)(g:a8 H a y o)(ry:RelV y u)(h:∀ s',Inv X pins σ H s'->Q (.bool o.isSome) s') :
  wpAny (model X.prog X.w) A (compareOp .In u<|.ref a) Q E s:=by
 rcases g with ⟨kvs,k,e,ey,l⟩ | ⟨kvs,k,b,e,ey,eb,l⟩
 ·subst ey;obtain⟨z,hd,vs,rel,dd⟩:=rA I.aE e;refine wpAny_in_of (nI ry) hd dd.mapOf ?_;rw[<- (rel.val k).bV,<- l];exact h _<|I.tok _
 ·subst ey;cases (show u=Value.ref b from ry);obtain⟨z,hd,xs,rel,dd⟩:=ug I.aE e;refine wpAny_in_heap (KC hu) (rB I.aE eb) hd dd ?_;have q:=(rel.val k).bV;rw[QW]at q;rw[<- q,<- l];exact h _<|I.tok _
def WW{Q:Ï}(hu:A.units+1 < cLine)(I:Inv X pins σ H s)(g:a8 H a y o)(ry:RelV y u)(h:∀ s',Inv X pins σ H s'->Q (.bool (!o.isSome)) s') :
  wpAny (model X.prog X.w) A (compareOp .NotIn u<|.ref a) Q E s:=by
 rcases g with ⟨kvs,k,e,ey,l⟩ | ⟨kvs,k,b,e,ey,eb,l⟩
 ·subst ey;obtain⟨z,hd,vs,rel,dd⟩:=rA I.aE e;refine wpAny_notIn_of (nI ry) hd dd.mapOf ?_;rw[<- (rel.val k).bV,<- l];exact h _<|I.tok _
 ·subst ey;cases (show u=Value.ref b from ry);obtain⟨z,hd,xs,rel,dd⟩:=ug I.aE e;refine wpAny_notIn_heap (KC hu) (rB I.aE eb) hd dd ?_;have q:=(rel.val k).bV;rw[QW]at q;rw[<- q,<- l];exact h _<|I.tok _
def lW{h':Heap}{t':Nat}{ob:HO}(I:Inv X pins σ H s)(mu:tF<|H a)(hs:Heap.SameBut a s.heap h')(he:∃ q,h'.get? a=some q)(new:aB X.prog X.w (upd H a ob) h' a ob) :
  Inv X pins σ (upd H a ob) {s with heap:=h',toks:=t'}:=
 I.write (x:=a) (e:=a) mu (.inl rfl) (λb q hb z=>(hs.2 b hb).trans z) he new
def B4{P:Program}{w:World}{H':Hp}{h':Heap}{kvs:List (Key×V)}{vs:List (Key×Value)}(z:kvs.length<=sizeLine)(hd:(a == sysModules)=false)(rel:KV kvs vs)(dd:h'.DictOf (dj P w) a vs) :
  aB P w H' h' a (.dK kvs):=⟨z,hd,vs,rel,dd⟩
def WX{H':Hp}{Q:Unit->Shared->Prop}(hu:A.units+1 < cLine)(I:Inv X pins σ H s)(g:bZ H a y v H')(ry:RelV y u)(rv:RelV v r)(h:∀ s',Inv X pins σ H' s'->Q () s') :
  wpAny (model X.prog X.w) A (setItem (.ref a) u r) Q E s:=by
 rcases g with ⟨kvs,k,e,ey,l,eH⟩ | ⟨kvs,k,b,e,ey,eb,l,eH⟩
 ·subst ey eH;obtain⟨z,hd,vs,rel,dd⟩:=uf I.aE e;have hz:vs.length<=sizeLine:=by rw[<- rel.length];exact z
  have hl:(putK kvs k v).length<=sizeLine:=by have:=iB kvs k v;omega
  refine wpAny_setItem_pairs (hsz:=hz) (nI ry) dd λh' iY hs=>h _ ?_;have he:∃ q,h'.get? a=some q:=let ⟨q,_,_,hq,_⟩:=iY;⟨q,hq⟩
  exact lW I (by rw[e];exact True.intro) hs he<|B4 hl hd (rel.put k rv) iY
 ·subst ey eH;cases (show u=Value.ref b from ry);obtain⟨z,hd,xs,rel,dd⟩:=Nh I.aE e;have hz:xs.length<=sizeLine:=by rw[<- Paired.length rel];exact z
  have hl:(putK kvs k v).length<=sizeLine:=by have:=iB kvs k v;omega
  refine wpAny_setItem_heap (hsz:=hz) (KC hu) (rB I.aE eb) dd λh' iY hs=>h _ ?_;obtain⟨q,es,ep,hq,h2,h3,h4,_,h5⟩:=iY;refine lW I (by rw[e];exact True.intro) hs ⟨q,hq⟩ ⟨hl,hd,_,(rel.put k eb rv).keeps λc ys ec=>?_,q,es,ep,hq,h2,h3,h4,h5⟩;rw[av<|ce ec e λz=>nomatch z];exact ec
end
section
variable{X:Cx}{pins:Ñ}{σ:St}{H:Hp}{s:Shared}{a:Addr}{kvs:List (Key×V)}{k:Key}{u:Value}{A:Around}{E:Ï}
end
def pc(i:Expr):Prop:=∀ ov iv,subscripted i false ov iv=operate [ov,iv] (getItem ov iv)
def WY{prog:Program}{w:World}{A:Around}{E:Ï}{s:Shared}{env:Env}{value slice:Expr}{pos:Pos}{T id:String}{Q:Ï}
  (hl:typeLookup (.type T) "__getitem__" = pure (some<|.builtin id)) (hs:pc slice)
  (h:wpAny (model prog w) A (eval value env) (λo À=>wpAny (model prog w) A (eval slice env) (λi Á=>Á.TypeIs o T/\wpAny (model prog w) A (getItem o i) Q E Á) E À) E s) :
  wpAny (model prog w) A (eval (.Subscript value slice pos) env) Q E s:=by
 refine Subscript_<|CP h (λo À h₁=>CP h₁ (λi Á Ä=>?_) λ_ _ x=>x) λ_ _ x=>x;obtain⟨hT,Ä⟩:=Ä;unfold subscriptTail;refine BJ ?_;rw[getitemInPython_of_ne hT.not_modules];refine BJ<|RZ hT hl ?_;have fin:wpAny (model prog w) A (subscripted slice false o i) (λr Â=>wpAny (model prog w) A (letTemporaryGo value o r >>= λ_=>pure r) Q E Â) E Á:=by
  rw[hs o i];exact wpAny_operating<|CP Ä (λr Â Å=>BJ<|wpAny_letTemporaryGo<|BK Å) λ_ _ x=>x
 first
  | exact BK<|BJ fin
  | exact BJ<|BK<|BJ fin
  | exact BJ fin
def WZ{X:Cx}{pins:Ñ}{σ:St}{H:Hp}{s:Shared}{a:Addr}{y:V}{o:Option V}(I:Inv X pins σ H s)(g:a8 H a y o):s.TypeIs (.ref a) "dict":=by
 rcases g with ⟨kvs,k,e,_,_⟩ | ⟨kvs,k,b,e,_,_,_⟩
 ·obtain⟨_,_,vs,_,dd⟩:=rA I.aE e;exact dd.typeIs
 ·obtain⟨_,_,xs,_,dd⟩:=ug I.aE e;exact dd.typeIs
def W0(td ty:TE):TE:=λσ H Q=>td σ H λx H1=>ty σ H1 λy H2=>∃ a v,x = .ref a/\a8 H2 a y (some v)/\Q v H2
def B5(ty td:TE):TE:=λσ H Q=>ty σ H λy H1=>td σ H1 λx H2=>∃ a o,x = .ref a/\a8 H2 a y o/\Q (.bl o.isSome) H2
def W1(ty td:TE):TE:=λσ H Q=>ty σ H λy H1=>td σ H1 λx H2=>∃ a o,x = .ref a/\a8 H2 a y o/\Q (.bl (!o.isSome)) H2
def W2(td ty tv:TE):TS:=λD σ H=>tv σ H λv H1=>td σ H1 λx H2=>ty σ H2 λy H3=>∃ a H4,x = .ref a/\bZ H3 a y v H4/\D.nx σ H4
section
variable{X:Cx}{o i e value:Expr}{pos pos' A4:Pos}{td ty tv:TE}
def W3(hu:X.A.units+1 < cLine)(ho:PE X o td)(hi:PE X i ty)(hs:pc i):PE X (.Subscript o i pos) (W0 td ty):=by
 intro pins s σ H Q I h;refine WY PySem.F.slot_dict_getitem.lookup hs<|aN (ho pins s σ H _ I h) λu s1 ⟨x,H1,I1,rx,q1⟩=>aN (hi pins s1 σ H1 _ I1 q1) λiv s2 ⟨y,H2,I2,ry,a,v,ex,g,q2⟩=>?_;subst ex;obtain rfl:u=Value.ref a:=rx;exact⟨WZ I2 g,WV hu I2 g ry λw' s3 I3 d9=>⟨v,H2,I3,d9,q2⟩⟩
def W4(hu:X.A.units+1 < cLine)(hi:PE X i ty)(ho:PE X o td):PC X .In i o (B5 ty td):=by
 intro pins s σ H Q I h;refine aN (hi pins s σ H _ I h) λiv s1 ⟨y,H1,I1,ry,q1⟩=>aN (ho pins s1 σ H1 _ I1 q1) λu s2 ⟨x,H2,I2,rx,a,ov,ex,g,q2⟩=>?_;subst ex;obtain rfl:u=Value.ref a:=rx;exact B3 hu I2 g ry λs3 I3=>⟨.bl ov.isSome,H2,I3,rfl,q2⟩
def W5(hu:X.A.units+1 < cLine)(hi:PE X i ty)(ho:PE X o td):PC X .NotIn i o (W1 ty td):=by
 intro pins s σ H Q I h;refine aN (hi pins s σ H _ I h) λiv s1 ⟨y,H1,I1,ry,q1⟩=>aN (ho pins s1 σ H1 _ I1 q1) λu s2 ⟨x,H2,I2,rx,a,ov,ex,g,q2⟩=>?_;subst ex;obtain rfl:u=Value.ref a:=rx;exact WW hu I2 g ry λs3 I3=>⟨.bl (!ov.isSome),H2,I3,rfl,q2⟩
def W6(hu:X.A.units+1 < cLine)(ho:PE X o td)(hi:PE X i ty)(hv:PE X value tv)(hs:swapsWith value (some<|.Subscript o i pos') pos.line X.env=pure false) :
  PS X (.Assign [.Subscript o i pos'] value pos) (W2 td ty tv):=by
 intro pins s σ H D I h;refine wpAny_Assign_Subscript (aN (hv pins s σ H _ I h) λr s1 ⟨v,H1,I1,rv,q1⟩=>aN (ho pins s1 σ H1 _ I1 q1) λu s2 ⟨x,H2,I2,rx,q2⟩=>aN (hi pins s2 σ H2 _ I2 q2) λiv s3 ⟨y,H3,I3,ry,a,H4,ex,g,q3⟩=>?_) hs;subst ex;obtain rfl:u=Value.ref a:=rx;exact WX hu I3 g ry rv λs4 I4=>⟨σ,H4,I4,q3⟩
end
def Ni{P:Program}{w:World}{H:Hp}(h:Heap)(hb:sysModules < h.objs.size):aB P w H (h.push {cls:= .type "dict",data:= .dict #[]}) h.objs.size (.dK []):=
 ⟨Bz _,beq_eq_false_iff_ne.mpr<|CG<|Bm hb,[],.nil,Heap.DictOf.new h⟩
def B6{P:Program}{w:World}{H:Hp}(h:Heap)(hb:sysModules < h.objs.size):aB P w H (h.push {cls:= .type "dict",data:= .dict #[]}) h.objs.size (.dT []):=
 ⟨Bz _,beq_eq_false_iff_ne.mpr<|CG<|Bm hb,[],.nil,_,#[],0,At _ rfl,⟨rfl,rfl,rfl⟩,rfl,rfl,Ch⟩
def W7:TE:=λ_ H Q=>∀ p,H p=none->Q (.ref p) (upd H p<|.dK [])
def W8:TE:=λ_ H Q=>∀ p,H p=none->Q (.ref p) (upd H p<|.dT [])
section
variable{X:Cx}{pos:Pos}
def W9:PE X (.Dict [] [] pos) W7:=λpins s σ H Q I h=>
 wpAny_Dict_empty ⟨.ref s.heap.objs.size,_,I.laid (a:=s.heap.objs.size) (o:= .dK []) (t':=s.toks) (λ_ _ q=>Ag _ q) (An _)<|Ni s.heap I.big,rfl,h _<|I.aE.fresh<|An _⟩
def W':PE X (.Dict [] [] pos) W8:=λpins s σ H Q I h=>
 wpAny_Dict_empty ⟨.ref s.heap.objs.size,_,I.laid (a:=s.heap.objs.size) (o:= .dT []) (t':=s.toks) (λ_ _ q=>Ag _ q) (An _)<|B6 s.heap I.big,rfl,h _<|I.aE.fresh<|An _⟩
end
section
variable{X:Cx}{pins:Ñ}{σ:St}{H:Hp}{s:Shared}{a:Addr}{y d:V}{u r:Value}{o:Option V}{A:Around}{E:Ï}
end
section
variable{X:Cx}{o e f:Expr}{apos dP:Pos}{td ty tx:TE}
end
section
variable{X:Cx}{pins:Ñ}{σ:St}{H:Hp}{s:Shared}{a:Addr}{kvs:List (Key×V)}{A:Around}{E:Ï}
end
section
variable{X:Cx}{pins:Ñ}{σ:St}{H:Hp}{s:Shared}{a:Addr}{y:V}{u:Value}{A:Around}{E:Ï}
end
section
variable{X:Cx}
end
section
variable{κ:Type} [DecidableEq κ]
def B7{kvs:List (κ×V)}{k:κ}{v:V}(h:aD kvs k=some v):k∈kvs.map (·.1):=by
 have q:(kvs.any λkv=>decide (kv.1=k))=true:=by
  rw[rz,h]
  all_goals rfl
 obtain⟨p,hp,e⟩:=List.any_eq_true.mp q;exact Al.mpr ⟨p,hp,BX e⟩
theorem nJ:∀{l:List κ} {k:κ},l.Nodup->¬ k∈l->(l++[k]).Nodup
 | [],k,_,_=>by simp
 | a :: r,k,h,hk=>by
  obtain⟨h1,h2⟩:=Bc.mp h;show(a :: (r++[k])).Nodup;refine Bc.mpr ⟨λm=>?_,nJ h2 λm=>hk<|Aj.mpr<|Or.inr m⟩
  rcases Am.mp m with q | q
  ·exact h1 q
  ·exact hk<|Aj.mpr<|Or.inl (Ad.mp q).symm
end
section
variable{X:Cx}{tg:Expr}
end
theorem Nj{env:Env}:∀{names:List (Str×NameKind)} {x:Str} {k':NameKind},
  (names.map λ(n,k)=>if(k == NameKind.free && env.scope.kind == .function && env.kindOf n == some .cell) then(n,NameKind.cell) else(n,k)).lookup x=some k' ->
  ∃ k,names.lookup x=some k/\(k'=k\/(k = .free/\k' = .cell))
 | [],_,_,h=>by simp at h
 | (n,k) :: r,x,k',h=>by
  have ih:=@Nj env r x k'
  change List.lookup x ((if(k == NameKind.free && env.scope.kind == .function && env.kindOf n == some .cell)=true then(n,NameKind.cell) else(n,k)) :: _)=_ at h
  cases hx:x == n with
  | true=>
   by_cases hc:(k == NameKind.free && env.scope.kind == .function && env.kindOf n == some .cell)=true
   ·rw[BP hc]at h;simp only[Dp,hx]at h;cases h;have hk:k = .free:=by
     have:=(Bn _ _ ▸ (Bn _ _ ▸ hc).1).1;cases k <;> first | rfl | (exact absurd this<|by decide)
    exact⟨k,by simp[Dp,hx],.inr ⟨hk,rfl⟩⟩
   ·rw[BL hc]at h;simp only[Dp,hx]at h;cases h;exact⟨k,by simp[Dp,hx],.inl rfl⟩
  | false=>
   have h2:∃ k,r.lookup x=some k/\(k'=k\/(k = .free/\k' = .cell)):=by
    by_cases hc:(k == NameKind.free && env.scope.kind == .function && env.kindOf n == some .cell)=true
    ·rw[BP hc]at h;simp only[Dp,hx]at h;exact ih h
    ·rw[BL hc]at h;simp only[Dp,hx]at h;exact ih h
   obtain⟨k2,e2,r2⟩:=h2;exact⟨k2,by simp[Dp,hx,e2],r2⟩
def cC(names:List<|Str×NameKind)(cells:List<|Str×Addr)(acc:List<|Str×Addr):List (Str×Addr):=
 names.foldl (λa x=>if x.2 == .free then(match cells.lookup x.1 with | some c=>(x.1,c) :: a | none=>a)else a) acc
def B8{scope:Scope}{env:Env}(h:∀ x∈scope.names,x.2 = .free->∃ c,env.cells.lookup x.1=some c):closureFor scope env=pure (cC scope.names env.cells []):=by
 have all:∀(l:List<|Str×NameKind) (acc:List<|Str×Addr),(∀ x∈l,x.2 = .free->∃ c,env.cells.lookup x.1=some c) ->
   (forIn l acc λ(x:Str×NameKind) (cs:List<|Str×Addr)=>(if x.2 == .free then(do let c <- cellOf env x.1;pure (ForInStep.yield<|(x.1,c) :: cs))else pure (ForInStep.yield cs):Sem _))=pure (cC l env.cells acc):=by
  intro l
  induction l with
  | nil=>intro acc _;rfl
  | cons x r ih=>
   intro acc hl;rw[Gq];have hr:∀ y∈r,y.2 = .free->∃ c,env.cells.lookup y.1=some c:=λy hy=>hl y<|Ah _ hy;cases hk:x.2 == .free with
   | true=>
    have Xa:x.2 = .free:=by
     revert hk
     cases x.2 <;> intro hk <;> first | rfl | (exact absurd hk<|by decide)
    obtain⟨c,hc⟩:=hl x Ae Xa;simp only[DN,cellOf,hc];rw[show cC (x :: r) env.cells acc=cC r env.cells ((x.1,c) :: acc) by unfold cC;rw[Dg];simp[hk,hc]];exact ih _ hr
   | false=>
    simp only[Bb,CV];rw[show cC (x :: r) env.cells acc=cC r env.cells acc by unfold cC;rw[Dg];simp[hk]];exact ih _ hr
 have q:=all scope.names [] h;simp only[closureFor];exact(BZ (· >>= λr=>pure r) q).trans rfl
theorem B9:∀(names:List<|Str×NameKind) (cells acc:List<|Str×Addr),(∀ x c,(x,c)∈acc->cells.lookup x=some c)->∀ x c,(x,c)∈cC names cells acc->cells.lookup x=some c
 | [],_,_,h=>h
 | y :: r,cells,acc,h=>by
  have e:cC (y :: r) cells acc=cC r cells (if y.2 == .free then(match cells.lookup y.1 with | some c=>(y.1,c) :: acc | none=>acc)else acc):=rfl;rw[e];refine B9 r cells _ ?_;cases hk:y.2 == .free with
  | false=>simpa using h
  | true=>
   cases hc:cells.lookup y.1 with
   | none=>simpa using h
   | some c=>
    intro x d hx;simp only[DN]at hx
    rcases Aj.mp hx with e | hx
    ·cases e;exact hc
    ·exact h x d hx
theorem Nk:∀(names:List<|Str×NameKind) (cells acc:List<|Str×Addr) (x:Str) (c:Addr),(x,c)∈acc->(x,c)∈cC names cells acc
 | [],_,_,_,_,h=>h
 | y :: r,cells,acc,x,c,h=>by
  have e:cC (y :: r) cells acc=cC r cells (if y.2 == .free then(match cells.lookup y.1 with | some c=>(y.1,c) :: acc | none=>acc)else acc):=rfl;rw[e];refine Nk r cells _ x c ?_;cases hk:y.2 == .free with
  | false=>simpa using h
  | true=>
   cases hc:cells.lookup y.1 with
   | none=>simpa using h
   | some d=>simp only[DN];exact Ah _ h
theorem CA:∀(names:List<|Str×NameKind) (cells acc:List<|Str×Addr) (x:Str) (c:Addr),(x,NameKind.free)∈names->cells.lookup x=some c->(x,c)∈cC names cells acc
 | [],_,_,_,_,h,_=>by cases h
 | y :: r,cells,acc,x,c,h,hc=>by
  have e:cC (y :: r) cells acc=cC r cells (if y.2 == .free then(match cells.lookup y.1 with | some c=>(y.1,c) :: acc | none=>acc)else acc):=rfl;rw[e]
  rcases Aj.mp h with e2 | h
  ·subst e2;refine Nk r cells _ x c ?_;have:(NameKind.free == NameKind.free)=true:=rfl;simp only[hc,this,DN];exact Ae
  ·exact CA r cells _ x c h hc
theorem CB{α:Type}:∀{l:List (Str×α)} {x:Str} {c:α},(x,c)∈l->∃ d,l.lookup x=some d
 | [],_,_,h=>by cases h
 | (n,d) :: r,x,c,h=>by
  cases hx:x == n with
  | true=>exact⟨d,by simp[Dp,hx]⟩
  | false=>
   rcases Aj.mp h with e | h
   ·cases e;simp at hx
   ·obtain⟨d',e⟩:=CB h;exact⟨d',by simp[Dp,hx,e]⟩
section
variable{prog:Program}{w:World}{A:Around}{R:Result->Shared->Prop}{s:Shared}
theorem k1l{elt target iter:Expr}{ifs:Õ}{scope:Scope}{pos:Pos}{it acc:Value}{env:Env}(I:Nat->Shared->Prop)
  (turn : ∀ n s, I n s → wpAny (model prog w) A (pyNext it) (λr À => match r with
   | none=>R (.ok .next) À
   | some v=>wpAny (model prog w) A (letOwnedTupleGo target it v) (λ_ s₁'=>wpAny (model prog w) A (assign target env v) (λ_ Á=>
     wpAny (model prog w) A (forIn ifs true λc r=>if r=true then do let ok <- isTrue c env<|eval c env;pure (ForInStep.yield ok)else pure (ForInStep.yield r)) (λok Â=>
      if ok=true then wpAny (model prog w) A (eval elt env) (λx Ã=>
       wpAny (model prog w) A (call (.builtin "list.append") [acc,x]) (λ_ É=>∃ m,m < n/\I m É) (notedBy (model prog w) A env λe s'=>R (.error e) s') Ã) (notedBy (model prog w) A env λe s'=>R (.error e) s') Â
      else ∃ m,m < n/\I m Â) (notedBy (model prog w) A env λe s'=>R (.error e) s') Á) (notedBy (model prog w) A env λe s'=>R (.error e) s') s₁') (notedBy (model prog w) A env λe s'=>R (.error e) s') À) (notedBy (model prog w) A env λe s'=>R (.error e) s') s)
  (n:Nat) (h:I n s) :
  codeAny (model prog w) A (.compLoop (.ListComp elt [⟨target,iter,ifs,0⟩] scope pos) 0 it acc env) R s:=by
 refine codeAny_loop rfl I (λn s hI=>?_) n h;show wpAny _ A ((compTurn (.ListComp elt [⟨target,iter,ifs,0⟩] scope pos) 0 it acc env).onRaise λx=>do noteFrame x env;theTreesLotGoes x) _ _ s;refine wpAny_noted ?_;rw[compTurn_list];refine BJ<|FW<|BJ<|CP (turn n s hI) (λr À h₁=>?_) λ_ _ h'=>h';cases r with
 | none=>exact BK h₁
 | some v=>
  refine BJ<|CP h₁ (λ_ s₁' h₁'=>?_) λ_ _ h'=>h';refine BJ<|CP h₁' (λ_ Á Ä=>BJ<|CP Ä (λok Â Å=>?_) λ_ _ h'=>h') λ_ _ h'=>h';cases ok with
  | false=>exact BK ⟨rfl,Å⟩
  | true=>
   exact BJ<|BJ<|CP Å (λx Ã Ç=>BJ<|CP Ç (λ_ É Í=>BK<|BK ⟨rfl,Í⟩) λ_ _ h'=>h') λ_ _ h'=>h'
end
def Nm(X:Cx)(ifs:Õ)(t:TT):Prop:=
 ∀(pins:Ñ) (s:Shared) (σ:St) (H:Hp) (Q:Bool->Hp->Prop),Inv X pins σ H s->t σ H Q ->
  wpAny (model X.prog X.w) X.A (forIn ifs true λc r=>if r=true then do let ok <- isTrue c X.env<|eval c X.env;pure (ForInStep.yield ok)else pure (ForInStep.yield r)) (TP X pins σ Q) X.xe s
def CD:TT:=λ_ H Q=>Q true H
def Xb{X:Cx}:Nm X [] CD:=λ_ _ _ H _ I h=>wpAny_tests_nil ⟨H,I,h⟩
def Xc{X:Cx}{c:Expr}{t:TT}(h:PT X c t):Nm X [c] t:=λpins s σ H Q I hq=>wpAny_tests_one<|h pins s σ H Q I hq
def fq(X:Cx)(N':Ò)(scope:Scope)(cl:List<|Str×Addr)(C:Addr)(s₀:Shared)(H₀:Hp)(ex:List Addr):Cx:=
 {prog:=X.prog,w:=X.w,K:=X.K,mg:=X.mg,base:=X.base,A:=X.A,N:=N',s₀:=s₀,H₀:=H₀,env:=compEnvC scope cl C X.env,outer:=X.stack,stack:=X.stack,ex:=ex,fn:=λx=>match scope.names.lookup x with | some .cell=>true | _=>false,calm:=X.calm,pn:=[],xe:=λ_ _=>False}
def iZ{α:Type}{t:Sem α}{Q Q':α->Shared->Prop}{M:Model}{A:Around}{E:Ï}{s:Shared}(h:wpAny M A t Q (λ_ _=>False) s)(hQ:∀ a s,Q a s->Q' a s):wpAny M A t Q' E s:=CP h hQ λ_ _ z=>z.elim
section
variable{X:Cx}
def xK:eZ X (.builtin "isinstance") (λxs H Q=>∃ x t T b,xs=[x,.ty T]/\c7 X.K H x t/\PySem.W.kitOne X.K t (.type T)=some b/\Q (.bl b) H):=by
 intro pins s σ H xs us Q I r h;obtain⟨x,t,T,b,rfl,ty,e,q⟩:=h;obtain⟨u,w',rfl,ru,d9⟩:=vals2 r;cases (show w'=Value.type T from d9);exact V6 I ru ty e λtk=>⟨.bl b,H,I.tok tk,rfl,q⟩
def Xd:cK X (binaryOp .Mult) (λx y H Q=>∃ z i,x = .str z/\y = .int i/\0<=i/\i<=100000/\z.length * i.toNat<=100000/\Q (.str<|Txt.mul z i) H):=by
 intro pins s σ H x y v u Q I rx ry h;obtain⟨z,i,rfl,rfl,h0,h1,h2,q⟩:=h;obtain⟨t,rfl⟩:=rx;obtain⟨t',rfl⟩:=ry;have hsz:sizeLine=16777216:=EY;refine SB.mul ⟨?_,λh3 h4=>?_,λh3 h4=>?_⟩ λt' k=>⟨.str _,H,I.tok k,⟨_,rfl⟩,q⟩
 ·rw[BR (by omega),BR<|by omega];rfl
 ·have h5:(z.length:Int)<=100000:=by
   have h6:z.length * 1<=z.length * i.toNat:=Nat.mul_le_mul_left _ (by omega);omega
  have h7:(100000:Int)<=(2 ^ 63 - 1) / i:=by
   rw[Int.le_ediv_iff_mul_le<|by omega];have:(100000:Int) * i<=100000 * 100000:=Int.mul_le_mul_of_nonneg_left h1 (by decide);have e:(2:Int) ^ 63 - 1=9223372036854775807:=by decide
   omega
  omega
 ·unfold Builtin.Str.tooLong;rw[hsz];exact BR<|by omega
end
def isStar:Expr->Bool
 | .Starred _ _=>true
 | _=>false
def noStar(es:Õ):Bool:=es.all λe=>!isStar e
def pf(e:Expr)(es:Õ)(env:Env)(h:isStar e=false):starEach (e :: es) env=(false,eval e env) :: starEach es env:=by
 cases e <;> first | rfl | (exact absurd h<|by simp[isStar])
theorem xL(pos:Pos)(env:Env):∀ es:Õ,noStar es=true->(backTo pos<|starEach es env).any (·.1)=false
 | [],_=>rfl
 | e :: es,h=>by
  have h':(!isStar e)=true/\noStar es=true:=by
   have:=h;unfold noStar at this ⊢;rw[Gx,Bn]at this;exact this
  have hs:isStar e=false:=by
   have:=h'.1;cases q:isStar e with
   | true=>rw[q]at this;cases this
   | false=>rfl
  rw[pf e es env hs];show(false || (backTo pos<|starEach es env).any (·.1))=false;rw[xL pos env es h'.2];rfl
theorem rC{e:Expr}{es:Õ}(h:noStar (e :: es)=true):isStar e=false/\noStar es=true:=by
 unfold noStar at h ⊢;rw[Gx,Bn]at h;refine⟨?_,h.2⟩;cases q:isStar e with
 | true=>rw[q]at h;cases h.1
 | false=>rfl
section
variable{X:Cx}{CX:fX}{k:Nat}{f C:Addr}{fd:FuncData}{ps:Ò}{sp:Sp}{lJ:List V}{ds:Ô}{E:XK}{x m:Str}{p pos apos:Pos}{e o:Expr}{es:Õ}{ta te:TE}{t:TA}{id T:String}{r:List V->Hp->VK->Prop}
def Xe(ha:PE X e te)(hr:PA X es t)(hs:isStar e=false:=by rfl):PA X (e :: es) (MI te t):=V8 ha hr<|pf _ _ _ hs
def Xf(F:aG X.prog X.w X.K X.mg X.base CX k f fd ps sp)(hr:bo k X.A)(hm:X.mg x=some (.ref f))(hk:PySem.W.keepIn X.K (.ref f)=true)(hb:Binds X.K fd ps [])(hx:lK CX X E)
  (ha:PA X (e :: es) t) (hg:Gl X x:=by rfl) (cw:(x == ("__debug__" : Str))=false:=by decide) (hs:noStar (e :: es)=true:=by rfl):PE X (.Call (.Name x p) (e :: es) [] pos) (ML sp [] E t):=
 Wb F hr hg hm hk hb .nil hx ha cw (pf _ _ _ (rC hs).1) (xL _ _ _ (rC hs).2)
def CF(hc:eZ X (.builtin id) r)(hm:X.mg x=none)(hv:bootBuiltins x=some (.builtin id))(ha:PA X (e :: es) t)(hg:Gl X x:=by rfl)(hn:x ≠ "__name__":=by decide)(cw:(x == ("__debug__" : Str))=false:=by decide)
  (hs:noStar (e :: es)=true:=by rfl):PE X (.Call (.Name x p) (e :: es) [] pos) (xH r t):=
 Wf hc hg hm hv ha hn cw (pf _ _ _ (rC hs).1) (xL _ _ _ (rC hs).2)
def CH(hc:eZ X (.type T) r)(hm:X.mg x=none)(hv:bootBuiltins x=some (.type T))(ha:PA X (e :: es) t)(hg:Gl X x:=by rfl)(hn:x ≠ "__name__":=by decide)(cw:(x == ("__debug__" : Str))=false:=by decide)
  (hs:noStar (e :: es)=true:=by rfl):PE X (.Call (.Name x p) (e :: es) [] pos) (xH r t):=
 Wg hc hg hm hv ha hn cw (pf _ _ _ (rC hs).1) (xL _ _ _ (rC hs).2)
end
structure Ev(X:Cx)(e:Expr)(σ:St)(H:Hp)(Q:VK):Prop where
 run:∀(pins:Ñ) (s:Shared),Inv X pins σ H s->wpAny (model X.prog X.w) X.A (eval e X.env) (EP X pins σ Q) X.xe s
structure Et(X:Cx)(e:Expr)(σ:St)(H:Hp)(Q:Bool->Hp->Prop):Prop where
 run:∀(pins:Ñ) (s:Shared),Inv X pins σ H s->wpAny (model X.prog X.w) X.A (isTrue e X.env<|eval e X.env) (TP X pins σ Q) X.xe s
structure Ew(X:Cx)(e:Expr)(σ:St)(H:Hp)(Q:Bool->Hp->Prop):Prop where
 run:∀(whole:Sem Value) (pins:Ñ) (s:Shared),Inv X pins σ H s->wpAny (model X.prog X.w) X.A (isTrue e X.env whole) (TP X pins σ Q) X.xe s
structure Ea(X:Cx)(es:Õ)(σ:St)(H:Hp)(Q:List V->Hp->Prop):Prop where
 run:∀(pos:Pos) (pins:Ñ) (s:Shared),Inv X pins σ H s->wpAny (model X.prog X.w) X.A (spliced<|backTo pos<|starEach es X.env) (AP X pins σ Q) X.xe s
structure Eo(X:Cx)(e:Option Expr)(σ:St)(H:Hp)(Q:Option Int->Hp->Prop):Prop where
 run:∀(pins:Ñ) (s:Shared),Inv X pins σ H s->wpAny (model X.prog X.w) X.A (evalPart e X.env) (λu s'=>∃ o H',Inv X pins σ H' s'/\IsPart u o/\Q o H') X.xe s
structure Eg(X:Cx)(e:Expr)(v:V)(σ:St)(H:Hp)(Q:St->Hp->Prop):Prop where
 run:∀(pins:Ñ) (s:Shared) (u:Value),Inv X pins σ H s->RelV v u->wpAny (model X.prog X.w) X.A (assign e X.env u) (λ_ s'=>∃ σ' H',Inv X pins σ' H' s'/\Q σ' H') X.xe s
structure Run(X:Cx)(l:Ö)(D:Ends)(σ:St)(H:Hp):Prop where
 run:∀(pins:Ñ) (s:Shared),Inv X pins σ H s->wpAny (model X.prog X.w) X.A (execs l X.env) (SP X pins D) X.xe s
def Xg(X:Cx)(e:Expr):TE:=λσ H Q=>Ev X e σ H Q
def Xh(X:Cx)(e:Expr):TT:=λσ H Q=>Et X e σ H Q
def Xi(X:Cx)(e:Expr):TT:=λσ H Q=>Ew X e σ H Q
def uh(X:Cx)(es:Õ):TA:=λσ H Q=>Ea X es σ H Q
def Xj(X:Cx)(e:Option Expr):TO:=λσ H Q=>Eo X e σ H Q
def Xk(X:Cx)(e:Expr):TG:=λv σ H Q=>Eg X e v σ H Q
def CI(X:Cx)(l:Ö):TS:=λD σ H=>Run X l D σ H
section
variable{X:Cx}{e a b c o:Expr}{es:Õ}{st:Stmt}{rest body kR:Ö}{σ:St}{H:Hp}{Q:VK}{T:Bool->Hp->Prop}{L:List V->Hp->Prop}{D:Ends}{pos p p2:Pos}
def bv:PE X e (Xg X e):=λpins s _ _ _ I h=>h.run pins s I
def lX:PT X e (Xh X e):=λpins s _ _ _ I h=>h.run pins s I
def Nn:PW X e (Xi X e):=λwh pins s _ _ _ I h=>h.run wh pins s I
def i0:PA X es (uh X es):=λpos pins s _ _ _ I h=>h.run pos pins s I
def Np{e:Option Expr}:PO X e (Xj X e):=λpins s _ _ _ I h=>h.run pins s I
def ph:PG X e (Xk X e):=λpins s _ _ _ u _ I r h=>h.run pins s u I r
def pj{l:Ö}:iU X l (CI X l):=λpins s _ _ _ I h=>h.run pins s I
def cV{t:TE}(h1:PE X e t)(h2:t σ H Q):Ev X e σ H Q:=⟨λpins s I=>h1 pins s σ H Q I h2⟩
def rD{t:TT}(h1:PT X e t)(h2:t σ H T):Et X e σ H T:=⟨λpins s I=>h1 pins s σ H T I h2⟩
def xM{t:TT}(h1:PW X e t)(h2:t σ H T):Ew X e σ H T:=⟨λwh pins s I=>h1 wh pins s σ H T I h2⟩
def Nq{t:TA}(h1:PA X es t)(h2:t σ H L):Ea X es σ H L:=⟨λpos pins s I=>h1 pos pins s σ H L I h2⟩
def Nr{e:Option Expr}{t:TO}{R:Option Int->Hp->Prop}(h1:PO X e t)(h2:t σ H R):Eo X e σ H R:=⟨λpins s I=>h1 pins s σ H R I h2⟩
def CL{t:TG}{v:V}{R:St->Hp->Prop}(h1:PG X e t)(h2:t v σ H R):Eg X e v σ H R:=⟨λpins s u I r=>h1 pins s σ H v u R I r h2⟩
def ju{t:TS}(h1:PS X st t)(h2:t {D with nx:=λσ' H'=>Run X rest D σ' H'} σ H):Run X (st :: rest) D σ H:=⟨λpins s I=>Vt h1 pj pins s σ H D I h2⟩
def aW(h:D.nx σ H):Run X [] D σ H:=⟨λpins s I=>AQ pins s σ H D I h⟩
def Ev.mono{Q':VK}(h:Ev X e σ H Q)(f:∀ v H',Q v H'->Q' v H'):Ev X e σ H Q':=⟨λpins s I=>aN (h.run pins s I) λ_ _ ⟨v,H',I',r,q⟩=>⟨v,H',I',r,f v H' q⟩⟩
def Et.mono{T':Bool->Hp->Prop}(h:Et X e σ H T)(f:∀ v H',T v H'->T' v H'):Et X e σ H T':=⟨λpins s I=>aN (h.run pins s I) λv _ ⟨H',I',q⟩=>⟨H',I',f v H' q⟩⟩
def Ea.mono{L':List V->Hp->Prop}(h:Ea X es σ H L)(f:∀ v H',L v H'->L' v H'):Ea X es σ H L':=⟨λpos pins s I=>aN (h.run pos pins s I) λ_ _ ⟨v,H',I',r,q⟩=>⟨v,H',I',r,f v H' q⟩⟩
def ae(i:Nat){x:Str}{v:V}(h:Q v H)(hv:σ[i]?=some (some v):=by rfl)(hN:X.N[i]?=some x:=by rfl)(hs:z8 X.env.scope x:=by first | exact Or.inl rfl | exact Or.inr (Or.inl rfl) | exact Or.inr<|Or.inr rfl)(hd:(x == ("__debug__" : Str))=false:=by decide)
  (iw:(x == ("__classdict__" : Str))=false:=by decide):Ev X (.Name x p) σ H Q:=cV (U8 (i:=i) hN hs hd iw) ⟨v,hv,h⟩
def aC{i:Int}{j:Nat}(h:Q (.int i) H):Ev X (.Constant (.int i) j p) σ H Q:=cV (U9) h
def rE{i:Bool}{j:Nat}(h:Q (.bl i) H):Ev X (.Constant (.bool i) j p) σ H Q:=cV (U') h
def xN{j:Nat}(h:Q .non H):Ev X (.Constant .none j p) σ H Q:=cV (Va) h
def fK{i:Str}{j:Nat}(h:Q (.str i) H):Ev X (.Constant (.str i) j p) σ H Q:=cV (Vb) h
def CM{x:Str}{v:V}{u:Value}(hm:X.mg x=some u)(r:RelV v u)(h:Q v H)(hg:Gl X x:=by rfl)(hd:(x == ("__debug__" : Str))=false:=by decide):Ev X (.Name x p) σ H Q:=cV (Vc hg hm r hd) h
def ui{x:Str}(v:V){u:Value}(hm:X.mg x=none)(hv:bootBuiltins x=some u)(r:RelV v u)(h:Q v H)(hg:Gl X x:=by rfl)(hn:x ≠ "__name__":=by decide)(hd:(x == ("__debug__" : Str))=false:=by decide):Ev X (.Name x p) σ H Q:=cV (Vd hg hm hv r hn hd) h
def a7{op:Operator}{r:R2}(ho:cK X (binaryOp op) r)(h:Ev X a σ H λx H1=>Ev X b σ H1 λy H2=>r x y H2 Q):Ev X (.BinOp a op b pos) σ H Q:=cV (VQ ho bv bv) h
def Nu{op:UnaryOp}{r:V->Hp->VK->Prop}(ho:xC X (unaryOp op) r)(h:Ev X a σ H λx H1=>r x H1 Q):Ev X (.UnaryOp op a pos) σ H Q:=cV (VR ho bv) h
def jT{op:CmpOp}{r:R2}(ho:cK X (compareOp op) r)(h:Ev X a σ H λx H1=>Ev X b σ H1 λy H2=>r x y H2 Q)(hm:behindInMarks op b=false:=by with_unfolding_all rfl):Ev X (.Compare a [op] [b] pos) σ H Q:=cV (VY ho bv bv hm) h
def Xl(h:Ev X a σ H λx H1=>∃ k,x = .bl k/\Q (.bl (!k)) H1):Ev X (.UnaryOp .Not a pos) σ H Q:=cV (Vp bv) h
def rF(h:Ev X a σ H λx H1=>∃ k,x = .bl k/\if k=true then Ev X (.BoolOp .And (b :: es) pos) σ H1 Q else Q (.bl false) H1):Ev X (.BoolOp .And (a :: b :: es) pos) σ H Q:=cV (Vo bv bv) h
def xO{op:BoolOp}(h:Ev X a σ H Q):Ev X (.BoolOp op [a] pos) σ H Q:=cV (Vn bv) h
def Xm(h:Et X c σ H λk H1=>if k=true then Ev X a σ H1 Q else Ev X b σ H1 Q):Ev X (.IfExp c a b pos) σ H Q:=cV (Vr lX bv bv) h
def aP{r:R2}(hr:tZ X r)(h:Ev X a σ H λx H1=>Ev X b σ H1 λy H2=>r x y H2 Q)(hs:MV b:=by intro _ _;rfl):Ev X (.Subscript a b pos) σ H Q:=cV (Wq hr bv bv hs) h
def Nv{r:V->Option Int->Option Int->Hp->VK->Prop}{lo hi:Option Expr}(hr:A8 X r)(h:Ev X a σ H λx H1=>Eo X lo σ H1 λl H2=>Eo X hi σ H2 λu H3=>r x l u H3 Q):Ev X (.Subscript a (.Slice lo hi none p2) pos) σ H Q:=cV (Wm hr bv Np Np) h
def Nw{R:Option Int->Hp->Prop}(h:R none H):Eo X none σ H R:=Nr (Wj) h
def Nx{R:Option Int->Hp->Prop}(h:Ev X a σ H λx H1=>∃ i,x = .int i/\R (some i) H1):Eo X (some a) σ H R:=Nr (Wk bv) h
def ax(h:L [] H):Ea X [] σ H L:=Nq (V7) h
def ah(h:Ev X e σ H λx H1=>Ea X es σ H1 λxs H2=>L (x :: xs) H2)(hs:isStar e=false:=by rfl):Ea X (e :: es) σ H L:=Nq (Xe bv i0 hs) h
def dR{k:Nat}(h:Ea X es σ H λxs H1=>xs.length<=sizeLine/\∀ p,H1 p=none->Q (.ref p) (upd H1 p<|.tup xs)):Ev X (.Tuple es k pos) σ H Q:=cV (V9 i0) h
def dF(h:Ea X es σ H λxs H1=>xs.length<=sizeLine/\∀ p,H1 p=none->Q (.ref p) (upd H1 p<|.lst xs)):Ev X (.List es pos) σ H Q:=cV (V' i0) h
def Ny{CX:fX}{k:Nat}{f:Addr}{fd:FuncData}{ps:Ò}{sp:Sp}{E:XK}{x:Str}(F:aG X.prog X.w X.K X.mg X.base CX k f fd ps sp)(hr:bo k X.A)(hm:X.mg x=some (.ref f))(hk:PySem.W.keepIn X.K (.ref f)=true)(hb:Binds X.K fd ps [])(hx:lK CX X E)
  (h:Ea X (e :: es) σ H λvs H1=>sp vs H1 Q E) (hg:Gl X x:=by rfl) (cw:(x == ("__debug__" : Str))=false:=by decide) (hs:noStar (e :: es)=true:=by rfl):Ev X (.Call (.Name x p) (e :: es) [] pos) σ H Q:=
 cV (Xf F hr hm hk hb hx i0 hg cw hs) (show Ea X (e :: es) σ H _ from h.mono λvs H1 q=>by rw[Bg];exact q)
def b4{id:String}{r:List V->Hp->VK->Prop}{x:Str}(hc:eZ X (.builtin id) r)(hm:X.mg x=none)(hv:bootBuiltins x=some (.builtin id))(h:Ea X (e :: es) σ H λvs H1=>r vs H1 Q)(hg:Gl X x:=by rfl)(hn:x ≠ "__name__":=by decide)(cw:(x == ("__debug__" : Str))=false:=by decide)
  (hs:noStar (e :: es)=true:=by rfl):Ev X (.Call (.Name x p) (e :: es) [] pos) σ H Q:=cV (CF hc hm hv i0 hg hn cw hs) h
def lY{T:String}{r:List V->Hp->VK->Prop}{x:Str}(hc:eZ X (.type T) r)(hm:X.mg x=none)(hv:bootBuiltins x=some (.type T))(h:Ea X (e :: es) σ H λvs H1=>r vs H1 Q)(hg:Gl X x:=by rfl)(hn:x ≠ "__name__":=by decide)(cw:(x == ("__debug__" : Str))=false:=by decide)
  (hs:noStar (e :: es)=true:=by rfl):Ev X (.Call (.Name x p) (e :: es) [] pos) σ H Q:=cV (CH hc hm hv i0 hg hn cw hs) h
def b8{op:CmpOp}{r:R2}(ho:cK X (compareOp op) r)(h:Ev X a σ H λx H1=>Ev X b σ H1 λy H2=>r x y H2 λz H3=>∃ k,z = .bl k/\T k H3)(hm:behindInMarks op b=false:=by with_unfolding_all rfl):Et X (.Compare a [op] [b] pos) σ H T:=rD (V0 ho bv bv hm) h
def lZ(h:Et X a σ H λk H1=>T (!k) H1):Et X (.UnaryOp .Not a pos) σ H T:=rD (Vk lX) h
def l7(h:Ev X e σ H λx H1=>∃ k,x = .bl k/\T k H1)(he:∀ whole,isTrue e X.env whole=(do let v <- whole;standAt e.pos;holding [v] (truthy v)):=by intro _;rfl):Et X e σ H T:=rD (Ve bv he) h
def Xn(h:Ev X e σ H λx H1=>∃ k,oZ X.K x H1 k/\T k H1)(he:∀ whole,isTrue e X.env whole=(do let v <- whole;standAt e.pos;holding [v] (truthy v)):=by intro _;rfl):Et X e σ H T:=rD (V3 bv he) h
def rG(h:Ew X e σ H T):Et X e σ H T:=⟨λpins s I=>h.run _ pins s I⟩
def CO(h:Et X a σ H λk H1=>if k=true then Ew X (.BoolOp .And (b :: es) pos) σ H1 T else T false H1):Ew X (.BoolOp .And (a :: b :: es) pos) σ H T:=xM (Vi lX Nn) h
def xP(h:Et X a σ H λk H1=>if k=true then T true H1 else Ew X (.BoolOp .Or (b :: es) pos) σ H1 T):Ew X (.BoolOp .Or (a :: b :: es) pos) σ H T:=xM (Vj lX Nn) h
def CU(h:Et X a σ H T):Ew X (.BoolOp .And [a] pos) σ H T:=xM (Vg lX) h
def CY(h:Et X a σ H T):Ew X (.BoolOp .Or [a] pos) σ H T:=xM (Vh lX) h
def bg(i:Nat){x:Str}{v:V}{R:St->Hp->Prop}(hN:X.N.Nodup)(h:R (σ.set i<|some v) H)(hi:X.N[i]?=some x:=by rfl)(hx:Loc X.env.scope x:=by first | exact Or.inl rfl | exact Or.inr rfl)(hf:X.fn x=true\/X.env.scope.names.lookup x=some .local:=by first | exact .inl rfl | exact .inr rfl | assumption):Eg X (.Name x p) v σ H R:=CL (Vy hN hi hx hf) h
def aX(i:Nat){x:Str}{pos':Pos}(hN:X.N.Nodup)(h:Ev X e σ H λv H1=>Run X rest D (σ.set i<|some v) H1)(hi:X.N[i]?=some x:=by rfl)(hx:Loc X.env.scope x:=by first | exact Or.inl rfl | exact Or.inr rfl)(hs:swapsWith e (some<|.Name x pos') pos.line X.env=pure false:=by rfl)
  (hf:X.fn x=true\/X.env.scope.names.lookup x=some .local:=by first | exact .inl rfl | exact .inr rfl | assumption):Run X (.Assign [.Name x pos'] e pos :: rest) D σ H:=ju (VA hN hi hx bv hs hf) h
def c9(h:Et X c σ H λk H1=>if k=true then Run X body {D with nx:=λσ' H'=>Run X rest D σ' H'} σ H1 else Run X kR {D with nx:=λσ' H'=>Run X rest D σ' H'} σ H1):Run X (.If c body kR pos :: rest) D σ H:=ju (Vx lX pj pj) h
def Nz(φ ψ:Prop)(hc:∀ T:Bool->Hp->Prop,(∀ k:Bool,(k=true->φ)->(k=false->ψ)->T k H)->Et X c σ H T)(ht:φ->Run X body {D with nx:=λσ' H'=>Run X rest D σ' H'} σ H)(hu:ψ->Run X kR {D with nx:=λσ' H'=>Run X rest D σ' H'} σ H):Run X (.If c body kR pos :: rest) D σ H:=
 c9 (hc _ λk p q=>by
  cases k with
  | true=>rw[BP rfl];exact ht<|p rfl
  | false=>rw[BL Av];exact hu<|q rfl)
def bQ(h:Ev X e σ H D.rt):Run X (.Return (some e) pos :: rest) D σ H:=ju (Vw bv) h
def fM(h:Ev X e σ H λ_ H1=>Run X rest D σ H1)(hs:swapsWith e none pos.line X.env=pure false:=by rfl):Run X (.Expr e pos :: rest) D σ H:=ju (Vv bv hs) h
def xQ{tg:Expr}(h:Ev X e σ H λv H1=>Eg X tg v σ H1 λσ' H'=>Run X rest D σ' H')(hs:swapsWithSole [tg] e pos.line X.env=pure false:=by rfl)(hw:swappedStores [tg] e X.env=pure none:=by rfl)
  (h1:(assignEach [tg] X.env).map (·.2)=[assign tg X.env]:=by rfl):Run X (.Assign [tg] e pos :: rest) D σ H:=ju (Vz bv ph hs hw h1) h
def Loop(X:Cx)(tg:Expr)(body:Ö)(J:It)(D:Ends)(after:St->Hp->Prop)(σ:St)(H:Hp):Prop:=
 ∃ W:Nat->Nat->St->Hp->Prop,(∃ m,W 0 m σ H)/\∀ i m σ H,W i m σ H->(J.stop i H/\after σ H)\/(J.go i H/\∃ N:St->Hp->Prop,(∀ σ' H',N σ' H'->∃ m',m' < m/\W (i+1) m' σ' H') /\
  ∀ x H',J.tN i H x H'->Eg X tg x σ H' λσ2 H2=>Run X body {D with nx:=N,ct:=N,bk:=after} σ2 H2)
def C0{tg iter:Expr}{wi:TI}(hi:PI X tg iter wi)(h:wi σ H λJ H1=>Loop X tg body J D (λσ' H'=>Run X rest D σ' H') σ H1)(hp:PassesOwn (model X.prog X.w) X.A X.env X.xe:=by exact OJ)(hc:X.calm=true:=by rfl)
  (hs:∀ x,foldedSetIterable iter X.env x=pure x:=by intro _;rfl):Run X (.For tg iter body [] pos :: rest) D σ H:=ju (VM hp hc hi ph pj hs) h
def kS{tg:Expr}{q:Pos}(hm:X.mg "range" = none)(h:Ev X a σ H λx H1=>∃ j:Int,x = .int j/\-(2 ^ 62)<=j/\j < 2 ^ 62/\Loop X tg body (rm 0 j.toNat) D (λσ' H'=>Run X rest D σ' H') σ H1)(hg:Gl X "range":=by rfl)(hp:PassesOwn (model X.prog X.w) X.A X.env X.xe:=by exact OJ)(hc:X.calm=true:=by rfl)(hs:isStar a=false:=by rfl) :
  Run X (.For tg (.Call (.Name "range" q) [a] [] p) body [] pos :: rest) D σ H:=
 C0 (wi:=Mr<|uh X [a]) (Mt hg hm i0<|pf a [] _ hs) (show Ea X [a] σ H _ from ah (h.mono λx H1 ⟨j,e,h1,h2,h3⟩=>ax ⟨j,by rw[e],h1,h2,h3⟩) hs) hp hc (by intro _;rfl)
def jU{tg iter:Expr}(h:Ev X iter σ H λx H1=>∃ a,x = .ref a/\(∃ xs,aq X.K H1 a xs)/\Loop X tg body (oW X.K a) D (λσ' H'=>Run X rest D σ' H') σ H1)(hp:PassesOwn (model X.prog X.w) X.A X.env X.xe:=by exact OJ)(hc:X.calm=true:=by rfl)
  (hs:∀ x,foldedSetIterable iter X.env x=pure x:=by intro _;rfl):Run X (.For tg iter body [] pos :: rest) D σ H:=C0 (fU bv) h hp hc hs
def kU{tg:Expr}{lo:Int}{n:Nat}{after:St->Hp->Prop}(Pv:Nat->St->Hp->Prop)(h0:Pv 0 σ H)
  (hs:∀ i σ H,i < n->Pv i σ H->Eg X tg (.int<|lo+i) σ H λσ2 H2=>Run X body {D with nx:=Pv<|i+1,ct:=Pv<|i+1,bk:=after} σ2 H2) (hd:∀ σ H,Pv n σ H->after σ H):Loop X tg body (rm lo n) D after σ H:=by
 refine⟨λi m σ H=>m=n - i/\i<=n/\Pv i σ H,⟨n,by simp,Bz _,h0⟩,?_⟩;rintro i m σ H ⟨rfl,hi,p⟩
 by_cases aY:i < n
 ·refine .inr ⟨aY,Pv<|i+1,λσ' H' p'=>⟨n - (i+1),by omega,rfl,aY,p'⟩,λx H' y=>?_⟩;obtain⟨e,y⟩:=y;subst e y;exact hs i σ _ aY p
 ·have e:i=n:=by omega
  subst e;exact .inl ⟨An _,hd σ H p⟩
def x0c{tg:Expr}{at_:Addr}{xs:List V}{after:St->Hp->Prop}(Pv:Nat->St->Hp->Prop)(h0:Pv 0 σ H)(hl:∀ i σ H,i<=xs.length->Pv i σ H->aJ X.K H at_ xs)
  (hs:∀ i x σ H,xs[i]?=some x->Pv i σ H->Eg X tg x σ H λσ2 H2=>Run X body {D with nx:=Pv<|i+1,ct:=Pv<|i+1,bk:=after} σ2 H2) (hd:∀ σ H,Pv xs.length σ H->after σ H):Loop X tg body (VF X.K at_) D after σ H:=by
 refine⟨λi m σ H=>m=xs.length - i/\i<=xs.length/\Pv i σ H,⟨xs.length,by simp,Bz _,h0⟩,?_⟩;rintro i m σ H ⟨rfl,hi,p⟩;have q:=hl i σ H hi p
 by_cases aY:i < xs.length
 ·refine .inr ⟨⟨xs,xs[i],q,by simp[aY]⟩,Pv<|i+1,λσ' H' p'=>⟨xs.length - (i+1),by omega,rfl,aY,p'⟩,λx H' y=>?_⟩;obtain⟨e,y⟩:=y;subst e;exact hs i x σ _ (y xs q) p
 ·have e:i=xs.length:=by omega
  subst e;exact .inl ⟨⟨xs,q,An _⟩,hd σ H p⟩
def jV{tg:Expr}{at_:Addr}{xs:List V}{after:St->Hp->Prop}(Pv:Nat->St->Hp->Prop)(h0:Pv 0 σ H)(hl:∀ i σ H,i<=xs.length->Pv i σ H->aq X.K H at_ xs)
  (hs:∀ i x σ H,xs[i]?=some x->Pv i σ H->Eg X tg x σ H λσ2 H2=>Run X body {D with nx:=Pv<|i+1,ct:=Pv<|i+1,bk:=after} σ2 H2) (hd:∀ σ H,Pv xs.length σ H->after σ H):Loop X tg body (oW X.K at_) D after σ H:=by
 refine⟨λi m σ H=>m=xs.length - i/\i<=xs.length/\Pv i σ H,⟨xs.length,by simp,Bz _,h0⟩,?_⟩;rintro i m σ H ⟨rfl,hi,p⟩;have q:=hl i σ H hi p
 by_cases aY:i < xs.length
 ·refine .inr ⟨⟨xs,xs[i],q,by simp[aY]⟩,Pv<|i+1,λσ' H' p'=>⟨xs.length - (i+1),by omega,rfl,aY,p'⟩,λx H' y=>?_⟩;obtain⟨e,y⟩:=y;subst e;exact hs i x σ _ (y xs q) p
 ·have e:i=xs.length:=by omega
  subst e;exact .inl ⟨⟨xs,q,An _⟩,hd σ H p⟩
def bE.go{P:Program}{w:World}{K:PySem.W.Frag}{mg:Ó}{base:Heap}{x qual:Str}{st:Stmt}{f:Addr}{fd:FuncData}{N ps:Ò}{k:Nat}{sp:Sp}(F:bE K x qual st f fd)(S:ak N ps<|aU st)(len:∀ vs H Q E,sp vs H Q E->vs.length=ps.length)
  (cP : ∀ (bJ : Value) (A : Around) (outer : List Env) (s : Shared) (H : Hp) (vs : List V) (Q : VK) (E : XK), bo k (A.deeper<|envOfC qual (aU st) s.heap.objs.size f bJ) → sp vs H Q E →
   Run (c8 bH P w K mg base N qual (aU st) f bJ A outer s H E).rj (iX st) {nx:=λ_ H'=>Q .non H',rt:=Q} (start N vs) H):aG P w K mg base bH (k+1) f fd ps sp:=
 F.ok S len λbJ A outer s H vs Q E hr dD=>⟨_,pj,cP bJ A outer s H vs Q E hr dD⟩
end
structure Ei(X:Cx)(ifs:Õ)(σ:St)(H:Hp)(Q:Bool->Hp->Prop):Prop where
 run:∀(pins:Ñ) (s:Shared),Inv X pins σ H s ->
  wpAny (model X.prog X.w) X.A (forIn ifs true λc r=>if r=true then do let ok <- isTrue c X.env<|eval c X.env;pure (ForInStep.yield ok)else pure (ForInStep.yield r)) (TP X pins σ Q) X.xe s
def xR(X:Cx)(N':Ò)(scope:Scope)(e:Expr)(σ:St)(H:Hp)(Q:VK):Prop:=∀ cl C s₀ H₀ ex,Ev (fq X N' scope cl C s₀ H₀ ex) e σ H Q
def xS(X:Cx)(N':Ò)(scope:Scope)(e:Expr)(v:V)(σ:St)(H:Hp)(Q:St->Hp->Prop):Prop:=∀ cl C s₀ H₀ ex,Eg (fq X N' scope cl C s₀ H₀ ex) e v σ H Q
def xT(X:Cx)(N':Ò)(scope:Scope)(ifs:Õ)(σ:St)(H:Hp)(Q:Bool->Hp->Prop):Prop:=∀ cl C s₀ H₀ ex,Ei (fq X N' scope cl C s₀ H₀ ex) ifs σ H Q
def l9(X:Cx)(N':Ò)(scope:Scope)(tg:Expr)(ifs:Õ)(elt:Expr)(J:It)(D:Addr)(after:Hp->Prop)(σ:St)(H:Hp):Prop:=
 ∃ W:Nat->Nat->St->Hp->Prop,(∃ m,W 0 m σ H)/\∀ i m σ' H',W i m σ' H' ->
  (J.stop i H' ∧ after H') ∨ (J.go i H' ∧ ∃ N : St → Hp → Prop, (∀ σ' H', N σ' H' → ∃ m', m' < m ∧ W (i + 1) m' σ' H') ∧ ∀ x H2, J.tN i H' x H2 → xS X N' scope tg x σ' H2 λσ2 H3 => xT X N' scope ifs σ2 H3 λb H4 =>
   if b=true then xR X N' scope elt σ2 H4 λv H5=>∃ ys,H5 D=some (.lst ys)/\ys.length < sizeLine/\N σ2 (upd H5 D<|.lst<|ys++[v])else N σ2 H4)
theorem pk:∀(names:List<|Str×NameKind) (n:Nat) (acc:List<|Str×Addr),cellsFrom n names acc=cellsFrom n names []++acc
 | [],_,_=>rfl
 | (y,k) :: r,n,acc=>by
  unfold cellsFrom
  split
  ·rw[pk r (n+1)<|(y,n) :: acc,pk r (n+1) [(y,n)],Ar];rfl
  ·exact pk r n acc
theorem uj:∀(names:List<|Str×NameKind) (n:Nat) {x:Str} {c:Addr},(x,c)∈cellsFrom n names []->(x,NameKind.cell)∈names/\n<=c
 | [],_,_,_,h=>by cases h
 | (y,k) :: r,n,x,c,h=>by
  unfold cellsFrom at h
  split at h
  ·rename_i hk;rw[pk,Am]at h
   rcases h with h | h
   ·obtain⟨a,b⟩:=uj r (n+1) h;exact⟨Ah _ a,by omega⟩
   ·cases Ad.mp h;have:k = .cell:=by cases k <;> first | rfl | exact absurd hk<|by decide
    subst this;exact⟨Ae,An _⟩
  ·obtain⟨a,b⟩:=uj r n h;exact⟨Ah _ a,b⟩
theorem NA{names:List (Str×NameKind)}{n:Nat}{cl:List (Str×Addr)}{x:Str}{c:Addr}(h:(cellsFrom n names cl).lookup x=some c):((x,c)∈cellsFrom n names []/\n<=c)\/cl.lookup x=some c:=by
 rw[pk,QJ]at h;cases e:(cellsFrom n names []).lookup x with
 | some d=>
  rw[e]at h;cases h;have hm:=CW e;exact .inl ⟨hm,(uj _ _ hm).2⟩
 | none=>
  rw[e]at h;exact .inr h
theorem Xp{names:List (Str×NameKind)}{n:Nat}{cl:List (Str×Addr)}{x:Str}(h:(x,NameKind.cell)∉names):(cellsFrom n names cl).lookup x=cl.lookup x:=by
 rw[pk,QJ];cases e:(cellsFrom n names []).lookup x with
 | some d=>exact absurd (uj _ _<|CW e).1 h
 | none=>rfl
section
variable{M:Model}{A:Around}{E:Ï}{s:Shared}
def Xq{scope:Scope}{globals:Addr}{closure:List (Str×Addr)}{qual:Str}{func:Option Addr}{code:Value}{outer:Env}{builtins:Addr}{Q:Env->Shared->Prop}
  (hQ : ∀ h', h'.Ns s.heap.objs.size (λ_ => none) → (∀ b o, s.heap.get? b = some o → h'.get? b = some o) → CellsOk h' (s.heap.objs.size + 1) (cellsFrom (s.heap.objs.size + 1) scope.names []) →
   Q (newEnv scope s.heap.objs.size globals (cellsFrom (s.heap.objs.size+1) scope.names closure) qual func code (some outer) builtins) {s with heap:=h'}) :
  wpAny M A (newFunctionEnv scope globals closure [] qual func code (some outer) builtins) Q E s:=by
 simp only[newFunctionEnv,Option.isSome_some,DN];refine BJ<|QF ?_;refine BJ (wpAny_layCells _ (λname kind cells=>by cases Xr:kind == NameKind.cell <;> simp[Xr]) _ _ _ _ ?_);have ok:=cellsFrom_ok scope.names (s.heap.push {cls:= .type "dict",data:= .dict #[]}) (s.heap.objs.size+1) [] ⟨λ_ _ hm=>(nomatch hm),List.Pairwise.nil⟩ (by rw[Cz];exact An _);rw[Cz]at ok;rw[show({s with heap:=s.heap.push {cls:= .type "dict",data:= .dict #[]}}:Shared).heap.objs.size=s.heap.objs.size+1 from Cz ..];rw[List.forIn_nil];exact BJ<|BK<|BK<|hQ _ ((Heap.Ns.new s.heap<|.type "dict").keeps<|pushCells_keeps _ _) (λb o e=>pushCells_keeps _ _ b o<|Ag _ e) ok
end
def me(sc scope:Scope)(N N':Ò):Bool:=
 (match scope.kind with | .function=>true | _=>false) &&
 scope.names.all (λy=>match y.2 with
  | .cell=>(match scope.names.lookup y.1 with | some .cell=>true | _=>false)
  | .local=>(match scope.names.lookup y.1 with | some .local=>true | _=>false)
  | .free=>(match sc.names.lookup y.1 with | some .cell=>true | some .free=>true | _=>false) && (match scope.names.lookup y.1 with | some .free=>true | _=>false)
  | _=>true) &&
 (List.range N'.length).all λi => match N'[i]? with
  | none=>true
  | some x=>match scope.names.lookup x with
   | some .local=>decide (N.length<=i)
   | some .cell=>decide (N.length<=i)
   | some .free=>decide (N[i]?=some x)
   | _=>true
structure cg(sc scope:Scope)(N N':Ò):Prop where
 kind:scope.kind = .function
 cell:∀ y∈scope.names,y.2 = .cell->scope.names.lookup y.1=some .cell
 names:∀ y∈scope.names,y.2 = .local->scope.names.lookup y.1=some .local
 free:∀ y∈scope.names,y.2 = .free->sc.names.lookup y.1=some .cell\/sc.names.lookup y.1=some .free
 ND:∀ y∈scope.names,y.2 = .free->scope.names.lookup y.1=some .free
 own:∀(i:Nat) x,N'[i]?=some x->scope.names.lookup x=some .local->N.length<=i
 C1:∀(i:Nat) x,N'[i]?=some x->scope.names.lookup x=some .cell->N.length<=i
 out:∀(i:Nat) x,N'[i]?=some x->scope.names.lookup x=some .free->N[i]?=some x
def cg.of{sc scope:Scope}{N N':Ò}(h:me sc scope N N'=true):cg sc scope N N':=by
 unfold me at h;rw[Bn,Bn]at h;obtain⟨⟨h1,h2⟩,h3⟩:=h;have mh:=Dw.mp h2;have C2:=Dw.mp h3;refine⟨?_,λy hy e=>?_,λy hy e=>?_,λy hy e=>?_,λy hy e=>?_,λi x hi e=>?_,λi x hi e=>?_,λi x hi e=>?_⟩
 ·revert h1;cases scope.kind <;> intro h1 <;> first | rfl | cases h1
 ·have q:=mh y hy;rw[e]at q;simp only at q
  split at q
  ·assumption
  ·cases q
 ·have q:=mh y hy;rw[e]at q;simp only at q
  split at q
  ·assumption
  ·cases q
 ·have q:=mh y hy;rw[e]at q;simp only at q;rw[Bn]at q;have q:=q.1
  split at q
  ·exact .inl<|by assumption
  ·exact .inr<|by assumption
  ·cases q
 ·have q:=mh y hy;rw[e]at q;simp only at q;rw[Bn]at q;have q:=q.2
  split at q
  ·assumption
  ·cases q
 ·have q:=C2 i<|Bt.mpr (Ac.mp hi).1;rw[hi]at q;simp only[e]at q;exact BX q
 ·have q:=C2 i<|Bt.mpr (Ac.mp hi).1;rw[hi]at q;simp only[e]at q;exact BX q
 ·have q:=C2 i<|Bt.mpr (Ac.mp hi).1;rw[hi]at q;simp only[e]at q;exact BX q
section
variable{X:Cx}{pins:Ñ}{σ:St}{H:Hp}{s:Shared}
def Xs{N':Ò}{scope:Scope}{n:Nat}{fp:List Addr}{h₁:Heap}{t':Nat}{m:Ó}(I:Inv X pins σ H s)(ck:cg X.env.scope scope X.N N')(hl:N'.length=X.N.length+n)
  (xI:h₁.Ns s.heap.objs.size m) (old:∀ b o,s.heap.get? b=some o->h₁.get? b=some o) (nK:CellsOk h₁ (s.heap.objs.size+1)<|cellsFrom (s.heap.objs.size+1) scope.names [])
  (nN:∀ b∈fp,cf X pins H b/\b < s.heap.objs.size) :
  Inv (fq X N' scope (cellsFrom (s.heap.objs.size+1) scope.names<|cC scope.names X.env.cells []) s.heap.objs.size s H fp) [] (σ++List.replicate n none) H {s with heap:=h₁,toks:=t'}:=by
 have sub:∀ x c,(cC scope.names X.env.cells []).lookup x=some c->X.env.cells.lookup x=some c:=λx c e=>B9 _ _ _ (λ_ _ z=>by simp at z) x c<|CW e;have both:∀ x c,(cellsFrom (s.heap.objs.size+1) scope.names<|cC scope.names X.env.cells []).lookup x=some c->((x,c)∈cellsFrom (s.heap.objs.size+1) scope.names []/\s.heap.objs.size+1<=c)\/X.env.cells.lookup x=some c:=λx c e=>by
  rcases NA e with z | z
  ·exact .inl z
  ·exact .inr<|sub x c z
 have nO:∀ x c,X.env.cells.lookup x=some c->c < s.heap.objs.size:=λx c e=>by
  obtain⟨v,o,ho,_⟩:=I.cell x c e;exact Aq ho
 have Xt:H s.heap.objs.size=none:=I.aE.fresh<|An _;have kindOf:∀{x:Str} {k':NameKind},(relabel scope X.env).names.lookup x=some k'->∃ k,scope.names.lookup x=some k/\(k'=k\/(k = .free/\k' = .cell)):=λz=>Nj z;have NM:∀ x,scope.names.lookup x=some .free->(cellsFrom (s.heap.objs.size+1) scope.names<|cC scope.names X.env.cells []).lookup x=(cC scope.names X.env.cells []).lookup x:=λx e=>Xp λhm=>by
  have:=ck.cell _ hm rfl;rw[e]at this;cases this
 have C3:∀ x,scope.names.lookup x=some .cell->∃ c,(cellsFrom (s.heap.objs.size+1) scope.names<|cC scope.names X.env.cells []).lookup x=some c:=λx e=>Er.mp<|JK _ _ _<|.inl e;have Xu:(fq X N' scope (cellsFrom (s.heap.objs.size+1) scope.names<|cC scope.names X.env.cells []) s.heap.objs.size s H fp).Ok:=by
  refine⟨I.ok.mod,ck.kind,I.ok.glob,I.ok.blt,An _,λx y c e1 e2=>?_,λx hx=>?_,λx c hf e=>?_,I.ok.hd,I.ok.frames,.inl rfl,λb hb=>⟨Bm (nN b hb).2,λx c e=>?_⟩,
   I.bs,By I.ok.js I.sz,λb o e hb=>?_,λb hb hf=>?_,I.stack,I.cN⟩
  ·rcases both x c e1 with z1 | z1
   ·rcases both y c e2 with z2 | z2
    ·exact name_of_addr nK.apart z1.1 z2.1
    ·exact absurd (nO y c z2)<|Nat.not_lt.mpr<|El z1.2
   ·rcases both y c e2 with z2 | z2
    ·exact absurd (nO x c z1)<|Nat.not_lt.mpr<|El z2.2
    ·exact I.ok.inj x y c z1 z2
  ·have gg:(relabel scope X.env).names.lookup x=some .cell\/(relabel scope X.env).names.lookup x=some .free:=hx;have:∃ k,scope.names.lookup x=some k/\(k = .free\/k = .cell):=by
    rcases gg with z | z
    ·obtain⟨k,e,r⟩:=kindOf z
     rcases r with r | ⟨r,_⟩
     ·exact⟨k,e,.inr r.symm⟩
     ·exact⟨k,e,.inl r⟩
    ·obtain⟨k,e,r⟩:=kindOf z
     rcases r with r | ⟨r,_⟩
     ·exact⟨k,e,.inl r.symm⟩
     ·exact⟨k,e,.inl r⟩
   obtain⟨k,e,rfl | rfl⟩:=this
   ·have hm:=CW e;obtain⟨c,hc⟩:=I.ok.has x<|ck.free _ hm rfl;obtain⟨d,hd⟩:=CB<|CA scope.names X.env.cells [] x c hm hc;exact⟨d,(NM x e).trans hd⟩
   ·exact C3 x e
  ·have hx:scope.names.lookup x=some .cell:=by
    have xU:(match scope.names.lookup x with | some .cell=>true | _=>false)=true:=hf
    split at xU
    ·assumption
    ·cases xU
   have e':(cellsFrom (s.heap.objs.size+1) scope.names<|cC scope.names X.env.cells []).lookup x=some c:=e;have q1:=Er.mp<|JK scope.names (s.heap.objs.size+1) []<|.inl hx;obtain⟨d,hd⟩:=q1;rw[pk,QJ,hd]at e';have e2:d=c:=Option.some.inj e';have:=(uj _ _<|CW hd).2;rw[<- e2];exact El this
  ·have e':(cellsFrom (s.heap.objs.size+1) scope.names<|cC scope.names X.env.cells []).lookup x=some c:=e
   rcases both x c e' with z | z
   ·have h1:=(nN b hb).2;have h2:=z.2;exact λk=>absurd h1<|Nat.not_lt.mpr<|by rw[<- k];exact El h2
   ·exact(nN b hb).1.2.2.2.2.1 x c z
  ·have:=(nN b hb).1.2.2.2.1
   rcases this with z | z
   ·exact I.ok.fk b o e z
   ·exact absurd (Be (Aq e)<|By I.ok.js z)<|Cv _
  ·rcases Aj.mp (I.cY b hf)with z | z
   ·exact(nN b hb).1.2.1 z
   ·exact(nN b hb).1.2.2.1 z
 refine⟨Xu,rfl,I.bare,Un.kept old,⟨m,xI,λi x v e1 e2 e3=>?_⟩,λx c e=>?_,Xt,λx c e=>?_,λp hp=>absurd hp (by simp[fq]),I.aE.kept old,?_⟩
 ·have hi:i < σ.length:=by
   by_cases hi:i < σ.length
   ·exact hi
   ·rw[Az (by omega),Eu]at e2
    split at e2 <;> cases e2
  rw[As hi]at e2;have pq:N'[i]?=some x:=e1;have Xv:∃ k',(relabel scope X.env).names.lookup x=some k'/\(k' = .local\/k' = .cell\/k' = .free):=by
   rcases e3 with z | z | z
   ·exact⟨_,z,.inl rfl⟩
   ·exact⟨_,z,.inr<|.inl rfl⟩
   ·exact⟨_,z,.inr<|.inr rfl⟩
  obtain⟨k',C4,mj⟩:=Xv;obtain⟨k,ek,r⟩:=kindOf C4;have kf:k = .free:=by
   rcases r with r | ⟨r,_⟩
   ·subst r
    rcases mj with z | z | z
    ·subst z;have:=ck.own i x pq ek;rw[I.len]at hi;omega
    ·subst z;have:=ck.C1 i x pq ek;rw[I.len]at hi;omega
    ·exact z
   ·exact r
  subst kf;have hm:=CW ek;have Xw:=ck.out i x pq ek;obtain⟨m0,C5,mq⟩:=I.loc;have kx:=ck.free _ hm rfl;obtain⟨u,ru,lk⟩:=mq i x v Xw e2 (by rcases kx with z | z;exact .inr<|.inl z;exact .inr<|.inr z);refine⟨u,ru,.inr ⟨?_,?_⟩⟩
  ·rcases r with r | ⟨_,r⟩
   ·subst r;exact .inr C4
   ·subst r;exact .inl C4
  ·rcases lk with ⟨k1,_⟩ | ⟨_,c,hc,iy⟩
   ·have C6:X.env.scope.names.lookup x=some .local:=k1
    rcases kx with z | z
    ·rw[C6]at z;cases z
    ·rw[C6]at z;cases z
   ·have xV:=CA scope.names X.env.cells [] x c hm hc;obtain⟨d,hd⟩:=CB xV;have:d=c:=Option.some.inj<|(sub x d hd).symm.trans hc;subst this;obtain⟨o,ho,i4⟩:=iy;exact⟨d,(NM x ek).trans hd,o,old _ _ ho,i4⟩
 ·have e':(cellsFrom (s.heap.objs.size+1) scope.names<|cC scope.names X.env.cells []).lookup x=some c:=e
  rcases both x c e' with z | z
  ·exact⟨none,(nK.empty x c z.1).1⟩
  ·obtain⟨v,o,ho,i4⟩:=I.cell x c z;exact⟨v,o,old _ _ ho,i4⟩
 ·have e':(cellsFrom (s.heap.objs.size+1) scope.names<|cC scope.names X.env.cells []).lookup x=some c:=e
  rcases both x c e' with z | z
  ·exact I.aE.fresh<|El z.2
  ·exact I.bz x c z
 ·rw[Af,Fd,I.len];exact hl.symm
end
structure Clause(e:Expr)(d:Nat)(tg iter:Expr)(ifs:Õ)(acc:Value)(env:Env)(inner:Sem Unit):Prop where
 at':(clausesOf e)[d]?=some ⟨tg,iter,ifs,0⟩
 quiet:∀ it,(Code.compLoop e d it acc env).quiet=true
 den:∀(prog:Program) (w:World) it,(model prog w).den (.compLoop e d it acc env)=(compTurn e d it acc env).onRaise (λx=>do noteFrame x env;theTreesLotGoes x)
 Xx:∀(A:Around) it,A.under (.compLoop e d it acc env)=A
 C7:∀(prog:Program) (w:World) it,(model prog w).den (.compStart e d it acc env)=(compStart e d it acc env).onRaise (λx=>do noteFrame x env;standAt theWindowsPlace)
 C8:∀(A:Around) it,A.under (.compStart e d it acc env)=A
 turn:∀ it,compTurn e d it acc env=(do
   standAt iter.pos
   match <- pyNext it with
   | none=>pure<|.done .next
   | some v=>
    letOwnedTupleGo tg it v
    assign tg env v
    let mut ok:=true
    for c in ifs do
     if ok then ok <- isTrue c env<|eval c env
    if ok then
     inner
    again (.compLoop e d it acc env))
section
variable{prog:Program}{w:World}{A:Around}{R:Result->Shared->Prop}{s:Shared}
theorem Xy{e:Expr}{d:Nat}{tg iter:Expr}{ifs:Õ}{it acc:Value}{env:Env}{inner:Sem Unit}(C:Clause e d tg iter ifs acc env inner)(I:Nat->Shared->Prop)
  (turn : ∀ n s, I n s → wpAny (model prog w) A (pyNext it) (λr À => match r with
   | none=>R (.ok .next) À
   | some v=>wpAny (model prog w) A (letOwnedTupleGo tg it v) (λ_ s₁'=>wpAny (model prog w) A (assign tg env v) (λ_ Á=>
     wpAny (model prog w) A (forIn ifs true λc r=>if r=true then do let ok <- isTrue c env<|eval c env;pure (ForInStep.yield ok)else pure (ForInStep.yield r)) (λok Â=>
      if ok=true then wpAny (model prog w) A inner (λ_ Ã=>∃ m,m < n/\I m Ã) (notedBy (model prog w) A env λe s'=>R (.error e) s') Â
      else ∃ m,m < n/\I m Â) (notedBy (model prog w) A env λe s'=>R (.error e) s') Á) (notedBy (model prog w) A env λe s'=>R (.error e) s') s₁') (notedBy (model prog w) A env λe s'=>R (.error e) s') À) (notedBy (model prog w) A env λe s'=>R (.error e) s') s)
  (n:Nat) (h:I n s) :
  codeAny (model prog w) A (.compLoop e d it acc env) R s:=by
 refine codeAny_loop (C.quiet it) I (λn s hI=>?_) n h;rw[C.Xx,C.den];refine wpAny_noted ?_;rw[C.turn];refine BJ<|FW<|BJ<|CP (turn n s hI) (λr À h₁=>?_) λ_ _ h'=>h';cases r with
 | none=>exact BK h₁
 | some v=>
  refine BJ<|CP h₁ (λ_ s₁' h₁'=>?_) λ_ _ h'=>h';refine BJ<|CP h₁' (λ_ Á Ä=>BJ<|CP Ä (λok Â Å=>?_) λ_ _ h'=>h') λ_ _ h'=>h';cases ok with
  | false=>exact BK ⟨rfl,Å⟩
  | true=>exact BJ<|CP Å (λ_ Ã Ç=>BK ⟨rfl,Ç⟩) λ_ _ h'=>h'
def Xz{e:Expr}{d:Nat}{tg iter:Expr}{ifs:Õ}{it acc:Value}{env:Env}{inner:Sem Unit}(C:Clause e d tg iter ifs acc env inner)
  (h0:codeAny (model prog w) A (.compLoop e d it acc env) R s)
  (h:wpAny (model prog w) A (pyIter it) (λC9 s'=>codeAny (model prog w) A (.compLoop e d C9 acc env) R s') (notedBy (model prog w) A env λx s'=>R (.error x) s') s) :
  codeAny (model prog w) A (.compStart e d it acc env) R s:=by
 refine JX ?_;rw[C.C8,C.C7];refine wpAny_notedAt ?_;unfold compStart;rw[C.at'];show wpAny _ _ (ask >>= _) _ _ s;refine BJ<|JR<|wpAny_ite ?_
 split
 ·first
   | exact BJ<|BK<|BK<|And.intro (C.quiet _) h0
   | exact BK<|And.intro (C.quiet _) h0
 ·first
   | exact BJ<|HD<|BJ<|FW<|BJ<|CP h (λC9 s' h'=>BK<|And.intro (C.quiet _) h') λ_ _ x=>x
   | (refine BJ<|HD ?_;show wpAny _ _ (standAt iter.pos >>= _) _ _ s;exact BJ<|FW<|BJ<|CP h (λC9 s' h'=>BK<|And.intro (C.quiet _) h') λ_ _ x=>x)
end
structure kW(X:Cx)(m:Sem Unit)(σ:St)(H:Hp)(Q:St->Hp->Prop):Prop where
 run:∀(pins:Ñ) (s:Shared),Inv X pins σ H s->wpAny (model X.prog X.w) X.A m (λ_ s'=>∃ σ' H',Inv X pins σ' H' s'/\Q σ' H') X.xe s
def hG(X:Cx)(tg:Expr)(ifs:Õ)(inner:Sem Unit)(J:It)(after:St->Hp->Prop)(σ:St)(H:Hp):Prop:=
 ∃ W:Nat->Nat->St->Hp->Prop,(∃ m,W 0 m σ H)/\∀ i m σ' H',W i m σ' H' ->
  (J.stop i H' ∧ after σ' H') ∨ (J.go i H' ∧ ∃ N : St → Hp → Prop, (∀ σ' H', N σ' H' → ∃ m', m' < m ∧ W (i + 1) m' σ' H') ∧ ∀ x H2, J.tN i H' x H2 → Eg X tg x σ' H2 λσ2 H3 => Ei X ifs σ2 H3 λb H4 =>
   if b=true then kW X inner σ2 H4 N else N σ2 H4)
def xW{X:Cx}(i5:X.xe=λ_ _=>False)(hc:X.calm=true){e:Expr}{d:Nat}{tg iter:Expr}{ifs:Õ}{acc:Value}{inner:Sem Unit}(C:Clause e d tg iter ifs acc X.env inner){pins:Ñ}{σ:St}{H:Hp}{s:Shared}
  {it:Addr} {fp:List Addr} {tn:Nat->Heap->Prop} {J:It} {after:St->Hp->Prop} {R:Result->Shared->Prop} (I:Inv X pins σ H s) (T:Turn X.prog X.w X.K tg J fp it tn) (st:tn 0 s.heap) (hf:∀ b∈fp,cf X pins H b) (h:hG X tg ifs inner J after σ H)
  (hR:∀ σ' H' s',Inv X pins σ' H' s'->after σ' H'->R (.ok .next) s') :
  codeAny (model X.prog X.w) X.A (.compStart e d (.ref it) acc X.env) R s:=by
 obtain⟨W,⟨m0,w0⟩,turn⟩:=h;have stat:∀{H':Hp},(∀ b∈fp,H' b=none)->∀ b∈fp,cf X pins H' b:=λhn b hb=>⟨hn b hb,(hf b hb).2⟩;have loop:codeAny (model X.prog X.w) X.A (.compLoop e d (.ref it) acc X.env) R s:=by
  refine Xy C (λk s'=>∃ i σ' H',Inv X pins σ' H' s'/\tn i s'.heap/\(∀ b∈fp,H' b=none)/\W i k σ' H') ?_ m0 ⟨0,σ,H,I,st,λb hb=>(hf b hb).1,w0⟩;rintro k s4 ⟨i,σ4,H4,J4,NU,NV,w4⟩
  rcases turn i k σ4 H4 w4 with ⟨stop,qn⟩ | ⟨go,N,hN,step⟩
  ·have d1:=T.done X rfl rfl rfl hc i pins s4 σ4 H4 (λ_ _=>False) J4 (stat NV) NU stop;refine iZ d1 λr s5 ⟨hr,I5⟩=>?_;subst hr;exact hR _ _ _ I5 qn
  ·have d1:=T.item X rfl rfl rfl hc i pins s4 σ4 H4 (λ_ _=>False) J4 (stat NV) NU go;refine iZ d1 λr s5 ⟨u,hr,h5⟩=>?_;subst hr;refine iZ h5 λ_ s6 ⟨x,H6,I6,r6,y6,Dt,XA⟩=>?_;have XB:=I6.pinned (stat XA)<|T.obj _ _ Dt;have again:∀{σ7:St} {H7:Hp} {s7:Shared},Inv X (pins++tO fp s6.heap) σ7 H7 s7->N σ7 H7->∃ m,m < k/\∃ i σ' H',Inv X pins σ' H' s7/\tn i s7.heap/\(∀ b∈fp,H' b=none)/\W i m σ' H':=λ{σ7 H7 s7} I7 n7=>by
    obtain⟨m',hm,w7⟩:=hN σ7 H7 n7;refine⟨m',hm,i+1,σ7,H7,I7.cO,T.keep _ _ _ Dt λb hb o e=>(I7.pin (b,o)<|Ax _<|Ax _<|xB hb e).1,λb hb=>?_,w7⟩;obtain⟨o,e,d⟩:=T.obj _ _ Dt b hb;exact(I7.pin (b,o)<|Ax _<|Ax _<|xB hb e).2.1
   have a1:=(step x H6 y6).run _ s6 u XB r6;rw[i5]at a1;refine iZ a1 λ_ s7 ⟨σ7,H7,I7,q7⟩=>?_;have a2:=q7.run _ s7 I7;rw[i5]at a2;refine iZ a2 λok s8 ⟨H8,I8,q8⟩=>?_;cases ok with
   | false=>
    rw[BL Av]at q8 ⊢;exact again I8 q8
   | true=>
    rw[BP rfl]at q8 ⊢;have a3:=q8.run _ s8 I8;rw[i5]at a3;exact iZ a3 λ_ s9 ⟨σ9,H9,I9,q9⟩=>again I9 q9
 exact Xz C loop<|T.self _ 0 _ _ _ st loop
def NX{X:Cx}{e:Expr}{tg iter:Expr}{ifs:Õ}{scope:Scope}{N':Ò}{newAcc:Sem Value}{o0:Obj}{u0:Addr->HO}{n:Nat}{inner:Value->Env->Sem Unit}{pins:Ñ}{σ:St}{H2:Hp}{s2:Shared}{E:Ï}{RR:Value->Addr->Result->Shared->Prop}{it:Addr}{fp:List Addr}{tn:Nat->Heap->Prop}{J:It}{Q:VK}
  (eQ:∀(Q:Ï) (E:Ï) (s:Shared),Q (.ref s.heap.objs.size) {s with heap:=s.heap.push o0}->wpAny (model X.prog X.w) X.A newAcc Q E s) (g8:∀(H:Hp) (h:Heap),sysModules < h.objs.size->aB X.prog X.w H (h.push o0) h.objs.size (u0 h.objs.size))
  (hc:X.calm=true) (ck:cg X.env.scope scope X.N N') (hl:N'.length=X.N.length+n) (hC:∀ acc env,Clause e 0 tg iter ifs acc env<|inner acc env)
  (I2:Inv X pins σ H2 s2) (T:Turn X.prog X.w X.K tg J fp it tn) (fJ:tn 0 s2.heap) (f2:∀ b∈fp,cf X pins H2 b)
  (q:∀ D,H2 D=none->∀ cl C s₀ H₀ ex,hG (fq X N' scope cl C s₀ H₀ ex) tg ifs (inner (.ref D)<|compEnvC scope cl C X.env) J (λ_ H'=>Q (.ref D) H') (σ++List.replicate n none)<|upd H2 D<|u0 D)
  (DA:∀ D C H' s' m,Inv X pins σ H' s'->s'.heap.Ns C m->H' C=none->C≠X.env.locals->X.s₀.heap.objs.size<=C->(∀ x c,X.env.cells.lookup x=some c->c≠C)->(∀ p∈X.pn++pins,p.1≠C)->Q (.ref D) H'->RR (.ref D) C (.ok .next) s') :
  wpAny (model X.prog X.w) X.A newAcc (λacc Â=>wpAny (model X.prog X.w) X.A (newFunctionEnv scope X.env.globals (cC scope.names X.env.cells []) [] X.env.qual none .none<|some X.env) (λjW Ã=>
   codeAny (model X.prog X.w) X.A (.compStart e 0 (.ref it) acc {jW with scope:=relabel scope X.env}) (RR acc jW.locals) Ã) E Â) E s2:=by
 refine eQ _ _ _<|Xq λh₁ Ê Ë Ì=>?_;have hD:H2 s2.heap.objs.size=none:=I2.aE.fresh<|An _;have q0:=q s2.heap.objs.size hD;have fl:∀ b∈fp,b < s2.heap.objs.size:=λb hb=>by
  obtain⟨o,e,_⟩:=T.obj 0 _ fJ b hb;exact Aq e
 have I3:Inv X pins σ (upd H2 s2.heap.objs.size<|u0 s2.heap.objs.size) {s2 with heap:=s2.heap.push o0}:=
  I2.laid (t':=s2.toks) (λb o e=>Ag _ e) (An _) (g8 _ _ I2.big)
 generalize xX:({s2 with heap:=s2.heap.push o0}:Shared)=s3 at I3 Ê Ë Ì ⊢;have XD:s3.heap.objs.size=s2.heap.objs.size+1:=by rw[<- xX];exact Cz ..
 have DB:∀ b o,s2.heap.get? b=some o->s3.heap.get? b=some o:=λb o e=>by rw[<- xX];exact Ag _ e
 have old:∀ b o,s3.heap.get? b=some o->h₁.get? b=some o:=Ë;have f3:∀ b∈fp,cf X pins (upd H2 s2.heap.objs.size<|u0 s2.heap.objs.size) b/\b < s3.heap.objs.size:=λb hb=>by
  refine⟨⟨?_,(f2 b hb).2⟩,by rw[XD];exact Cb<|fl b hb⟩;rw[av<|Bm<|fl b hb];exact(f2 b hb).1
 have I4:=λ(t':Nat)=>Xs (N':=N') (scope:=scope) (n:=n) (fp:=fp) (h₁:=h₁) (t':=t') I3 ck hl Ê old Ì f3;generalize hX:fq X N' scope (cellsFrom (s3.heap.objs.size+1) scope.names<|cC scope.names X.env.cells []) s3.heap.objs.size s3 (upd H2 s2.heap.objs.size<|u0 s2.heap.objs.size) fp=X' at I4;have eP:X'.prog=X.prog:=by rw[<- hX];rfl
 have ew:X'.w=X.w:=by rw[<- hX];rfl
 have eK:X'.K=X.K:=by rw[<- hX];rfl
 have eA:X'.A=X.A:=by rw[<- hX];rfl
 have eE:X'.env=compEnvC scope (cellsFrom (s3.heap.objs.size+1) scope.names<|cC scope.names X.env.cells []) s3.heap.objs.size X.env:=by rw[<- hX];rfl
 have ec:X'.calm=true:=by rw[<- hX];exact hc
 have Mg:X'.xe=λ_ _=>False:=by rw[<- hX];rfl
 have stat:∀{H':Hp},(∀ b∈fp,H' b=none)->∀ b∈fp,cf X' [] H' b:=λhn b hb=>by
  refine⟨hn b hb,?_,?_,?_,?_,?_⟩
  ·rw[eE];exact Bm (f3 b hb).2
  ·rw[<- hX];intro hf
   rcases Aj.mp (I3.cY b hf)with z | z
   ·exact(f3 b hb).1.2.1 z
   ·exact(f3 b hb).1.2.2.1 z
  ·rw[<- hX];exact .inl hb
  ·rw[eE];intro x c e
   rcases NA e with z | z
   ·exact λk=>absurd (f3 b hb).2<|Nat.not_lt.mpr<|by rw[<- k];exact El z.2
   ·exact(f3 b hb).1.2.2.2.2.1 x c<|B9 _ _ _ (λ_ _ z=>by simp at z) x c<|CW z
  ·rw[<- hX];intro p hp;exact absurd hp<|by simp[fq]
 have fin:∀{σ':St} {H':Hp} {s':Shared},Inv X' [] σ' H' s'->Q (.ref s2.heap.objs.size) H'->RR (.ref s2.heap.objs.size) s3.heap.objs.size (.ok .next) s':=λ{σ' H' s'} I' q'=>by
  obtain⟨m',kQ,_⟩:=id I'.loc;rw[eE]at kQ;have XE:s'.os=s3.os:=by have:=I'.os;rw[<- hX]at this;exact this
  have XG:Un (cU X.stack) fp (upd H2 s2.heap.objs.size<|u0 s2.heap.objs.size) H' s3.heap s'.heap:=by have:=I'.base;rw[<- hX]at this;exact this
  have aE:b7 X.prog X.w H' s'.heap:=by have:=I'.aE;rw[eP,ew]at this;exact this
  have IX:Inv X pins σ H' s':=I3.call' (ch:=fp) XE XG aE I'.bare λb hb=>⟨(f3 b hb).1.2.2.2.1,(f3 b hb).1.2.1,(f3 b hb).1.2.2.2.2.1,(f3 b hb).1.2.2.2.2.2⟩;have gO:=I'.free;rw[eE]at gO;refine DA _ _ H' s' m' IX kQ gO (Cp I3.lt) I3.sz (λx c e z=>?_) (λp hp z=>?_) q'
  ·obtain⟨v,o,ho,_⟩:=I3.cell x c e;exact absurd (Aq ho)<|by rw[z];exact Cv _
  ·exact absurd (Aq (I3.pin p hp).1)<|by rw[z];exact Cv _
 have XH:∀ b∈fp,cf X' [] (upd H2 s2.heap.objs.size<|u0 s2.heap.objs.size) b:=stat λb hb=>(f3 b hb).1.1;have q1:hG X' tg ifs (inner (.ref s2.heap.objs.size) X'.env) J (λ_ H'=>Q (.ref s2.heap.objs.size) H') (σ++List.replicate n none) (upd H2 s2.heap.objs.size<|u0 s2.heap.objs.size):=by
  rw[eE,<- hX];exact q0 _ _ _ _ _
 have T':Turn X'.prog X'.w X'.K tg J fp it tn:=by rw[eP,ew,eK];exact T
 have fin2:=xW (s:={s3 with heap:=h₁,toks:=s3.toks}) Mg ec (hC (.ref s2.heap.objs.size) X'.env) (I4 s3.toks) T' (T.keep 0 _ _ fJ λb _ o e=>old b o<|DB b o e) XH q1 (R:=RR (.ref s2.heap.objs.size) s3.heap.objs.size) λσ' H' s' I' a'=>fin I' a';rw[eP,ew,eA,eE]at fin2;exact fin2
def emit(elt:Expr)(acc:Value)(env:Env):Sem Unit:=do let _ <- call (.builtin "list.append") [acc,<- eval elt env]
section
variable{X:Cx}{elt tg iter:Expr}{ifs:Õ}{scope:Scope}{pos:Pos}{σ:St}{H:Hp}{acc:Value}{env:Env}{N':Ò}{J:It}
def XI:Clause (.ListComp elt [⟨tg,iter,ifs,0⟩] scope pos) 0 tg iter ifs acc env (emit elt acc env):=⟨rfl,λ_=>rfl,λ_ _ _=>rfl,λ_ _=>rfl,λ_ _ _=>rfl,λ_ _=>rfl,λ_=>rfl⟩
def NY{D:Addr}{Q:St->Hp->Prop} (h:Ev X elt σ H λv H1=>∃ ys,H1 D=some (.lst ys)/\ys.length < sizeLine/\Q σ (upd H1 D<|.lst<|ys++[v])):kW X (emit elt (.ref D) X.env) σ H Q:=by
 refine⟨λpins s I=>?_⟩;unfold emit;refine BJ<|aN (h.run pins s I) λv s1 ⟨x,H1,I1,r1,ys,hy,hz,q⟩=>?_;refine BJ<|aN (M5 (X:=X) _ s1 σ H1 (.ref D) [x] (.ref D) [v] (λ_ H'=>Q σ H') I1 rfl (.cons r1 .nil) ⟨_,ys,x,rfl,rfl,hy,hz,q⟩) λ_ s2 ⟨_,H2,I2,_,q2⟩=>BK ⟨σ,H2,I2,q2⟩
def Eg.mono{v:V}{R R':St->Hp->Prop}(h:Eg X elt v σ H R)(f:∀ σ' H',R σ' H'->R' σ' H'):Eg X elt v σ H R':=⟨λpins s u I r=>aN (h.run pins s u I r) λ_ _ ⟨σ',H',I',q⟩=>⟨σ',H',I',f _ _ q⟩⟩
def Ei.mono{T T':Bool->Hp->Prop}(h:Ei X ifs σ H T)(f:∀ b H',T b H'->T' b H'):Ei X ifs σ H T':=⟨λpins s I=>aN (h.run pins s I) λ_ _ ⟨H',I',q⟩=>⟨H',I',f _ _ q⟩⟩
theorem XJ{D:Addr}{after:Hp->Prop}(h:l9 X N' scope tg ifs elt J D after σ H)(cl:List<|Str×Addr)(C:Addr)(s₀:Shared)(H₀:Hp)(ex:List Addr):hG (fq X N' scope cl C s₀ H₀ ex) tg ifs (emit elt (.ref D)<|compEnvC scope cl C X.env) J (λ_ H'=>after H') σ H:=by
 obtain⟨W,w0,t⟩:=h;refine⟨W,w0,λi m σ' H' w=>(t i m σ' H' w).imp id λ⟨g,N,hN,st⟩=>⟨g,N,hN,λx H2 y=>(st x H2 y cl C s₀ H₀ ex).mono λσ2 H3 h3=>(h3 cl C s₀ H₀ ex).mono λb H4 h4=>?_⟩⟩;cases b with
 | true=>
  rw[BP rfl]at h4 ⊢;exact NY (X:=fq X N' scope cl C s₀ H₀ ex)<|h4 cl C s₀ H₀ ex
 | false=>
  rw[BL Av]at h4 ⊢;exact h4
def N0{n:Nat}{pins:Ñ}{H2:Hp}{s2:Shared}{E:Ï}{RR:Value->Addr->Result->Shared->Prop}{it:Addr}{fp:List Addr}{tn:Nat->Heap->Prop}{Q:VK}
  (hc:X.calm=true) (ck:cg X.env.scope scope X.N N') (hl:N'.length=X.N.length+n) (I2:Inv X pins σ H2 s2) (T:Turn X.prog X.w X.K tg J fp it tn) (fJ:tn 0 s2.heap) (f2:∀ b∈fp,cf X pins H2 b)
  (q:∀ D,H2 D=none->l9 X N' scope tg ifs elt J D (λH'=>Q (.ref D) H') (σ++List.replicate n none) (upd H2 D<|.lst []))
  (DA:∀ D C H' s' m,Inv X pins σ H' s'->s'.heap.Ns C m->H' C=none->C≠X.env.locals->X.s₀.heap.objs.size<=C->(∀ x c,X.env.cells.lookup x=some c->c≠C)->(∀ p∈X.pn++pins,p.1≠C)->Q (.ref D) H'->RR (.ref D) C (.ok .next) s') :
  wpAny (model X.prog X.w) X.A (newList []) (λacc Â=>wpAny (model X.prog X.w) X.A (newFunctionEnv scope X.env.globals (cC scope.names X.env.cells []) [] X.env.qual none .none<|some X.env) (λjW Ã=>
   codeAny (model X.prog X.w) X.A (.compStart (.ListComp elt [⟨tg,iter,ifs,0⟩] scope pos) 0 (.ref it) acc {jW with scope:=relabel scope X.env}) (RR acc jW.locals) Ã) E Â) E s2:=
 NX (newAcc:=newList []) (o0:={cls:= .type "list",dict:=none,data:= .seq ([]:Ô).toArray}) (u0:=λ_=> .lst []) (λ_ _ _ h=>CZ h<|by show(0:Nat)<=sizeLine;exact Bz _) (λ_ _ _=>⟨Bz _,[],0,.nil,At _ rfl⟩) hc ck hl (λ_ _=>XI) I2 T fJ f2 (λD hD=>XJ<|q D hD) DA
end
section
variable{X:Cx}{elt tg iter c:Expr}{ifs:Õ}{scope:Scope}{pos p:Pos}{wi:TI}{σ:St}{H:Hp}{Q:VK}{T:Bool->Hp->Prop}{rest:Ö}{D:Ends}
def i6(h:T true H):Ei X [] σ H T:=⟨λpins s I=>Xb pins s σ H T I h⟩
def nP(h:Et X c σ H T):Ei X [c] σ H T:=⟨λpins s I=>Xc lX pins s σ H T I h⟩
def jv(sc:Scope)(N N':Ò)(n:Nat)(hi:PI X tg iter wi)
  (h:wi σ H λJ H1=>∀ D,H1 D=none->l9 X N' scope tg ifs elt J D (λH'=>Q (.ref D) H') (σ++List.replicate n none) (upd H1 D<|.lst []))
  (hc:X.calm=true:=by rfl) (i7:X.env.scope=sc:=by rfl) (hN:X.N=N:=by rfl) (hk:me sc scope N N'=true:=by decide +kernel) (hl:N'.length=N.length+n:=by rfl)
  (hs:∀ x,foldedSetIterable iter X.env x=pure x:=by intro _;rfl):Ev X (.ListComp elt [⟨tg,iter,ifs,0⟩] scope pos) σ H Q:=by
 refine⟨λpins s I=>?_⟩;subst i7 hN;have ck:=cg.of hk;rw[eval_ListComp];refine KD (use:=none) rfl hs (B8 λx hx hf=>I.ok.has x.1<|ck.free x hx hf) ck.kind ck.names (aN (hi pins s σ H _ I h) λv s1 h1=>aN h1 λnF s2 h2=>?_);obtain⟨it,fp,tn,J,H2,e,I2,T,fJ,f2,q⟩:=h2;subst e;refine N0 (RR:=λacc C=>compPost (model X.prog X.w) X.A X.xe none (EP X pins σ Q) acc C) hc ck hl I2 T fJ f2 q ?_;intro D C H' s' m IX hn hC c1 c2 c3 c4 qq;exact⟨m,hn,λh' i8=>⟨.ref D,H',IX.turned (t':=s'.toks) (λb o hb e=>i8.extBut b o hb e) hC (CG<|CG c1) (.inr c2) c3 c4,rfl,qq⟩⟩
def XM(i:Nat){y:Str}{py uk:Pos}(sc:Scope)(N N':Ò)(n:Nat)(mr:X.N.Nodup)(hi:PI X tg iter wi)
  (h:wi σ H λJ H1=>∀ A,H1 A=none->l9 X N' scope tg ifs elt J A (λH'=>Run X rest D (σ.set i<|some<|.ref A) H') (σ++List.replicate n none) (upd H1 A<|.lst []))
  (XN:X.N[i]?=some y:=by rfl) (hy:Loc X.env.scope y:=by first | exact Or.inl rfl | exact Or.inr rfl)
  (XQ:swapsWith (.ListComp elt [⟨tg,iter,ifs,0⟩] scope pos) (some<|.Name y py) uk.line X.env=pure true:=by rfl)
  (hc:X.calm=true:=by rfl) (i7:X.env.scope=sc:=by rfl) (hN:X.N=N:=by rfl) (hk:me sc scope N N'=true:=by decide +kernel) (hl:N'.length=N.length+n:=by rfl)
  (hs:∀ x,foldedSetIterable iter X.env x=pure x:=by intro _;rfl) (hf:X.fn y=true\/X.env.scope.names.lookup y=some .local:=by first | exact .inl rfl | exact .inr rfl | assumption) :
  Run X (.Assign [.Name y py] (.ListComp elt [⟨tg,iter,ifs,0⟩] scope pos) uk :: rest) D σ H:=by
 refine ju (t:=λD' σ H=>wi σ H λJ H1=>∀ A,H1 A=none->l9 X N' scope tg ifs elt J A (λH'=>D'.nx (σ.set i<|some<|.ref A) H') (σ++List.replicate n none) (upd H1 A<|.lst [])) ?_ h;intro pins s σ H D I h;subst i7 hN;have ck:=cg.of hk;rw[exec_Assign_Name_used _ _ _ _ XQ];refine BJ<|FW<|BJ ?_;show wpAny _ X.A (do let _ <- comprehension (.ListComp elt [⟨tg,iter,ifs,0⟩] scope pos) scope X.env _ (newList []) false (eval iter X.env)<|some<|assign (.Name y py) X.env) _ _ s;refine BJ<|CP (KD (use:=some<|assign (.Name y py) X.env) (Q:=λ_ s'=>SP X pins D .next s') rfl hs (B8 λx hx hf=>I.ok.has x.1<|ck.free x hx hf) ck.kind ck.names
  (aN (hi pins s σ H _ I h) λv s1 h1=>aN h1 λnF s2 h2=>?_)) (λ_ s' hq=>BK<|BK hq) λ_ _ e=>e
 obtain⟨it,fp,tn,J,H2,e,I2,T,fJ,f2,q⟩:=h2;subst e;refine N0 (Q:=λx H1=>D.nx (σ.set i<|some x) H1) (RR:=λacc C=>compPost (model X.prog X.w) X.A X.xe (some<|assign (.Name y py) X.env) (λ_ s'=>SP X pins D .next s') acc C) hc ck hl I2 T fJ f2 q ?_;intro D' C H' s' m IX hn hC c1 c2 c3 c4 qq;show wpAny _ X.A (assign (.Name y py) X.env<|.ref D') _ _ _;refine wpAny_assign_Name<|Mi IX mr XN hy (v:= .ref D') rfl (λo8 XR DC=>?_) hf;obtain⟨a,DC,ha⟩:=DC;have XS:C≠a:=by
  rcases ha with ha | ha
  ·rw[ha];exact c1
  ·exact CG<|c3 _ _ ha
 refine⟨m,hn.sameBut DC XS,λh' i8=>⟨_,H',XR.turned (t':=o8.toks) (λb o hb e=>i8.extBut b o hb e) hC c1 (.inr c2) c3 c4,qq⟩⟩
end
structure aQ(P:Program)(w:World)(K:PySem.W.Frag)(mg:Ó)(base:Heap)(k:Nat)(x:Str)(ps:Ò)(sp:Sp):Prop where
 ex:∃ f fd,aG P w K mg base bH k f fd ps sp/\Binds K fd ps []/\PySem.W.keepIn K (.ref f)=true/\mg x=some (.ref f)
def aQ.mono{P:Program}{w:World}{K:PySem.W.Frag}{mg:Ó}{base:Heap}{j k:Nat}{x:Str}{ps:Ò}{sp:Sp}(h:aQ P w K mg base j x ps sp)(le:j<=k):aQ P w K mg base k x ps sp:=
 let ⟨f,fd,F,r⟩:=h.ex;⟨f,fd,F.mono le,r⟩
def bj{X:Cx}{k:Nat}{ps:Ò}{sp:Sp}{x:Str}{e:Expr}{es:Õ}{σ:St}{H:Hp}{Q:VK}{p pos:Pos}(G:aQ X.prog X.w X.K X.mg X.base k x ps sp)(hr:bo k X.A)
  (h:Ea X (e :: es) σ H λvs H1=>sp vs H1 Q E0) (hg:Gl X x:=by rfl) (cw:(x == ("__debug__" : Str))=false:=by decide) (hs:noStar (e :: es)=true:=by rfl):Ev X (.Call (.Name x p) (e :: es) [] pos) σ H Q:=
 let ⟨_,_,F,b,kp,m⟩:=G.ex;Ny F hr m kp b jR h hg cw hs
def _root_.L2.bo.hU{k:Nat}{A:Around}(hr:bo k A):A.units+100 < cLine:=by have:=hr.un;omega
def _root_.L2.bo.u1{k:Nat}{A:Around}(hr:bo k A):A.units+1 < cLine:=by have:=hr.un;omega
def Df(K:PySem.W.Frag)(x:Str)(st:Stmt):Prop:=∃(f:Addr) (fd:FuncData),PySem.W.nsIn K mainGlobals x=some (some<|.ref f)/\bE K x x st f fd
def ul{K:PySem.W.Frag}{x:Str}{st:Stmt}{f:Addr}{oc kV doc pm bJ ct:Value}{od an:Option Addr}{sl:Array (Option Value)}(a:PySem.W.nsIn K mainGlobals x=some (some<|.ref f))
  (l:K.lookup f=some ⟨oc,od,.func<|PySem.W.fnOf x x (nH st) (iX st) (aU st) .none kV doc pm an bJ ct,sl⟩) (c:PySem.W.codeIn K bJ x=true) (k:PySem.W.keepIn K (.ref f)=true):Df K x st:=⟨f,_,a,WU l c k⟩
structure rH where
 f:Addr
 bJ:Value
 A:Around
 outer:List Env
 s:Shared
 H:Hp
 E:XK
def N2(N:Ò)(qual:Str)(scope:Scope)(P:Program)(w:World)(K:PySem.W.Frag)(mg:Ó)(base:Heap)(b:rH):Cx:=(c8 bH P w K mg base N qual scope b.f b.bJ b.A b.outer b.s b.H b.E).rj
def En(Q:VK):Ends:={nx:=λ_ H'=>Q .non H',rt:=Q}
def bE.gb{P:Program}{w:World}{K:PySem.W.Frag}{mg:Ó}{base:Heap}{x qual:Str}{st:Stmt}{f:Addr}{fd:FuncData}{N ps:Ò}{k:Nat}{sp:Sp}(F:bE K x qual st f fd)(S:ak N ps<|aU st)(len:∀ vs H Q E,sp vs H Q E->vs.length=ps.length)
  (cP:∀(b:rH) (H:Hp) (vs:List V) (Q:VK) (E:XK),bo k (b.A.deeper<|envOfC qual (aU st) b.s.heap.objs.size b.f b.bJ)->sp vs H Q E->Run (N2 N qual (aU st) P w K mg base b) (iX st) (En Q) (start N vs) H):aG P w K mg base bH (k+1) f fd ps sp:=
 F.go S len λbJ A outer s H vs Q E hr dD=>cP ⟨f,bJ,A,outer,s,H,E⟩ H vs Q E hr dD
theorem kX{us:Ô}{k:Nat}(h:us.length=k+1):∃ a r,us=a :: r/\r.length=k:=by
 cases us with
 | nil=>cases h
 | cons a r=>exact⟨a,r,rfl,Nat.succ.inj h⟩
def ja{fd:FuncData}{ps:Ò}(f:∀ a:Value,bindArgs fd ⟨[a],[]⟩=pure (ps.zip [a])):∀ us:Ô,us.length=1->bindArgs fd ⟨us,[]⟩=pure (ps.zip us):=λus h=>by
 obtain⟨a,r0,e0,h0⟩:=kX h;have z:=Bj.mp h0;subst z e0;exact f a
def gj{fd:FuncData}{ps:Ò}(f:∀ a b:Value,bindArgs fd ⟨[a,b],[]⟩=pure (ps.zip [a,b])):∀ us:Ô,us.length=2->bindArgs fd ⟨us,[]⟩=pure (ps.zip us):=λus h=>by
 obtain⟨a,r0,e0,h0⟩:=kX h;obtain⟨b,r1,e1,h1⟩:=kX h0;have z:=Bj.mp h1;subst z e1 e0;exact f a b
def rJ{fd:FuncData}{ps:Ò}(f:∀ a b c:Value,bindArgs fd ⟨[a,b,c],[]⟩=pure (ps.zip [a,b,c])):∀ us:Ô,us.length=3->bindArgs fd ⟨us,[]⟩=pure (ps.zip us):=λus h=>by
 obtain⟨a,r0,e0,h0⟩:=kX h;obtain⟨b,r1,e1,h1⟩:=kX h0;obtain⟨c,r2,e2,h2⟩:=kX h1;have z:=Bj.mp h2;subst z e2 e1 e0;exact f a b c
def N3{fd:FuncData}{ps:Ò}(f:∀ a b c d:Value,bindArgs fd ⟨[a,b,c,d],[]⟩=pure (ps.zip [a,b,c,d])):∀ us:Ô,us.length=4->bindArgs fd ⟨us,[]⟩=pure (ps.zip us):=λus h=>by
 obtain⟨a,r0,e0,h0⟩:=kX h;obtain⟨b,r1,e1,h1⟩:=kX h0;obtain⟨c,r2,e2,h2⟩:=kX h1;obtain⟨d,r3,e3,h3⟩:=kX h2;have z:=Bj.mp h3;subst z e3 e2 e1 e0;exact f a b c d
def Df.has{P:Program}{w:World}{K:PySem.W.Frag}{mg:Ó}{h base:Heap}{k:Nat}{x:Str}{st:Stmt}{ps:Ò}{sp:Sp}(d:Df K x st)(X:K.In h)(G:h.Ns mainGlobals mg)
  (hb:∀(kV doc pm:Value) (an:Option Addr) (bJ ct:Value) (us:Ô),us.length=ps.length->bindArgs (PySem.W.fnOf x x (nH st) (iX st) (aU st) .none kV doc pm an bJ ct) ⟨us,[]⟩=pure (ps.zip us))
  (ok:∀{f:Addr} {fd:FuncData},bE K x x st f fd->aG P w K mg base bH k f fd ps sp):aQ P w K mg base k x ps sp:=
 let ⟨f,fd,a,F⟩:=d;⟨f,fd,ok F,F.binds hb,F.kp,LQ X G a⟩
def Df.law{P:Program}{w:World}{K:PySem.W.Frag}{mg:Ó}{h:Heap}{k:Nat}{x y:Str}{st:Stmt}{sp:Sp}{fa:Addr}(d:Df K x st)(X:K.In h)(G:h.Ns mainGlobals mg)(DE:mg x=some (.ref fa))
  (hb:∀(kV doc pm:Value) (an:Option Addr) (bJ ct:Value) (s:Shared) (v:Value),BindsTo s (PySem.W.fnOf x x (nH st) (iX st) (aU st) .none kV doc pm an bJ ct) ⟨[v],[]⟩ [(y,v)])
  (ok:∀(base:Heap) {f:Addr} {fd:FuncData},bE K x x st f fd->aG P w K mg base bH k f fd [y] sp) :
  ∃ fd:FuncData,(∀(s:Shared) (v:Value),BindsTo s fd ⟨[v],[]⟩ [(y,v)])/\∀ base:Heap,K.In base->base.Ns mainGlobals mg->aG P w K mg base bH k fa fd [y] sp:=by
 obtain⟨f,fd,a,F⟩:=d;have e:=DE.symm.trans<|LQ X G a;cases e;obtain⟨oc,od,kV,doc,pm,an,bJ,ct,jO,rfl,lk,iw⟩:=id F.ex;exact⟨_,hb kV doc pm an bJ ct,λbase _ _=>ok base F⟩
end L2
namespace bF
open PySem
def rK(m i:Nat):Nat:=(i * 5+1) % m
def gk(m:Nat):Nat->Nat->List Nat
 | 0,_=>[]
 | n+1,i=>i :: gk m n (rK m i)
def mv(m:Nat):Nat->Nat->Nat
 | 0,i=>i
 | n+1,i=>mv m n<|rK m i
theorem xY(m:Nat):∀ a b i,mv m (a+b) i=mv m b (mv m a i)
 | 0,b,i=>by rw[Ey];rfl
 | a+1,b,i=>by
  rw[show a+1+b=(a+b)+1 by omega];exact xY m a b<|rK m i
theorem DF(m:Nat):∀ n t i,t < n->mv m t i∈gk m n i
 | 0,_,_,h=>by omega
 | n+1,0,i,_=>Ae
 | n+1,t+1,i,h=>Ah _<|DF m n t (rK m i)<|by omega
theorem DH(m:Nat):∀ n i j,j∈gk m n i->∃ t,t < n/\mv m t i=j
 | 0,_,_,h=>by cases h
 | n+1,i,j,h=>by
  rcases Aj.mp h with rfl | h
  ·exact⟨0,Ga _,rfl⟩
  ·obtain⟨t,ht,e⟩:=DH m n (rK m i) j h;exact⟨t+1,Nat.succ_lt_succ ht,e⟩
def covers(m:Nat):Bool:=mv m m 0 == 0 && (List.range m).all λj=>(gk m m 0).contains j
def XT:covers 8=true:=by decide +kernel
def XU:covers 16=true:=by decide +kernel
def XW:covers 32=true:=by decide +kernel
def XX:covers 64=true:=by decide +kernel
def XY:covers 128=true:=by decide +kernel
def XZ:covers 512=true:=by decide +kernel
def Pow(m:Nat):Prop:=m=8\/m=16\/m=32\/m=64\/m=128\/m=512
def Pow.covers{m:Nat}(h:Pow m):bF.covers m=true:=by
 rcases h with rfl | rfl | rfl | rfl | rfl | rfl
 ·exact XT
 ·exact XU
 ·exact XW
 ·exact XX
 ·exact XY
 ·exact XZ
def Pow.pos{m:Nat}(h:Pow m):8<=m/\m<=512:=by rcases h with rfl | rfl | rfl | rfl | rfl | rfl <;> decide
def Pow.mem{m i j:Nat}(h:Pow m)(hi:i < m)(hj:j < m):j∈gk m m i:=by
 have q:=h.covers;unfold bF.covers at q;rw[Bn,Dw,HJ]at q;obtain⟨z,q⟩:=q;obtain⟨a,ha,ea⟩:=DH m m 0 i<|Ce.mp<|q i<|Bt.mpr hi;obtain⟨b,hb,eb⟩:=DH m m 0 j<|Ce.mp<|q j<|Bt.mpr hj
 rcases Di b a with c | c
 ·have e:mv m (b+m - a) i=j:=by
   rw[<- ea,<- xY,show a+(b+m - a)=m+b by omega,xY,z,eb]
  rw[<- e];exact DF m m _ i<|by omega
 ·have e:mv m (b - a) i=j:=by
   rw[<- ea,<- xY,show a+(b - a)=b by omega,eb]
  rw[<- e];exact DF m m _ i<|by omega
def rL(mask:Nat):Nat->Nat->Nat->List Nat
 | 0,_,_=>[]
 | n+1,i,p=>i :: rL mask n (SetTable.leap mask i p).1 (SetTable.leap mask i p).2
theorem N4(mask:Nat):∀ n i,rL mask n i 0=gk (mask+1) n i
 | 0,_=>rfl
 | n+1,i=>by
  show i :: rL mask n ((i * 5+1+0 / 32) % (mask+1)) (0 / 32)=i :: gk (mask+1) n (rK (mask+1) i);rw[show(0 / 32:Nat)=0 by decide,UW,N4 mask n];rfl
def X0{mask i p:Nat}:(SetTable.leap mask i p).1 < mask+1:=Gw _<|Ga _
theorem N5{mask:Nat}:∀(t n i p:Nat),i < mask+1->p < 32 ^ t->∃ i',i' < mask+1/\∀ j∈gk (mask+1) n i',j∈rL mask (t+n) i p
 | 0,n,i,p,hi,hp=>by
  have e:p=0:=by simpa using hp
  subst e;refine⟨i,hi,λj hj=>?_⟩;rw[Ey,N4];exact hj
 | t+1,n,i,p,hi,hp=>by
  have h2:p / 32 < 32 ^ t:=by
   rw[Nat.div_lt_iff_lt_mul<|by decide];rw[Nat.pow_succ]at hp;exact hp
  obtain⟨i',h',q⟩:=N5 t n (SetTable.leap mask i p).1 (p / 32) X0 h2;refine⟨i',h',λj hj=>?_⟩;rw[show t+1+n=(t+n)+1 by omega];exact Ah _<|q j hj
def X1{mask i p j:Nat}(hm:Pow<|mask+1)(hi:i < mask+1)(hp:p < 2 ^ 64)(hj:j < mask+1):j∈rL mask (mask+15) i p:=by
 obtain⟨i',h',q⟩:=N5 (mask:=mask) 14 (mask+1) i p hi (Be hp<|by decide);have:=q j<|hm.mem h' hj;rwa[show 14+(mask+1)=mask+15 by omega]at this
abbrev gl:=Array<|Option Nat
def nil?(owner:gl)(j:Nat):Bool:=(owner.getD j<|some 0).isNone
def X2(mask i:Nat):i<=SetTable.runEnd mask i:=by unfold SetTable.runEnd;split <;> omega
theorem N6{mask:Nat}{owner:gl}:∀{fuel i p:Nat},SetTable.layClean.free mask owner fuel i p=none->∀ j∈rL mask fuel i p,nil? owner j=false
 | 0,_,_,_,j,hj=>by cases hj
 | fuel+1,i,p,h,j,hj=>by
  unfold SetTable.layClean.free at h
  split at h
  ·cases h
  ·rename_i hf
   rcases Aj.mp hj with rfl | hj
   ·have:=Fu.mp hf 0 (Bt.mpr<|by have:=X2 mask j;omega);rw[UW]at this;exact Dy.mpr this
   ·exact N6 (fuel:=fuel) h j hj
theorem N7{mask:Nat}{owner:gl}:∀{fuel i p j:Nat},SetTable.layClean.free mask owner fuel i p=some j->nil? owner j=true
 | 0,_,_,_,h=>by cases h
 | fuel+1,i,p,j,h=>by
  unfold SetTable.layClean.free at h
  split at h
  ·rename_i k hf;cases h;have:=Gr hf;exact this
  ·exact N7 (fuel:=fuel) h
theorem nil?_iff{owner:gl}{j:Nat}:nil? owner j=true↔owner[j]?=some none:=by
 unfold nil?;rw[Dr];cases h:owner[j]? with
 | none=>simp
 | some v=>cases v <;> simp
structure Lies(m:Nat)(owner:gl)(k:Nat):Prop where
 size:owner.size=m
 lt:∀(j v:Nat),owner[j]?=some (some v)->v < k
 has:∀ v:Nat,v < k->∃ j:Nat,owner[j]?=some (some v)
 inj:∀(i j v:Nat),owner[i]?=some (some v)->owner[j]?=some (some v)->i=j
def Lies.start(m:Nat):Lies m (Array.replicate m none) 0 where
 size:=by simp
 lt:=λj v h=>by
  rw[RK]at h
  split at h <;> cases h
 has:=λv h=>by omega
 inj:=λi j v h=>by
  rw[RK]at h
  split at h <;> cases h
def Lies.put{m k j:Nat}{owner:gl}(L:Lies m owner k)(hj:owner[j]?=some none):Lies m (owner.setIfInBounds j<|some k) (k+1):=by
 have aY:j < owner.size:=by
  rcases Di j owner.size with h | h
  ·exact h
  ·rw[Ee h]at hj;cases hj
 have at':∀ i:Nat,(owner.setIfInBounds j<|some k)[i]?=if j=i then some (some k)else owner[i]?:=by
  intro i;rw[Array.getElem?_setIfInBounds]
  split
  ·rename_i e;subst e;first | rfl | rw[BP aY]
  ·rfl
 refine⟨by rw[Array.size_setIfInBounds];exact L.size,λi v h=>?_,λv h=>?_,λa b v ha hb=>?_⟩
 ·rw[at']at h
  split at h
  ·cases h;exact Gg _
  ·exact Cb<|L.lt i v h
 ·rcases Nat.lt_succ_iff_lt_or_eq.mp h with h | rfl
  ·obtain⟨i,hi⟩:=L.has v h;refine⟨i,?_⟩;rw[at',BL λe=>by subst e;rw[hj]at hi;cases hi];exact hi
  ·exact⟨j,by rw[at',BP rfl]⟩
 ·rw[at']at ha hb
  split at ha
  ·rename_i e;cases ha
   split at hb
   ·rename_i e2;exact e.symm.trans e2
   ·have:=L.lt b k hb;omega
  ·split at hb
   ·cases hb;have:=L.lt a k ha;omega
   ·exact L.inj a b v ha hb
def live(m:Nat)(owner:gl):List (Nat×Nat):=(List.range m).filterMap λj=>(owner.getD j none).map (j,·)
theorem getD_some{owner:gl}{j v:Nat}:owner.getD j none=some v↔owner[j]?=some (some v):=by
 rw[Dr];cases h:owner[j]? with
 | none=>simp
 | some x=>simp
def gm{m:Nat}{owner:gl}{p:Nat×Nat}:p∈live m owner↔p.1 < m/\owner[p.1]?=some (some p.2):=by
 unfold live;rw[Ft]
 constructor
 ·rintro ⟨j,hj,e⟩;cases hv:owner.getD j none with
  | none=>rw[hv]at e;cases e
  | some v=>
   rw[hv]at e;cases e;exact⟨Bt.mp hj,getD_some.mp hv⟩
 ·rintro ⟨h1,h2⟩;exact⟨p.1,Bt.mpr h1,by rw[getD_some.mpr h2];rfl⟩
def Lies.nodup{m k:Nat}{owner:gl}(L:Lies m owner k):((live m owner).map (·.2)).Nodup:=by
 have q:∀ l:List Nat,l.Nodup->((l.filterMap λj=>(owner.getD j none).map (j,·)).map (·.2)).Nodup:=by
  intro l
  induction l with
  | nil=>intro _;exact Ch
  | cons a r ih=>
   intro hn;rw[Bc]at hn;rw[Ec];cases hv:owner.getD a none with
   | none=>exact ih hn.2
   | some v=>
    show(v :: (r.filterMap λj=>(owner.getD j none).map (j,·)).map (·.2)).Nodup;rw[Bc];refine⟨λh=>?_,ih hn.2⟩;obtain⟨p,hp,e⟩:=Al.mp h;obtain⟨j,hj,e2⟩:=Ft.mp hp;cases hw:owner.getD j none with
    | none=>rw[hw]at e2;cases e2
    | some u=>
     rw[hw]at e2;cases e2;have e3:u=v:=e;subst e3;have:=L.inj a j u (getD_some.mp hv)<|getD_some.mp hw;subst this;exact hn.1 hj
 exact q _ RL
def Lies.perm{m k:Nat}{owner:gl}(L:Lies m owner k):((live m owner).map (·.2)).Perm (List.range k):=by
 rw[QS L.nodup RL];intro v;rw[Bt,Al]
 constructor
 ·rintro ⟨p,hp,rfl⟩;exact L.lt _ _ (gm.mp hp).2
 ·intro h;obtain⟨j,hj⟩:=L.has v h;have aY:j < m:=by
   rw[<- L.size]
   rcases Di j owner.size with h | h
   ·exact h
   ·rw[Ee h]at hj;cases hj
  exact⟨(j,v),gm.mpr ⟨aY,hj⟩,rfl⟩
def Lies.length{m k:Nat}{owner:gl}(L:Lies m owner k):(live m owner).length=k:=by
 have:=L.perm.length_eq;rwa[Aa,Em]at this
def Lies.room{m k:Nat}{owner:gl}(L:Lies m owner k)(h:k < m):∃ j,j < m/\nil? owner j=true:=by
 refine DK λhn=>?_;have all:∀ j,j < m->∃ v,owner.getD j none=some v:=by
  intro j hj;have hs:j < owner.size:=by rw[L.size];exact hj
  cases hv:owner[j] with
  | none=>exact absurd ⟨j,hj,nil?_iff.mpr<|by rw[Dj hs,hv]⟩ hn
  | some v=>exact⟨v,getD_some.mpr<|by rw[Dj hs,hv]⟩
 have len:∀ l:List Nat,(∀ j∈l,j < m)->(l.filterMap λj=>(owner.getD j none).map (j,·)).length=l.length:=by
  intro l
  induction l with
  | nil=>intro _;rfl
  | cons a r ih=>
   intro hl;obtain⟨v,hv⟩:=all a<|hl a Ae;rw[Ec,hv];show(_ :: _).length=_;rw[Ap,Ap,ih λj hj=>hl j<|Ah _ hj]
 have e:=len (List.range m) λj hj=>Bt.mp hj;have e2:=L.length;unfold live at e2;rw[e,Em]at e2;omega
def X3(h:Int):SetTable.bits h < 2 ^ 64:=by
 unfold SetTable.bits;have h1:0<=h % (2 ^ 64:Int):=Bp _ (by decide);have h2:h % (2 ^ 64:Int) < 2 ^ 64:=Bv _ (by decide);omega
theorem Lies.free{mask k:Nat}{owner:gl}(L:Lies (mask+1) owner k)(hm:Pow<|mask+1)(h:k < mask+1)(x:Int) :
  ∃ j,SetTable.layClean.free mask owner (SetTable.turns mask) (SetTable.bits x % (mask+1)) (SetTable.bits x)=some j/\owner[j]?=some none:=by
 cases e:SetTable.layClean.free mask owner (SetTable.turns mask) (SetTable.bits x % (mask+1)) (SetTable.bits x) with
 | some j=>exact⟨j,rfl,nil?_iff.mp<|N7 e⟩
 | none=>
  obtain⟨j,hj,q⟩:=L.room h;have:=N6 e j<|X1 hm (Gw _<|Ga _) (X3 x) hj;rw[q]at this;cases this
def xZ(mask:Nat)(acc:Option<|gl×Nat)(h:Int):Option (gl×Nat):=do
 let (owner,k) <- acc
 let j <- SetTable.layClean.free mask owner (SetTable.turns mask) (SetTable.bits h % (mask+1))<|SetTable.bits h
 pure (owner.setIfInBounds j<|some k,k+1)
theorem N8{mask:Nat}(hm:Pow<|mask+1):∀(hs:List Int) (owner:gl) (k:Nat),Lies (mask+1) owner k->k+hs.length < mask+1+1 ->
  ∃ jX,hs.foldl (xZ mask) (some (owner,k))=some (jX,k+hs.length)/\Lies (mask+1) jX (k+hs.length)
 | [],owner,k,L,_=>⟨owner,rfl,L⟩
 | h :: r,owner,k,L,hk=>by
  rw[Ap]at hk ⊢;obtain⟨j,e,hj⟩:=L.free hm (by omega) h;obtain⟨o',e',L'⟩:=N8 hm r _ (k+1) (L.put hj) (by omega);refine⟨o',?_,?_⟩
  ·rw[Dg,show xZ mask (some (owner,k)) h=some (owner.setIfInBounds j<|some k,k+1) by unfold xZ;simp[e],e']
   congr 2
   omega
  ·rw[show k+(r.length+1)=k+1+r.length by omega];exact L'
def X4{mask:Nat}(hm:Pow<|mask+1)(hs:Array Int)(hl:hs.size < mask+1+1):∃ owner,SetTable.layClean mask hs=some owner/\Lies (mask+1) owner hs.size:=by
 obtain⟨o',e,L⟩:=N8 hm hs.toList _ 0 (Lies.start<|mask+1) (by simpa using hl);refine⟨o',?_,by simpa using L⟩;have e2:SetTable.layClean mask hs=(hs.foldl (xZ mask)<|some (Array.replicate (mask+1) none,0)).map (·.1):=rfl;rw[e2,<- Array.foldl_toList,e];rfl
def N9{mask finger moves:Nat}{led plain:Bool}(hm:Pow<|mask+1)(hs:Array Int)(hl:hs.size<=mask) :
  ∃ t order,SetTable.laid mask finger moves led plain hs=some (t,order)/\order.toList.Perm (List.range hs.size)/\t.fits hs.size=true/\t.led=led/\t.plain=plain/\t.mask=mask/\t.dummies=#[]/\t.place.size=hs.size:=by
 obtain⟨o,e,L⟩:=X4 hm hs (by omega);have hp:((live (mask+1) o).map (·.1)).toArray.size=hs.size:=by
  rw[Aw,Aa,L.length]
 refine⟨_,_,by unfold SetTable.laid;rw[e];rfl,?_,?_,rfl,rfl,rfl,rfl,hp⟩
 ·show((live (mask+1) o).map (·.2)).Perm _;exact L.perm
 ·unfold SetTable.fits SetTable.fill;show(((live (mask+1) o).map (·.1)).toArray.size == hs.size && decide (((live (mask+1) o).map (·.1)).toArray.size+0<=mask))=true;rw[hp];simp only[MF,Gy,UW,DW];exact hl
def cH(w:World):Bool:=w.params.followText "set-order"
def keyOf(e:Int×Value):Str:=match e.2 with
 | .str x _=>x
 | _=>⟨#[]⟩
section
variable(prog:Program)(w:World)
def nQ(e:Int×Value):Prop:=∃ z t,e=((strKind prog w).hash z,Value.str z t)
structure Tab(es:Array<|Int×Value)(t:SetTable)(zs:Ò):Prop where
 elts:∀ e∈es.toList,nQ prog w e
 keys:(es.toList.map keyOf).Perm zs
 nodup:zs.Nodup
 few:zs.length < 1000
 fits:t.fits es.size=true
 led:t.led = !cH w
 plain:es=#[]\/t.plain=false
def az(h:Heap)(a:Addr)(zs:Ò):Prop:=∃ o es ep t,h.get? a=some o/\o.ExactSet/\o.data = .set es ep t/\Tab prog w es t zs
end
section
variable{prog:Program}{w:World}{es:Array (Int×Value)}{t:SetTable}{zs:Ò}{h h':Heap}{a:Addr}
def Tab.elems(T:Tab prog w es t zs):ElemsOf (strKind prog w) es.toList:=λe he=>by
 obtain⟨z,u,rfl⟩:=T.elts e he;exact⟨⟨z,PB _ _ _ _,rfl⟩,rfl⟩
def Tab.size(T:Tab prog w es t zs):es.size=zs.length:=by
 have:=T.keys.length_eq;rw[Aa,Bq]at this;exact this
def Tab.ft(T:Tab prog w es t zs):es.size < 1000:=by rw[T.size];exact T.few
def Tab.scan(T:Tab prog w es t zs):es.size < scanBound:=by have:=T.ft;unfold scanBound;omega
def Tab.perm{fm:Array (Int×Value)}{t':SetTable}(T:Tab prog w es t zs)(p:fm.toList.Perm es.toList)(hf:t'.fits fm.size=true)(hl:t'.led=t.led)(hp:fm=#[]\/t'.plain=false):Tab prog w fm t' zs:=
 ⟨λe he=>T.elts e<|p.mem_iff.mp he,(p.map keyOf).trans T.keys,T.nodup,T.few,hf,hl.trans T.led,hp⟩
def az.keep(S:az prog w h a zs)(k:∀ o,h.get? a=some o->h'.get? a=some o):az prog w h' a zs:=let ⟨o,es,ep,t,h1,h2⟩:=S;⟨o,es,ep,t,k o h1,h2⟩
def az.typeIs{s:Shared}(S:az prog w s.heap a zs):s.TypeIs (.ref a) "set":=let ⟨o,_,_,_,h1,h2,_⟩:=S;⟨o,h1,h2.1⟩
def az.lt(S:az prog w h a zs):a < h.objs.size:=let ⟨_,_,_,_,h1,_⟩:=S;Aq h1
def az.few(S:az prog w h a zs):zs.length < 1000:=let ⟨_,_,_,_,_,_,_,T⟩:=S;T.few
def az.nodup(S:az prog w h a zs):zs.Nodup:=let ⟨_,_,_,_,_,_,_,T⟩:=S;T.nodup
def pv{o:Obj}{ep:Nat}{fm:Array (Int×Value)}{t':SetTable}{iC:Ò}(ho:h.get? a=some o)(hx:o.ExactSet)(hd:o.data = .set es ep t)(T':Tab prog w fm t' iC) :
  (h.update a<|Obj.putSet fm t').get? a=some {o with data:= .set fm (ep+1) t'}/\az prog w (h.update a<|Obj.putSet fm t') a iC:=by
 have q:=Cu (Obj.putSet fm t') ho (by rw[putSet_of fm t' hd];rfl);rw[putSet_of fm t' hd]at q;exact⟨q,_,fm,ep+1,t',q,hx,rfl,T'⟩
def DI{e:Int×Value}(he:nQ prog w e)(z:Str):(strKind prog w).is z e.2=decide (z=keyOf e):=by
 obtain⟨y,u,rfl⟩:=he;exact KeyKind.is_eq_decide (PB prog w y u) z
def find_none(T:Tab prog w es t zs){z:Str}(hz:z∉zs):es.toList.findIdx? (λe=>(strKind prog w).is z e.2)=none:=by
 rw[List.findIdx?_eq_none_iff];intro e he;rw[DI<|T.elts e he,GZ];rintro rfl;exact hz<|T.keys.mem_iff.mp<|List.mem_map_of_mem he
theorem find_some(T:Tab prog w es t zs){z:Str}(hz:z∈zs):∃ j,∃ hj:j < es.toList.length,es.toList.findIdx? (λe=>(strKind prog w).is z e.2)=some j/\keyOf es.toList[j]=z:=by
 obtain⟨e,he,e2⟩:=Al.mp<|T.keys.mem_iff.mpr hz;cases q:es.toList.findIdx? (λe=>(strKind prog w).is z e.2) with
 | none=>
  have:=List.findIdx?_eq_none_iff.mp q e he;rw[DI<|T.elts e he,GZ]at this;exact absurd e2.symm this
 | some j=>
  obtain⟨hj,p,_⟩:=List.findIdx?_eq_some_iff_getElem.mp q;rw[DI<|T.elts _<|Bu hj,DW]at p;exact⟨j,hj,rfl,p.symm⟩
def X5(t:SetTable)(n:Nat):(t.orStandIn n).led=t.led/\((t.orStandIn n).plain=true->t.plain=true):=by
 unfold SetTable.orStandIn
 split
 ·exact⟨rfl,id⟩
 ·exact⟨rfl,λh=>by cases h⟩
def X6(t:SetTable)(es:Array<|Int×Value)(x:Int)(v:Value):(layNew t es x v).2.1.led=t.led:=by
 unfold layNew
 split
 ·exact(X5 _ _).1
 ·rfl
theorem X7{mask f m:Nat}{l p:Bool}{hs:Array Int}{t':SetTable}{o:Array Nat}(e:SetTable.laid mask f m l p hs=some (t',o)):t'.led=l/\t'.plain=p:=by
 unfold SetTable.laid at e;cases c:SetTable.layClean mask hs with
 | none=>rw[c]at e;cases e
 | some ow=>rw[c]at e;cases e;exact⟨rfl,rfl⟩
def Oa(t:SetTable)(es:Array<|Int×Value)(n:Nat)(hp:t.plain=false):(relayAll t es n).2.1.led=t.led/\(relayAll t es n).2.1.plain=false:=by
 unfold relayAll
 split
 ·rename_i t' o e;have q:=X7 e
  dsimp only
  split
  ·exact⟨q.1,q.2.trans hp⟩
  ·exact⟨rfl,rfl⟩
 ·exact⟨rfl,rfl⟩
end
section
variable{prog:Program}{w:World}{A:Around}{E:Ï}{s:Shared}{a:Addr}{zs:Ò}
def jY{n:Nat}(h:n < 1001):n<=sizeLine:=by rw[EY];omega
theorem Ob{g:Bool->Sem Unit}(hg:∀(b:Bool) (À:Shared) (Q':Unit->Shared->Prop),Q' () À->wpAny (model prog w) A (g b) Q' E À)
  {o:Obj} {es:Array (Int×Value)} {ep:Nat} {t:SetTable} (ho:s.heap.get? a=some o) (hx:o.ExactSet) (hd:o.data = .set es ep t)
  {fN:Array (Int×Value)} {t2:SetTable} (T:Tab prog w fN t2 zs) (hp:t2.plain=false) {c:Bool} {R:Option Bool->Shared->Prop}
  (k:∀ h',Heap.SameBut a s.heap h'->az prog w h' a zs->R (some true) {s with heap:=h'}) :
  wpAny (model prog w) A (do
   storeSet a fN t2
   if c=true then do
     g (relayAll t2 fN<|SetTable.grown fN.size).2.2
     storeSet a (relayAll t2 fN<|SetTable.grown fN.size).1 (relayAll t2 fN<|SetTable.grown fN.size).2.1
     pure (some true)
    else pure (some true)) R E s:=by
 refine BJ<|GQ ho hd ?_<|jY<|Cb T.ft;obtain⟨q1,q2⟩:=pv ho hx hd T;have sb:=CT s.heap a<|Obj.putSet fN t2;cases c with
 | false=>exact BK<|k _ sb q2
 | true=>
  have p:=relayAll_perm t2 fN<|SetTable.grown fN.size;have T3:=T.perm p (relayAll_fits t2 fN<|SetTable.grown fN.size) (Oa t2 fN _ hp).1<|.inr (Oa t2 fN _ hp).2;refine BJ<|hg _ _ _ ?_;refine BJ<|GQ q1 rfl ?_ (jY<|Cb T3.ft);exact BK<|k _ (sb.trans<|CT _ a _) (pv q1 hx rfl T3).2
def added(zs:Ò)(z:Str):Ò:=if z∈zs then zs else zs++[z]
def DJ{z:Str}{tk:Tok}{Q:Bool->Shared->Prop}(S:az prog w s.heap a zs)(hb:zs.length+1 < 1000)
  (k:∀(b:Bool) h',Heap.SameBut a s.heap h'->az prog w h' a (added zs z)->Q b {s with heap:=h'}) :
  wpAny (model prog w) A (setAddHashed a (.str z tk)<|(strKind prog w).hash z) Q E s:=by
 obtain⟨o,es,ep,t,ho,hx,hd,T⟩:=S;unfold setAddHashed setAddHashedIn;refine CJ<|BJ<|CN ho hd T.fits ?_
 dsimp only
 rw[byScan_of (knd:=strKind prog w) (x:= .str z tk) rfl T.scan T.elems];simp only[↓reduceIte];unfold setAddByScan;refine BJ<|BJ<|HD<|BJ<|wpAny_setScan_of (knd:=strKind prog w) (k:=z) (PB _ _ _ _) ho hd T.fits T.elems ?_
 by_cases hz:z∈zs
 ·obtain⟨j,hj,e,_⟩:=find_some T hz;rw[e]
  dsimp only
  refine BK<|BK<|k false s.heap (Heap.SameBut.refl a s.heap) ?_;unfold added;rw[BP hz];exact⟨o,es,ep,t,ho,hx,hd,T⟩
 ·rw[find_none T hz]
  dsimp only
  have gw:∀(b:Bool) (À:Shared) (Q':Unit->Shared->Prop),Q' () À->wpAny (model prog w) A (match b with | true=>rule "set.scan.the-table-gave-way" | false=>pure ()) Q' E À:=
   λb À Q' q=>by cases b <;> first | exact BK q | exact HD q
  have p:=layNew_perm t es ((strKind prog w).hash z)<|.str z tk;have f:=layNew_fits t es ((strKind prog w).hash z)<|.str z tk;have l:=X6 t es ((strKind prog w).hash z)<|.str z tk;generalize layNew t es ((strKind prog w).hash z) (.str z tk)=L at p f l ⊢;obtain⟨fN,t1,wd,gv⟩:=L
  dsimp only at p f l ⊢
  rw[Array.toList_push]at p;have tab:∀ t2:SetTable,t2.fits fN.size=true->t2.led=t1.led->t2.plain=false->Tab prog w fN t2 (zs++[z]):=λt2 h1 h2 h3=>{
   elts:=λe he=>by
    rcases Am.mp (p.mem_iff.mp he)with he | he
    ·exact T.elts e he
    ·exact⟨z,tk,Ad.mp he⟩
   keys:=by
    refine(p.map keyOf).trans ?_;rw[Ak];exact T.keys.append<|List.Perm.refl _
   nodup:=by
    rw[Cj];refine⟨T.nodup,by simp,λx hx y hy e=>?_⟩;rw[Ad]at hy;subst hy e;exact hz hx
   few:=by rw[Af];exact hb
   fits:=h1
   led:=h2.trans<|l.trans T.led
   plain:= .inr h3}
  have fin:∀ h',Heap.SameBut a s.heap h'->az prog w h' a (zs++[z])->Q true {s with heap:=h'}:=λh' q1 q2=>k true h' q1 (by unfold added;rw[BL hz];exact q2);refine BJ<|gw _ _ _ ?_
  split
  ·rename_i hp;refine BJ ?_;rw[hashByValue_scannable 8 rfl];refine BK ?_;refine Ob gw ho hx hd (tab {t1 with plain:=false} (SetTable.fits_plain_off f) rfl rfl) rfl λh' q1 q2=>?_
   dsimp only
   exact BK<|fin h' q1 q2
  ·rename_i hp;refine BJ<|BK ?_;simp only[↓reduceIte];refine Ob gw ho hx hd (tab t1 f rfl (Dy.mpr hp)) (Dy.mpr hp) λh' q1 q2=>?_
   dsimp only
   exact BK<|fin h' q1 q2
def Oc{z:Str}{tk:Tok}{Q:Option Nat->Shared->Prop}{o:Obj}{es:Array (Int×Value)}{ep:Nat}{t:SetTable}(ho:s.heap.get? a=some o)(hd:o.data = .set es ep t)(T:Tab prog w es t zs)
  (k0:z∉zs->Q none s) (k1:∀ j,(hj:j < es.toList.length)->keyOf es.toList[j]=z->Q (some j) s):wpAny (model prog w) A (setFind a (.str z tk)<|(strKind prog w).hash z) Q E s:=by
 unfold setFind setFindIn;refine BJ<|CN ho hd T.fits ?_
 dsimp only
 rw[byScan_of (knd:=strKind prog w) (x:= .str z tk) rfl T.scan T.elems];simp only[↓reduceIte];refine BJ<|HD<|BJ<|wpAny_setScan_of (knd:=strKind prog w) (k:=z) (PB _ _ _ _) ho hd T.fits T.elems ?_
 by_cases hz:z∈zs
 ·obtain⟨j,hj,e,q⟩:=find_some T hz;rw[e]
  dsimp only
  rw[Ey];exact BK<|k1 j hj q
 ·rw[find_none T hz];exact BK<|k0 hz
def x4{α:Type}(xs:Array α)(i:Nat):(SetTable.eraseAt xs i).toList=xs.toList.eraseIdx i:=by
 unfold SetTable.eraseAt;rw[Array.toList_append,Array.toList_extract,Array.toList_extract,List.eraseIdx_eq_take_drop_succ];simp[List.extract_eq_drop_take];exact Cq<|by simp
theorem bO{α:Type}:∀(l:List α) (j:Nat) (hj:j < l.length),(l[j] :: l.eraseIdx j).Perm l
 | [],_,h=>by simp at h
 | x :: r,0,_=>List.Perm.refl _
 | x :: r,j+1,h=>(List.Perm.swap x _ _).trans<|(bO r j<|Nat.lt_of_succ_lt_succ h).cons x
def X8{t:SetTable}{n i:Nat}(h:t.fits n=true)(hi:i < n):(t.drop i).fits (n - 1)=true/\(t.drop i).led=t.led/\(t.drop i).plain=t.plain:=by
 unfold SetTable.fits at h;rw[Bn,HJ,DW]at h;have rM:i < t.place.size:=by rw[h.1];exact hi
 unfold SetTable.drop;rw[Dj rM]
 dsimp only
 refine⟨?_,rfl,rfl⟩;have e1:(SetTable.eraseAt t.place i).size=n - 1:=by
  rw[<- Bq,x4,Cw,Bq,BP rM,h.1]
 have e2:∀ j,(SetTable.insertAt t.dummies (SetTable.below t.dummies j) j).size=t.dummies.size+1:=λj=>by
  have:=(SetTable.insertAt_perm t.dummies (SetTable.below t.dummies j) j).length_eq
  simpa using this
 have h2:=h.2;unfold SetTable.fill at h2;unfold SetTable.fits SetTable.fill
 dsimp only
 rw[e1,e2];simp only[MF,Gy,DW];omega
def X9{z:Str}{tk:Tok}{Q:Bool->Shared->Prop}(S:az prog w s.heap a zs)
  (k0:z∉zs->Q false s) (k1:∀ h',z∈zs->Heap.SameBut a s.heap h'->az prog w h' a (zs.erase z)->Q true {s with heap:=h'}) :
  wpAny (model prog w) A (setDiscardHashed a (.str z tk)<|(strKind prog w).hash z) Q E s:=by
 obtain⟨o,es,ep,t,ho,hx,hd,T⟩:=S;unfold setDiscardHashed;refine BJ<|Oc ho hd T (λhz=>?_) λj hj e=>?_
 ·exact BK<|k0 hz
 ·dsimp only
  have px:j < es.size:=by simpa using hj
  have hz:z∈zs:=T.keys.mem_iff.mp<|Al.mpr ⟨_,Bu hj,e⟩;obtain⟨f1,f2,f3⟩:=X8 T.fits px;have pz:(keyOf es.toList[j] :: (es.toList.eraseIdx j).map keyOf).Perm zs:=by
   refine List.Perm.trans ?_ T.keys;rw[<- Bi];exact(bO _ j hj).map keyOf
  rw[e]at pz;have T':Tab prog w (SetTable.eraseAt es j) (t.drop j) (zs.erase z):={
   elts:=λx hx=>by
    rw[x4]at hx;exact T.elts x<|Es hx
   keys:=by
    rw[x4];refine List.Perm.cons_inv (a:=z)<|pz.trans ?_;exact List.perm_cons_erase hz
   nodup:=T.nodup.erase z
   few:=QK (List.length_erase_le) T.few
   fits:=by
    have:(SetTable.eraseAt es j).size=es.size - 1:=by
     rw[<- Bq,x4,Cw,Bq,BP px]
    rw[this];exact f1
   led:=f2.trans T.led
   plain:=by
    rcases T.plain with q | q
    ·subst q;simp at px
    ·exact .inr (f3.trans q)}
  refine BJ<|CN ho hd T.fits ?_
  dsimp only
  refine BJ<|GQ ho hd ?_<|jY<|Cb T'.ft;refine BJ<|wpAny_point<|BK<|k1 _ hz (CT _ a _) (pv ho hx hd T').2
theorem Od{α:Type}(next:Nat->Nat):∀(fuel k:Nat) (left:List α) (out:Array α),left.length<=fuel->(pickOrder.go next fuel k left out).toList.Perm (out.toList++left)
 | 0,k,left,out,h=>by
  have:left=[]:=Bj.mp (by omega);subst this;unfold pickOrder.go;simp
 | fuel+1,k,left,out,h=>by
  unfold pickOrder.go;cases e:left[next k % left.length]? with
  | none=>
   have:left=[]:=by
    cases left with
    | nil=>rfl
    | cons x r=>
     have hl:next k % (x :: r).length < (x :: r).length:=Gw _ (by simp);rw[Ab hl]at e;cases e
   subst this;simp
  | some x=>
   dsimp only
   obtain⟨hl,e2⟩:=Ac.mp e;refine(Od next fuel (k+1) _ _ (by rw[Cw,BP hl];omega)).trans ?_;rw[Array.toList_push,Ar];refine MJ _ ?_;have:=bO left _ hl;rw[e2]at this;exact this
def Oe{α:Type}(next:Nat->Nat)(xs:Array α):(pickOrder next xs).toList.Perm xs.toList:=by
 have:=Od next xs.size 0 xs.toList #[] (by simp)
 simpa[pickOrder]using this
def wp_choose{src:Source}{n:Nat}{Q:Nat->Shared->Prop}(hn:n≠0)(h:∀ i d,i < n->Q i {s with drawn:=d}):wpAny (model prog w) A (choose src n) Q E s:=
 λΓ p _=>⟨hn,h _ _<|Gw _<|Nat.pos_of_ne_zero hn⟩
theorem DL{α:Type}:∀(n:Nat) (xs:List α) (s:Shared) (Q:List α->Shared->Prop),xs.length<=n->(∀ ys d,ys.Perm xs->Q ys {s with drawn:=d})->wpAny (model prog w) A (drawOrder n xs) Q E s
 | 0,xs,s,Q,h,k=>by
  have:xs=[]:=Bj.mp (by omega);subst this;unfold drawOrder;exact BK<|k [] s.drawn<|List.Perm.refl _
 | n+1,[],s,Q,h,k=>by
  unfold drawOrder;exact BK<|k [] s.drawn<|List.Perm.refl _
 | n+1,x :: r,s,Q,h,k=>by
  unfold drawOrder;refine BJ (wp_choose (by simp) λi d hi=>?_);rw[Ab hi]
  dsimp only
  refine BJ (DL n _ _ _ (by rw[Cw,BP hi];omega) λys d2 p=>?_);exact BK<|k _ d2<|(p.cons _).trans<|bO _ i hi
def wp_text{Q:Bool->Shared->Prop}(k:Q (cH w) s):wpAny (model prog w) A setsByText Q E s:=by
 unfold setsByText;exact BJ<|JR<|BK k
variable{o:Obj}{es:Array (Int×Value)}{ep:Nat}{t:SetTable}
theorem Ya{Q:Array (Int×Value)->Shared->Prop}(ho:s.heap.get? a=some o)(hd:o.data = .set es ep t)(T:Tab prog w es t zs)
  (k:∀ ws d,ws.toList.Perm es.toList->Q ws {s with drawn:=d}):wpAny (model prog w) A (setWalk a) Q E s:=by
 unfold setWalk;refine BJ<|CN ho hd T.fits ?_
 dsimp only
 refine BJ<|wp_text ?_;cases hb:cH w with
 | true=>
  simp only[DN];refine BJ<|JR ?_;exact BK<|k _ s.drawn<|Oe _ _
 | false=>
  simp only[Bb,CV];show wpAny _ _ (if(!t.plain && decide (es.size > 1))=true then _ else _) _ _ _
  split
  ·refine BJ (DL _ _ _ _ (by simp) λys d p=>?_);exact BK<|k _ d<|by simpa using p
  ·refine BJ ?_;show wpAny _ _ (if(!t.led && decide (es.size > 1))=true then _ else _) _ _ _;rw[BL<|by rw[T.led,hb];simp];exact BK<|BK<|k _ s.drawn<|List.Perm.refl _
def Yb{Q:Bool->Shared->Prop}(l:List Addr)(hl:∀ b∈l,∃ ys,az prog w s.heap b ys)(k:Q true s):wpAny (model prog w) A (setsQuiet l) Q E s:=by
 unfold setsQuiet;refine BJ<|wpAny_forIn_list _ (λrest b s'=>b.1=none/\s'=s/\∀ c∈rest,∃ ys,az prog w s.heap c ys) _ ?_ ?_ l _ ⟨rfl,rfl,hl⟩
 ·rintro x rest b s' ⟨hb,rfl,hr⟩;obtain⟨ys,o,es,ep,t,ho,hx,hd,T⟩:=hr x Ae;refine BJ<|JW ho hd T.fits ?_;refine BJ<|QL _ (λrest b o8=>b.1=none/\o8=s'/\∀ e∈rest,nQ prog w e) _ ?_ ?_ es _ ⟨rfl,rfl,T.elts⟩
  ·rintro e r2 b2 s2 ⟨jw,rfl,he⟩;obtain⟨z,u,rfl⟩:=he _ Ae;exact BK ⟨rfl,rfl,λe h=>he e<|Ah _ h⟩
  ·rintro ⟨_,_⟩ s2 ⟨rfl,rfl,_⟩;exact BK ⟨rfl,rfl,λc h=>hr c<|Ah _ h⟩
 ·rintro ⟨_,_⟩ s' ⟨rfl,rfl,_⟩;exact BK k
def Yc{f:Addr}{zf:Ò}{Q:Array (Int×Value)->Shared->Prop}(ho:s.heap.get? a=some o)(hx:o.ExactSet)(hd:o.data = .set es ep t)(T:Tab prog w es t zs)(Sf:az prog w s.heap f zf)
  (k:∀ ws h' d,ws.toList.Perm es.toList->Heap.SameBut f s.heap h'->az prog w h' f zf->Q ws {s with heap:=h',drawn:=d}):wpAny (model prog w) A (setWalkUnseen a [f]<|some f) Q E s:=by
 unfold setWalkUnseen;refine BJ<|CN ho hd T.fits ?_
 dsimp only
 refine BJ<|wp_text ?_
 split
 ·exact Ya ho hd T λws d p=>k ws s.heap d p (Heap.SameBut.refl _ _) Sf
 ·rename_i hn;have hb:cH w=false:=by
   cases e:cH w with
   | false=>rfl
   | true=>rw[e]at hn;simp at hn
  refine BJ<|Yb [a,f] (λb hb=>?_) ?_
  ·rcases Aj.mp hb with rfl | hb
   ·exact⟨zs,o,es,ep,t,ho,hx,hd,T⟩
   ·rw[Ad]at hb;subst hb;exact⟨zf,Sf⟩
  ·simp only[Dx,Bb,CV];refine BJ<|HD ?_;obtain⟨of,ef,DM,tf,DS,Yd,lT,Tf⟩:=id Sf;refine BJ<|CN DS lT Tf.fits ?_
   dsimp only
   have T2:Tab prog w ef {tf with led:=tf.led && t.led,plain:=tf.plain && t.plain} zf:=
    ⟨Tf.elts, Tf.keys, Tf.nodup, Tf.few, Tf.fits, by show (tf.led && t.led) = _; rw[Tf.led, T.led]; simp, by
     rcases Tf.plain with q | q
     ·exact .inl q
     ·exact .inr<|by show(tf.plain && t.plain)=false;rw[q];rfl⟩
   split
   ·refine BJ<|GQ DS lT ?_<|jY<|Cb Tf.ft;exact BK<|k es _ s.drawn (List.Perm.refl _) (CT _ f _) (pv DS Yd lT T2).2
   ·exact BK<|k es s.heap s.drawn (List.Perm.refl _) (Heap.SameBut.refl _ _) Sf
end
open Builtin.Frozenset
def pA(m:Nat):Bool:=m == 8 || m == 16 || m == 32 || m == 64 || m == 128
def Ye{m:Nat}(h:pA m=true):Pow m:=by
 unfold pA at h;simp only[Bool.or_eq_true,HJ]at h;unfold Pow;omega
def Yf:((List.range 64).all λn=>pA (SetTable.sizeAbove<|n * 2) && decide (n < SetTable.sizeAbove (n * 2)))=true:=by decide +kernel
def Yg{n:Nat}(h:n < 64):Pow (SetTable.sizeAbove<|n * 2)/\n < SetTable.sizeAbove (n * 2):=by
 have q:=Yf;rw[Dw]at q;have:=q n<|Bt.mpr h;rw[Bn,DW]at this;exact⟨Ye this.1,this.2⟩
def Yh{es:Array (Int×Value)}{order:Array Nat}(p:order.toList.Perm<|List.range es.size):(order.filterMap (es[·]?)).toList.Perm es.toList:=by
 rw[Array.toList_filterMap];have:=p.filterMap λi=>es[i]?;rwa[filterMap_getElem?_range]at this
section
variable{prog:Program}{w:World}{A:Around}{E:Ï}{s:Shared}{a:Addr}{zs:Ò}
structure eR(w:World)(t:SetTable):Prop where
 place:t.place=#[]
 dummies:t.dummies=#[]
 led:t.led = !cH w
 plain:t.plain=true
def eR.tab{t:SetTable}(B:eR w t):Tab prog w #[] t []:=
 ⟨λe he=>by simp at he,by simp,Ch,by decide,by unfold SetTable.fits SetTable.fill;rw[B.place,B.dummies];simp,B.led,.inl rfl⟩
def eR.fill{t:SetTable}(B:eR w t):t.fill=0:=by unfold SetTable.fill;rw[B.place,B.dummies];rfl
def Yi{Q:Ï}
  (k:∀ o,o.ExactSet->(∃ t,o.data = .set #[] 0 t/\eR w t/\t.mask=7)->o.isFreed=false->Q (.ref s.heap.objs.size) {s with heap:=s.heap.push o}):wpAny (model prog w) A (newSet<|.type "set") Q E s:=by
 unfold newSet;refine BJ<|wp_text ?_
 dsimp only
 simp only[newObj];refine BJ<|QF<|BK ?_;exact k _ ⟨rfl,rfl,rfl⟩ ⟨_,rfl,⟨rfl,rfl,rfl,rfl⟩,rfl⟩ rfl
variable{o:Obj}{ep:Nat}{t:SetTable}
def Yj{n:Nat}{Q:Unit->Shared->Prop}(ho:s.heap.get? a=some o)(hx:o.ExactSet)(hd:o.data = .set #[] ep t)(B:eR w t)(hm:t.mask=7)(hn:n < 64)
  (k:∀ h' o' nB t',Heap.SameBut a s.heap h'->h'.get? a=some o'->o'.ExactSet->o'.data = .set #[] nB t'->eR w t'->Pow (t'.mask+1)->n<=t'.mask->Q () {s with heap:=h'}) :
  wpAny (model prog w) A (setRoomFor a n) Q E s:=by
 have T:Tab prog w #[] t []:=B.tab;unfold setRoomFor;refine BJ<|CN ho hd T.fits ?_
 dsimp only
 unfold SetTable.roomFor;rw[B.fill,hm]
 by_cases c:(0+n) * 5>=7 * 3
 ·rw[BP c]
  dsimp only
  have e0:(t.place.size+n) * 2=n * 2:=by rw[B.place];simp
  rw[e0];obtain⟨hp,hl⟩:=Yg hn;unfold setRelay;refine BJ<|CN ho hd T.fits ?_
  dsimp only
  have hle:SetTable.sizeAbove (n * 2)<=512:=hp.pos.2;have h8:8<=SetTable.sizeAbove (n * 2):=hp.pos.1;rw[BL<|by rw[EY];omega];have em:SetTable.sizeAbove (n * 2) - 1+1=SetTable.sizeAbove (n * 2):=by omega
  obtain⟨t',order,e,p,f,l1,l2,l3,l4,l5⟩:=N9 (mask:=SetTable.sizeAbove (n * 2) - 1) (finger:=t.finger) (moves:=t.movedTo<|SetTable.sizeAbove (n * 2) - 1) (led:=t.led) (plain:=t.plain) (by rw[em];exact hp) (#[]:Array Int) (by simp);have er:t.relaid ((#[]:Array<|Int×Value).map (·.1)) (n * 2)=some (t',order):=by
   unfold SetTable.relaid;rw[show((#[]:Array<|Int×Value).map (·.1))=#[] by simp];exact e
  rw[er];have eo:order=#[]:=by
   have:=p.length_eq;simp at this;exact this
  subst eo;refine BJ ?_;show wpAny _ _ (if(((#[]:Array Nat).filterMap ((#[]:Array<|Int×Value)[·]?)).size != (#[]:Array<|Int×Value).size)=true then(unsupported "internal:set-table-lost-an-element" : Sem<|Array (Int×Value)×SetTable)else pure ((#[]:Array Nat).filterMap ((#[]:Array<|Int×Value)[·]?),t')) _ _ _;rw[BL<|by simp];refine BK ?_
  dsimp only
  have ee:((#[]:Array Nat).filterMap ((#[]:Array<|Int×Value)[·]?))=#[]:=by simp
  rw[ee];have B':eR w t':=⟨by
   have:=l5
   simpa using this,l4,l1.trans B.led,l2.trans B.plain⟩
  refine GQ ho hd ?_ (by simp);have q:=(pv ho hx hd<|B'.tab (prog:=prog)).1;exact k _ _ _ _ (CT _ a _) q hx rfl B' (by rw[l3,em];exact hp) (by rw[l3];omega)
 ·rw[BL c];exact BK<|k s.heap o ep t (Heap.SameBut.refl _ _) ho hx hd B (by rw[hm];exact .inl rfl)<|by rw[hm];omega
def Yk{b:Addr}{each:Sem Unit}{Q:Unit->Shared->Prop}(ho:s.heap.get? a=some o)(hx:o.ExactSet)(hd:o.data = .set #[] ep t)(B:eR w t)(hm:t.mask=7)(gn:a≠b)(S:az prog w s.heap b zs)(hz:zs.length < 64)
  (k:∀ h',Heap.SameBut a s.heap h'->az prog w h' a zs->Q () {s with heap:=h'}):wpAny (model prog w) A (setMerge a b each) Q E s:=by
 obtain⟨ob,eo,epb,tb,pB,hxb,cw,Tb⟩:=S;unfold setMerge;have e1:(a == b)=false:=by simpa using gn
 rw[e1];simp only[Bb,CV];refine BJ<|CN pB cw Tb.fits ?_
 dsimp only
 by_cases c:eo.isEmpty=true
 ·rw[BP c];have:eo=#[]:=by simpa using c
  subst this;have ez:zs=[]:=by
   have:=Tb.size;exact Bj.mp<|by simpa using this.symm
  subst ez;exact BK<|k s.heap (Heap.SameBut.refl _ _) ⟨o,#[],ep,t,ho,hx,hd,B.tab⟩
 ·rw[BL c];have hsz:eo.size < 64:=by rw[Tb.size];exact hz
  refine BJ<|Yj ho hx hd B hm hsz λh' o' nB t' sb cJ gg oP B' hp hl=>?_;refine BJ<|CN cJ oP (B'.tab (prog:=prog)).fits ?_
  dsimp only
  have ld:(t'.led && tb.led) = !cH w:=by rw[B'.led,Tb.led];simp
  have pl:tb.plain=false:=by
   rcases Tb.plain with q | q
   ·rw[q]at c;simp at c
   ·exact q
  unfold SetTable.road;rw[B'.fill];simp only[FZ,Bb,CV]
  by_cases c2:(t'.mask == tb.mask && tb.dummies.isEmpty)=true
  ·rw[BP c2]
   dsimp only
   have T2:Tab prog w eo {tb with finger:=t'.finger,led:=t'.led && tb.led,moves:=t'.moves,plain:=t'.plain && tb.plain} zs:=
    ⟨Tb.elts,Tb.keys,Tb.nodup,Tb.few,Tb.fits,ld,.inr<|by show(t'.plain && tb.plain)=false;rw[pl];simp⟩
   refine GQ cJ oP ?_<|jY<|Cb Tb.ft;exact k _ (sb.trans<|CT _ a _) (pv cJ gg oP T2).2
  ·rw[BL c2]
   dsimp only
   obtain⟨t2,order,e,p,f,l1,l2,l3,l4,l5⟩:=N9 (finger:=t'.finger) (moves:=t'.moves) (led:=t'.led && tb.led) (plain:=t'.plain && tb.plain) hp (eo.map (·.1)) (by simpa using hl);rw[e];have p2:order.toList.Perm (List.range eo.size):=by simpa using p
   have pp:=Yh p2;have ps:(order.filterMap (eo[·]?)).size=eo.size:=by
    have:=pp.length_eq;rwa[Bq,Bq]at this
   refine BJ ?_;show wpAny _ _ (if((order.filterMap (eo[·]?)).size != eo.size)=true then _ else pure (order.filterMap (eo[·]?),t2)) _ _ _;rw[BL<|by rw[ps];simp];refine BK ?_
   dsimp only
   have T2:Tab prog w (order.filterMap (eo[·]?)) t2 zs:=⟨λx hx=>Tb.elts x<|pp.mem_iff.mp hx,(pp.map keyOf).trans Tb.keys,Tb.nodup,Tb.few,by rw[ps];simpa using f,l1.trans ld,.inr<|l2.trans<|by rw[pl];simp⟩;refine GQ cJ oP ?_<|jY<|Cb T2.ft;exact k _ (sb.trans<|CT _ a _) (pv cJ gg oP T2).2
def x5{Q:Bool->Shared->Prop}(S:az prog w s.heap a zs)(k:Q true s):wpAny (model prog w) A (isAnySet<|.ref a) Q E s:=by
 unfold isAnySet;refine BJ<|JT S.typeIs sub_set_self ?_;exact BK k
def Yl{Q:Ï}(S:az prog w s.heap a zs)(k:Q (.type "set") s):wpAny (model prog w) A (baseOf a) Q E s:=by
 unfold baseOf;refine BJ<|JT S.typeIs sub_set_self ?_;exact BK k
def Og{Q:Nat->Shared->Prop}(S:az prog w s.heap a zs)(k:∀ n,(∀ s':Shared,s'.heap.get? a=s.heap.get? a->∀ Q':Nat->Shared->Prop,Q' n s'->wpAny (model prog w) A (setEpoch a) Q' E s')->Q n s):wpAny (model prog w) A (setEpoch a) Q E s:=by
 obtain⟨o,es,ep,t,ho,hx,hd,T⟩:=S;exact KQ ho hd T.fits<|k ep λs' e Q' q=>KQ (e.trans ho) hd T.fits q
def Ym{b:Addr}{id:String}{Q:Ï}(S:az prog w s.heap b zs)(hz:zs.length < 64)
  (k:∀ h',(∀ c o,s.heap.get? c=some o->h'.get? c=some o)->az prog w h' s.heap.objs.size zs->Q (.ref s.heap.objs.size) {s with heap:=h'}):wpAny (model prog w) A (newFrom id (.type "set")<|.ref b) Q E s:=by
 unfold newFrom;refine BJ<|Yi λo hx ⟨t,hd,B,hm⟩ hf=>?_;have ho:(s.heap.push o).get? s.heap.objs.size=some o:=At _ hf;have aY:b < s.heap.objs.size:=S.lt;have S':az prog w (s.heap.push o) b zs:=S.keep λo' e=>Ag _ e;unfold addrOf;refine BJ<|BK<|BJ<|CJ ?_;unfold updateFrom;refine BJ<|x5 (s:={s with heap:=s.heap.push o}) S' ?_;simp only[DN];refine BJ<|BK ?_;unfold merge;refine BJ<|Og (s:={s with heap:=s.heap.push o}) S' λn _=>?_;refine Yk (s:={s with heap:=s.heap.push o}) ho hx hd B hm (Cp aY) S' hz λh' sb S2=>?_;refine BK<|k h' (λc u e=>?_) S2;have hc:c≠s.heap.objs.size:=Bm<|Aq e;rw[sb.2 c hc];exact Ag _ e
def flipped(zs:Ò)(z:Str):Ò:=if z∈zs then zs.erase z else zs++[z]
def DT{zs:Ò}(hn:zs.Nodup)(z y:Str):y∈flipped zs z↔(if y=z then y∉zs else y∈zs):=by
 unfold flipped
 by_cases c:z∈zs
 ·rw[BP c,hn.mem_erase_iff]
  by_cases e:y=z
  ·subst e;simp[c]
  ·simp[e]
 ·rw[BL c,Am,Ad]
  by_cases e:y=z
  ·subst e;simp[c]
  ·simp[e]
def Yn(zs:Ò)(z:Str):(flipped zs z).length<=zs.length+1:=by
 unfold flipped
 split
 ·exact Nat.le_succ_of_le<|List.length_erase_le
 ·simp
theorem Oh:∀(ps zs:Ò),zs.Nodup->ps.Nodup->∀ y,y∈ps.foldl flipped zs↔(if y∈ps then y∉zs else y∈zs)
 | [],zs,_,_,y=>by simp
 | p :: r,zs,hn,hp,y=>by
  rw[Bc]at hp;have B2:(flipped zs p).Nodup:=by
   unfold flipped
   split
   ·exact hn.erase p
   ·rename_i c;rw[Cj];exact⟨hn,by simp,λx hx y hy e=>by rw[Ad]at hy;subst hy e;exact c hx⟩
  rw[Dg,Oh r _ B2 hp.2 y]
  by_cases e:y=p
  ·subst e;rw[BL hp.1,DT hn,BP rfl,BP Ae]
  ·by_cases c:y∈r
   ·rw[BP c,BP<|Ah _ c,DT hn,BL e]
   ·rw[BL c,BL (λh=>by rcases Aj.mp h with h | h;exact e h;exact c h),DT hn,BL e]
end
def Yo:entryFor table "set.__xor__" = some Builtin.«frozenset.__xor__»:=
 QB (id':= "frozenset.__xor__") (by kernel_rfl) rfl (by decide +kernel) (by kernel_rfl)
section
variable{prog:Program}{w:World}{A:Around}{E:Ï}{s:Shared}{a r:Addr}{za zr:Ò}
def Yp{nm:String}{Q:Unit->Shared->Prop}(Sa:az prog w s.heap a za)(Sr:az prog w s.heap r zr)(x6:a≠r)(hl:za.length+zr.length < 900)
  (k:∀ h' d (ws:Ò),ws.Perm za->Heap.SameBut r s.heap h'->az prog w h' r (ws.foldl flipped zr)->Q () {s with heap:=h',drawn:=d}):wpAny (model prog w) A (symmetricDifferenceUpdate nm r<|.ref a) Q E s:=by
 unfold symmetricDifferenceUpdate;have e1:(Value.ref a == Value.ref r)=false:=by
  refine Dy.mpr λh=>x6 ?_;have:=eq_of_beq h;exact Value.ref.inj this
 rw[e1];simp only[Bb,CV];refine BJ<|KH Sa.typeIs ?_;rw[show(Value.type "set" == Value.type "dict")=false by decide];simp only[Bb,CV];refine BJ<|x5 Sa ?_;simp only[DN];refine BJ<|BK ?_;unfold addrOf;refine BJ<|BK ?_;refine BJ<|Og Sa λn hn=>?_;refine CJ ?_;obtain⟨o,es,ep,t,ho,hx,hd,T⟩:=id Sa;refine BJ<|Yc ho hx hd T Sr λws h1 d1 p sb S1=>?_;have pw:(ws.toList.map keyOf).Perm za:=(p.map keyOf).trans T.keys;have el:∀ e∈ws.toList,nQ prog w e:=λe he=>T.elts e<|p.mem_iff.mp he;refine BJ<|QL _ (λrest _ s'=>∃ h' zz,s'={s with heap:=h',drawn:=d1}/\Heap.SameBut r s.heap h'/\az prog w h' r zz/\zz.length+rest.length < 900/\(∀ e∈rest,nQ prog w e) /\
   (rest.map keyOf).foldl flipped zz=(ws.toList.map keyOf).foldl flipped zr) _ ?_ ?_ ws _ ⟨h1,zr,rfl,sb,S1,?_,el,rfl⟩
 ·rintro e rest b s' ⟨h',zz,rfl,rN,S',nR,he,hf⟩;obtain⟨z,tk,rfl⟩:=he _ Ae;have pC:∀ e∈rest,nQ prog w e:=λe h=>he e<|Ah _ h;rw[Ap]at nR;have Oi:∀(h2:Heap) (Q':Nat->Shared->Prop),Heap.SameBut r s.heap h2->Q' n {s with heap:=h2,drawn:=d1}->wpAny (model prog w) A (setEpoch a) Q' E {s with heap:=h2,drawn:=d1}:=
   λh2 Q' q1 q2=>hn _ (q1.2 a x6) Q' q2
  have fin:∀ h2 DU,Heap.SameBut r s.heap h2->az prog w h2 r DU->DU=flipped zz z->∃ h' DV,({s with heap:=h2,drawn:=d1}:Shared)={s with heap:=h',drawn:=d1}/\Heap.SameBut r s.heap h'/\az prog w h' r DV/\DV.length+rest.length < 900/\(∀ e∈rest,nQ prog w e) /\
    (rest.map keyOf).foldl flipped DV=(ws.toList.map keyOf).foldl flipped zr:=by
   rintro h2 DU q1 q2 rfl;refine⟨h2,_,rfl,q1,q2,?_,pC,hf⟩;have:=Yn zz z;omega
  dsimp only
  refine BJ<|CJ<|BJ<|X9 (s:={s with heap:=h',drawn:=d1}) S' (λhz=>?_) λh2 hz q1 q2=>?_
  ·simp only[TQ,DN];refine BJ (DJ (s:={s with heap:=h',drawn:=d1}) S' (by omega) λb h2 q1 q2=>BK ?_);unfold unchanged;refine BJ<|BJ<|Oi h2 _ (rN.trans q1) ?_;simp only[FZ,Bb,CV];refine BK<|BK<|fin h2 _ (rN.trans q1) q2 ?_;unfold added flipped;rw[BL hz,BL hz]
  ·simp only[Dx,Bb,CV];refine BK ?_;unfold unchanged;refine BJ<|BJ<|Oi h2 _ (rN.trans q1) ?_;simp only[FZ,Bb,CV];refine BK<|BK<|fin h2 _ (rN.trans q1) q2 ?_;unfold flipped;rw[BP hz]
 ·rintro b s' ⟨h',zz,rfl,rN,S',_,_,hf⟩;have xU:zz=(ws.toList.map keyOf).foldl flipped zr:=hf;subst xU;exact BK<|k h' d1 _ pw rN S'
 ·have:=pw.length_eq;rw[Aa]at this;omega
def Yq{b:Addr}{zb:Ò}{Q:Ï}(Sa:az prog w s.heap a za)(Sb:az prog w s.heap b zb)(ha:za.length < 64)(hb:zb.length < 64)
  (k:∀ h' d zc,(∀ c o,s.heap.get? c=some o->h'.get? c=some o)->az prog w h' s.heap.objs.size zc->(∀ y,y∈zc↔(if y∈za then y∉zb else y∈zb))->Q (.ref s.heap.objs.size) {s with heap:=h',drawn:=d}) :
  wpAny (model prog w) A (binaryOp .BitXor (.ref a)<|.ref b) Q E s:=by
 refine wpAny_binaryOp_same (op:= .BitXor) (T:= "set") Sa.typeIs Sb.typeIs F.fills_set_xor F.slot_set_xor<|DG F.slot_set_xor Sa.typeIs Yo ?_<|F.args_set_xor_2 _ _;show wpAny _ _ (slot1 "__xor__" ⟨[.ref a,.ref b],[]⟩ >>= _) _ _ _;unfold slot1 slotArgs;simp only[Gh,Dx,Bb,↓reduceIte,bind_assoc,Ap,Ej,FZ];refine BJ<|BK ?_
 dsimp only
 refine BJ<|BK ?_
 dsimp only
 refine BJ<|BJ<|x5 Sa ?_;refine x5 Sb ?_;simp only[Dx,Bb,CV];unfold addrOf;refine BJ<|BK ?_;refine BJ ?_;show wpAny _ _ (baseOf a >>= λc=>newFrom (toString "frozenset."++toString "__xor__") c (.ref b) >>= λres=>addrOf res >>= λq=>holding [res] (symmetricDifferenceUpdate (toString "frozenset."++toString "__xor__") q<|.ref a) >>= λ_=>pure res) _ _ _;refine BJ<|Yl Sa ?_;refine BJ<|Ym Sb hb λh1 k1 S1=>?_;unfold addrOf;refine BJ<|BK<|BJ<|CJ ?_;have Yr:az prog w h1 a za:=Sa.keep<|k1 a;refine Yp (s:={s with heap:=h1}) Yr S1 (Bm Sa.lt) (by omega) λh2 d ws p sb S2=>?_;refine BK<|BK ⟨_,rfl,by simp,k h2 d _ (λc o e=>?_) S2 λy=>?_⟩
 ·rw[sb.2 c<|Bm<|Aq e];exact k1 c o e
 ·rw[Oh ws zb Sb.nodup (p.nodup_iff.mpr Sa.nodup) y];simp only[p.mem_iff]
end
def made(zs:Ò):Ò:=zs.foldl added []
def DZ(zs:Ò)(z y:Str):y∈added zs z↔y∈zs\/y=z:=by
 unfold added
 split
 ·rename_i h;exact⟨.inl,λq=>q.elim id λe=>e ▸ h⟩
 ·rw[Am,Ad]
def Ys(zs:Ò)(z:Str):(added zs z).length<=zs.length+1:=by
 unfold added
 split <;> simp
theorem Oj:∀(ps zs:Ò) (y:Str),y∈ps.foldl added zs↔y∈zs\/y∈ps
 | [],zs,y=>by simp
 | p :: r,zs,y=>by
  rw[Dg,Oj r,DZ,Aj]
  constructor
  ·rintro ((h | h) | h)
   ·exact .inl h
   ·exact .inr<|.inl h
   ·exact .inr<|.inr h
  ·rintro (h | h | h)
   ·exact .inl<|.inl h
   ·exact .inl<|.inr h
   ·exact .inr h
theorem Ol:∀(ps zs:Ò),(ps.foldl added zs).length<=zs.length+ps.length
 | [],zs=>by simp
 | p :: r,zs=>by
  rw[Dg,Ap];have h1:=Ol r<|added zs p;have h2:=Ys zs p;omega
def Yu(zs:Ò)(y:Str):y∈made zs↔y∈zs:=by
 unfold made;rw[Oj];simp
def D0(zs:Ò):(made zs).length<=zs.length:=by
 have:=Ol zs []
 simpa[made]using this
section
variable{prog:Program}{w:World}{A:Around}{E:Ï}{s:Shared}
def gq(w:World):Obj:={cls:= .type "set",dict:=none,data:= .set #[] 0 (.fresh 0 0 (!cH w))}
def D1{h:Heap}{a:Addr}(e:h.get? a=some (gq w)):az prog w h a []:=⟨_,_,_,_,e,⟨rfl,rfl,rfl⟩,rfl,eR.tab ⟨rfl,rfl,rfl,rfl⟩⟩
def Yv(v:Value){Q:Ï}(k:Q (.ref s.heap.objs.size) {s with heap:=s.heap.push (gq w)}) :
  codeAny (model prog w) A (.call (.builtin "set.__new__") ⟨[.type "set",v],[]⟩) (wants Q E) s:=by
 refine JX ?_;show wpAny _ A.in1 (checkBuiltinCall "set.__new__" ⟨[.type "set",v],[]⟩ >>= λ_=>again<|.builtin "set.__new__" ⟨[.type "set",v],[]⟩) _ _ s;refine BJ<|IV (F.newCall_set_1 v)<|BK ⟨JD F.plain_set_new _,FQ F.entry_set_new ?_⟩;rw[FN F.plain_set_new _];unfold Builtin.«set.__new__» newClass
 dsimp only
 refine BJ<|BJ<|IV (show isType (.type "set")=pure true from rfl)<|BK ?_;simp only[Dx,Bb,CV];unfold newSet;refine BJ<|BJ<|wp_text ?_
 dsimp only
 simp only[newObj];refine BJ<|QF<|BK ?_;exact BK k
variable{R:Result->Shared->Prop}{I:Addr}{fp wr:List Addr}{G:Array GenState->Array GenState->Prop}{n:Nat}{P:Nat->Value->Prop}{St:Nat->Shared->Prop}
theorem Yw(W:WalksS prog w A.in1 I fp wr G n P St)(a:Addr)(ha:a∉fp)(zs:Ò)(hn:zs.length=n)(pD:∀ i v,P i v->∃ z t,zs[i]?=some z/\v=Value.str z t)(hb:n < 900) :
  ∀(k i:Nat) (s:Shared),n - i=k->i<=n->St i s->az prog w s.heap a (made<|zs.take i)->(∀ s',Moved (a :: wr) G s s'->az prog w s'.heap a (made zs)->R (.ok<|.ret .none) s') ->
   codeAny (model prog w) A (.builtin "set.update.loop" ⟨[.ref a,.ref I],[]⟩) R s:=by
 have Om:a∉wr:=λh=>ha<|W.sub _ h;have mw:∀ b∈wr,b∈a :: wr:=λb hb=>Ah _ hb;intro k
 induction k with
 | zero=>
  intro i s hk hi st S k2;have e:i=n:=by omega
  subst e;refine FQ KJ ?_;rw[FN HN _];show wpAny _ A.in1 (pyNext (.ref I) >>= _) _ _ s;refine BJ<|W.done s _ _ st λs' m=>?_;show wpAny _ A.in1 (ret Value.none) _ _ s';rw[Cq<|by omega]at S;exact BK<|k2 s' (m.mono mw)<|S.keep λo e=>m.heap a o Om e
 | succ k ih=>
  intro i s hk hi st S k2;have aY:i < n:=by omega
  refine FQ KJ ?_;rw[FN HN _];show wpAny _ A.in1 (pyNext (.ref I) >>= _) _ _ s;refine BJ<|W.item i s _ _ aY st λv s' hP dC m=>?_;obtain⟨z,t,hz,rfl⟩:=pD i v hP;have S':az prog w s'.heap a (made<|zs.take i):=S.keep λo e=>m.heap a o Om e;show wpAny _ A.in1 (holding [Value.str z t] (setAdd a<|.str z t) >>= _) _ _ s';refine BJ<|CJ ?_;unfold setAdd;refine CJ<|BJ<|(strKind prog w).pyHash (k:=z) (PB _ _ _ _) ?_;have hl:(made<|zs.take i).length<=i:=By (D0 _) (by rw[Bk];omega);refine DJ (s:={s' with toks:=s'.toks+1}) S' (by omega) λb h' sb S2=>?_;have S3:az prog w h' a (made<|zs.take<|i+1):=by
   rw[Ck,hz];unfold made;rw[List.foldl_append];exact S2
  refine BK ⟨JD HN _,ih (i+1) _ (by omega) aY (W.frame _ s' _ _ dC (Ek _) λc hc o e=>?_) S3 λs2 m2 S4=>?_⟩
  ·rw[sb.2 c λh=>ha<|h ▸ hc];exact e
  ·refine k2 s2 (Moved.trans W.gtrans ((m.mono mw).then_heap (Ek _) λc o hc e=>?_) m2) S4;rw[sb.2 c λh=>hc<|h ▸ Ae];exact e
theorem Yx{Q:Ï}{l:Addr}{items:Array Value}{zs:Ò}(hh:A.handled=none)(hl:s.heap.IsList l items)(hi:∀(i:Nat) v,items[i]?=some v->∃ z t,zs[i]?=some z/\v=Value.str z t)(hz:zs.length=items.size)(hb:items.size < 900)
  (k:∀ h' tk,(∀ b o,s.heap.get? b=some o->h'.get? b=some o)->az prog w h' s.heap.objs.size (made zs)->Q (.ref s.heap.objs.size) {s with heap:=h',toks:=tk}):wpAny (model prog w) A (call (.type "set") [.ref l]) Q E s:=by
 obtain⟨c,tl,jZ⟩:=F.called_set.mro;have um:=F.called_set.made;have mw:=F.called_set.sub;refine RD<|JX ?_;show wpAny _ _ (callAny (.type "set") _) _ _ _;refine BK ⟨Code.quiet_builtin _ (by decide +kernel),FQ F.entry_type_call ?_⟩;rw[Around.under_plain (weight_type_call_type "set" [.ref l] []) rfl];have h1:=F.called_set.notType;have h2:=F.called_set.canCreate;have h3:=F.typeCall_set_1<|.ref l
 repeat (any_goals (first | assumption | wp_step))
 refine JB (Yv (.ref l) (E:=E) (Q:=λv À=>v = .ref s.heap.objs.size/\À={s with heap:=s.heap.push (gq w)}) ⟨rfl,rfl⟩) λr À hr=>?_;cases r with
 | error e=>exact hr
 | ok fl=>
  cases fl with
  | ret v=>
   obtain⟨rfl,rfl⟩:=hr;have hS:(s.heap.push<|gq w).get? s.heap.objs.size=some (gq w):=At _ rfl;have hT:Shared.TypeIs {s with heap:=s.heap.push (gq w)} (.ref s.heap.objs.size) "set":=⟨_,hS,rfl⟩;have rO:=F.called_set.init.lookup;have D4:=F.called_set.init.bind<|.ref s.heap.objs.size
   repeat (any_goals (first | assumption | wp_step))
   refine JB (PJ (R:=wants (λr Á=>r = .none/\∃ h' tk,Á={s with heap:=h',toks:=tk}/\(∀ b o,s.heap.get? b=some o->h'.get? b=some o)/\az prog w h' s.heap.objs.size (made zs)) E) F.called_set.init.plain F.entry_set_init<|check_set_init_1 hT ?_) λr2 s2 pE=>?_
   ·obtain⟨ol,uo,jb,nl,gP⟩:=hl;obtain⟨Yy,uq,Oo,pF⟩:=ol;simp only at jb gP;subst jb gP;have D5:(s.heap.push<|gq w).get? l=some {cls:= .type "list",dict:=uq,data:= .seq items nl,slots:=pF}:=Ag _ uo;have n1:=F.sub_list_set;have n2:=F.sub_list_frozenset;have n3:(Value.type "list" == Value.type "dict")=false:=by decide
    have gu:(s.heap.push<|gq w).IsList l items:=⟨_,D5,rfl,nl,rfl⟩;have D6:(s.heap.push<|gq w).get? s.heap.objs.size=some {cls:= .type "set",dict:=none,data:= .set #[] 0 (.fresh 0 0 (!cH w))}:=hS;unfold Builtin.«set.__init__» noKeywords updateFrom;generalize Yz:pyIter=PI
    wp_walk
    subst Yz;refine QV gu ?_;refine BJ<|wpAny_runValue ?_;have aY:l < s.heap.objs.size:=Aq uo;have bn:l≠(s.heap.push<|gq w).objs.size:=by
     rw[Cz];exact Bm<|Cb aY
    have YB:s.heap.objs.size∉[(s.heap.push<|gq w).objs.size,l]:=by
     rw[Cz];intro h
     rcases Aj.mp h with h | h
     ·exact absurd h<|Bm<|Gg _
     ·rw[Ad]at h;exact absurd h<|Cp aY
    refine Yw ((Walks.list (by simp[hh]) _ l bn items).toS) s.heap.objs.size YB zs hz (λi v hv=>hi i v hv) hb (items.size - 0) 0 _ (by omega) (Bz _)
     ⟨⟨_,At _ rfl,rfl,rfl⟩,(gu.push _)⟩ ?_ λs' m S'=>?_
    ·exact D1<|Ag _ hS
    ·obtain⟨h',g',d',x8,bW⟩:=s';have eg:g'=s.gens:=m.gens;have ed:d'=s.drawn:=m.drawn;have eo:bW=s.os:=m.os;subst eg ed eo;refine BK ?_;refine BK ⟨rfl,h',x8,rfl,λb o e=>?_,S'⟩;have hb:=Aq e;refine m.heap b o (λh=>?_)<|Ag _<|Ag _ e;rw[Cz]at h
     rcases Aj.mp h with h | h
     ·exact absurd h<|Bm hb
     ·rw[Ad]at h;exact absurd h<|Bm<|Cb hb
   ·cases r2 with
    | error e=>exact pE
    | ok YC=>
     cases YC with
     | ret r=>
      obtain⟨rfl,h',tk,rfl,q1,q2⟩:=pE
      repeat (any_goals (first | assumption | wp_step))
      exact k _ _ q1 q2
     | _=>exact pE.elim
  | _=>exact hr.elim
end
def slot_next:Slot "set_iterator" "__next__" "set_iterator.__next__":=
 .of (owner:= "set_iterator") (n:= "__next__") (by rw[SJ,MK];kernel_rfl) (by decide +kernel) (by decide +kernel) (by decide +kernel)
  (by first | exact .inl (by decide +kernel) | exact .inr<|by decide +kernel) (by rw[isSubtype_type];kernel_rfl)
def entry_next:entryFor table "set_iterator.__next__" = some Builtin.«set_iterator.__next__»:=entryFor_of_fast<|by kernel_rfl
def args_next(a:Value):argsOk "set_iterator.__next__" ⟨[a],[]⟩:=by unfold argsOk;kernel_rfl
def YD:entryFor table "set.__iter__" = some Builtin.«frozenset.__iter__»:=
 QB (id':= "frozenset.__iter__") (by kernel_rfl) rfl (by decide +kernel) (by kernel_rfl)
def kY(first:Value)(i:Nat)(a:Addr)(n ep:Nat):Obj:={cls:= .type "set_iterator",data:= .fields #[first,.int i 0,.ref a,.int n 0,.int ep 0]}
def fv(ys:List Nat):Obj:={cls:= .type "tuple",data:= .seq (ys.map λ(i:Nat)=>rawInt i).toArray}
inductive Way (w:World) (h:Heap) (a tp:Addr) (es:Array<|Int×Value) (ep:Nat) (t:SetTable) (ws:List<|Int×Value) (i:Nat):Value->Prop where
 | drawn (ys:List Nat) (ht:h.get? tp=some (fv ys)) (hl:ys.length=es.size) (hw:∀ j:Nat,∀ y,ys[j]?=some y->es[y]?=ws[j]?):Way w h a tp es ep t ws i<|.ref tp
 | text (c:Int) (hb:cH w=true) (hw:ws=(pickOrder (w.params.setOrder a ep) es).toList):Way w h a tp es ep t ws i<|.int c 0
 | one (c:Nat) (hb:cH w=false) (hs:es.size<=1) (hw:ws=es.toList) (hc:SetTable.below t.place c=i):Way w h a tp es ep t ws i<|.int c 0
section
variable{prog:Program}{w:World}{A:Around}{E:Ï}{s:Shared}{a tp it:Addr}{zs:Ò}{o:Obj}{es:Array (Int×Value)}{ep:Nat}{t:SetTable}{ws:List (Int×Value)}{i:Nat}{first:Value}
def Oq(j c:Nat):SetTable.below #[j] c=if j < c then 1 else 0:=by
 unfold SetTable.below;show SetTable.below.go #[j] c 1 0 1=_;unfold SetTable.below.go;simp only[Nat.zero_lt_one,DN];show(if(#[j]:Array Nat).getD 0 c < c then SetTable.below.go #[j] c 0 1 1 else SetTable.below.go #[j] c 0 0 0)=_;rw[show(#[j]:Array Nat).getD 0 c=j by rfl]
 split <;> rfl
theorem Way.keep{h h':Heap}(W:Way w h a tp es ep t ws i first)(k:∀ o,h.get? tp=some o->h'.get? tp=some o):Way w h' a tp es ep t ws i first:=by
 cases W with
 | drawn ys ht hl hw=>exact .drawn ys (k _ ht) hl hw
 | text c hb hw=>exact .text c hb hw
 | one c hb hs hw hc=>exact .one c hb hs hw hc
def ur{h:Heap}{n:Nat}(x:Value)(e:h.get? it=some (kY first i a n ep)):(h.update it (Obj.mapFields (·.setIfInBounds 0 x))).get? it=some (kY x i a n ep):=Cu _ e rfl
def up1{h:Heap}{n:Nat}(e:h.get? it=some (kY first i a n ep)):(h.update it (Obj.mapFields (·.setIfInBounds 1 (rawInt<|(i:Int)+1)))).get? it=some (kY first (i+1) a n ep):=Cu _ e rfl
theorem Ot{p:Array Nat}(h:p.size=1):∃ j,p=#[j]:=by
 obtain⟨l⟩:=p
 match l,h with
 | [j],_=>exact⟨j,rfl⟩
def Ou(T:Tab prog w es t zs):t.place.size=es.size:=by
 have:=T.fits;unfold SetTable.fits at this;rw[Bn,HJ]at this;exact this.1
theorem YF{Q:Option Value->Shared->Prop}(hi:s.heap.get? it=some (kY first i a es.size ep))(ho:s.heap.get? a=some o)(hd:o.data = .set es ep t)(T:Tab prog w es t zs)(hW:Way w s.heap a tp es ep t ws i first)
  (bn:tp≠it) (hp:ws.Perm es.toList) {e:Int×Value} (he:ws[i]?=some e) (k:∀ h' j3,Heap.SameBut it s.heap h'->h'.get? it=some (kY j3 (i+1) a es.size ep)->Way w h' a tp es ep t ws (i+1) j3->Q (some e.2) {s with heap:=h'}) :
  wpAny (model prog w) A (pyNext<|.ref it) Q E s:=by
 have hT:s.TypeIs (.ref it) "set_iterator":=⟨_,hi,rfl⟩;unfold pyNext;refine BJ<|JF<|JC (name:=Str.ofString "__next__") hT slot_next<|DG slot_next hT entry_next ?_<|args_next _;unfold Builtin.«set_iterator.__next__»;refine BJ<|BK ?_;refine BJ<|QC hi rfl ?_
 dsimp only
 refine BJ<|JW ho hd T.fits ?_;rw[BL<|by simp];have Ov:∀ x,Heap.SameBut it s.heap ((s.heap.update it (Obj.mapFields (·.setIfInBounds 0 x))).update it (Obj.mapFields (·.setIfInBounds 1 (rawInt<|(i:Int)+1)))):=λx=>(CT ..).trans<|CT ..;have my:i < es.size:=by
  have h1:ws.length=es.size:=by simpa using hp.length_eq
  rcases Di i ws.length with h | h
  ·omega
  ·rw[Bf h]at he;cases he
 have Ow:Heap.SameBut it s.heap (s.heap.update it (Obj.mapFields (·.setIfInBounds 1 (rawInt<|(i:Int)+1)))):=CT ..;cases hW with
 | drawn ys ht hl hw=>
  dsimp only
  have hy:ys[i]?=some (ys[i]'(by omega)):=Ab _;generalize ys[i]'(by omega)=y at hy;refine BJ<|wpAny_seqItems ht rfl ?_
  dsimp only
  have e1:(ys.map λ(i:Nat)=>rawInt i).toArray[(i:Int).toNat]?=some (.int y 0):=by
   rw[Bd,TV,Ai,hy];rfl
  rw[e1]
  dsimp only
  unfold setNextDrawn;refine BJ<|BJ<|CN ho hd T.fits ?_
  dsimp only
  rw[BL<|by simp];have e2:es[(y:Int).toNat]?=some e:=by
   rw[Bd,hw i y hy];exact he
  rw[e2]
  dsimp only
  refine BK (BJ<|DP hi rfl (by simp) ?_);refine BK ⟨_,rfl,BK<|k _ _ Ow (up1 hi)<|.drawn ys ?_ hl hw⟩;rw[Ow.2 tp bn];exact ht
 | text c hb hw=>
  dsimp only
  unfold setNext;refine BJ<|BJ<|CN ho hd T.fits ?_
  dsimp only
  refine BJ<|wp_text ?_;rw[hb];simp only[DN];rw[BL<|by simp];unfold setWalk;refine BJ<|BJ<|CN ho hd T.fits ?_
  dsimp only
  refine BJ<|wp_text ?_;rw[hb];simp only[DN];refine BJ<|JR ?_;refine BK ?_;have e1:(pickOrder ((model prog w).w.params.setOrder a ep) es)[(i:Int).toNat]?=some e:=by
   rw[Bd,<- Bs];show(pickOrder (w.params.setOrder a ep) es).toList[i]?=_;rw[<- hw];exact he
  rw[e1];refine BK ?_
  dsimp only[Option.map]
  refine BJ (DP hi rfl (by simp) ?_);refine BJ (DP (ur _ hi) rfl (by simp) ?_);exact BK ⟨_,rfl,BK<|k _ _ (Ov _) (up1<|ur _ hi)<|.text _ hb hw⟩
 | one c hb hs hw hc=>
  have YG:i=0:=by omega
  have jx:es.size=1:=by omega
  subst YG;have x9:t.place.size=1:=(Ou T).trans jx;obtain⟨j,hj⟩:=Ot x9
  dsimp only
  unfold setNext;refine BJ<|BJ<|CN ho hd T.fits ?_
  dsimp only
  refine BJ<|wp_text ?_;rw[hb];simp only[Bb,CV];show wpAny _ _ (if(!t.plain && decide (es.size > 1))=true then _ else _) _ _ _;rw[BL<|by rw[jx];simp];refine BJ ?_;show wpAny _ _ (if(!t.led && !es.isEmpty)=true then _ else _) _ _ _;rw[BL<|by rw[T.led,hb];simp];refine BK ?_;rw[Bd,hc];have e1:es[0]?=some e:=by
   rw[<- Bs,<- hw];exact he
  have e2:t.place[0]?=some j:=by rw[hj];rfl
  rw[e1,e2];refine BK ?_
  dsimp only
  refine BJ (DP hi rfl (by simp) ?_);refine BJ (DP (ur _ hi) rfl (by simp) ?_);refine BK ⟨_,rfl,BK<|k _ _ (Ov _) (up1<|ur _ hi)<|.one (j+1) hb hs hw ?_⟩;rw[hj,Oq,BP<|Gg _]
theorem YH{Q:Option Value->Shared->Prop}(hh:A.handled=none)(hi:s.heap.get? it=some (kY first i a es.size ep))(ho:s.heap.get? a=some o)(hd:o.data = .set es ep t)(T:Tab prog w es t zs)(hW:Way w s.heap a tp es ep t ws i first)
  (hp:ws.Perm es.toList) (he:i=es.size) (k:∀ h',Heap.ExtBut it s.heap h'->Q none {s with heap:=h'}) :
  wpAny (model prog w) A (pyNext<|.ref it) Q E s:=by
 have hT:s.TypeIs (.ref it) "set_iterator":=⟨_,hi,rfl⟩;have wl:ws.length=es.size:=by simpa using hp.length_eq
 unfold pyNext;refine BJ<|JF<|JC (name:=Str.ofString "__next__") hT slot_next<|DG slot_next hT entry_next ?_<|args_next _;unfold Builtin.«set_iterator.__next__»;refine BJ<|BK ?_;refine BJ<|QC hi rfl ?_
 dsimp only
 refine BJ<|JW ho hd T.fits ?_;rw[BL<|by simp];have fin:∀ h2:Heap,Heap.SameBut it s.heap h2->wpAny (model prog w) A.in1 (newExc (Value.type "StopIteration") [] >>= λx=>(raiseNew x:Sem Fin)) (λfin s'=>∃ v,fin=Fin.done (Flow.ret v)/\wpAny (model prog w) A (pure<|some v) Q E s')
   (λe s'=>wpAny (model prog w) A (isInstance e (Value.type "StopIteration") >>= λb=>if b=true then pure none else throw e) Q E s') {s with heap:=h2}:=by
  intro h2 sb;refine BJ ?_;simp only[newExc,newTuple];refine BJ (CZ ?_<|by size_fits);refine BJ (m:=firstArgMember _ _) (IV (a:=Value.none) (by first | rfl | (simp only[firstArgMember];rfl)) ?_);refine CZ ?_ (by size_fits);simp only[raiseNew];refine BJ<|wpAny_handled ?_;rw[show A.in1.handled=none from hh];refine BJ<|BK<|wpAny_throw ?_;refine BJ<|JT (T:= "StopIteration") (b:=true) ⟨_,At _ rfl,rfl⟩ isSubtype_stop ?_;exact BK<|k _<|(sb.extBut.push _).push _
 cases hW with
 | drawn ys ht hl hw=>
  dsimp only
  refine BJ<|wpAny_seqItems ht rfl ?_
  dsimp only
  have e1:(ys.map λ(i:Nat)=>rawInt i).toArray[(i:Int).toNat]?=none:=by
   rw[Bd,TV,Bf];rw[Aa];omega
  rw[e1]
  dsimp only
  refine BJ (DP hi rfl (by simp) ?_);refine BJ (DP (ur _ hi) rfl (by simp) ?_);exact fin _<|(CT ..).trans<|CT ..
 | text c hb hw=>
  dsimp only
  unfold setNext;refine BJ<|BJ<|CN ho hd T.fits ?_
  dsimp only
  refine BJ<|wp_text ?_;rw[hb];simp only[DN];rw[BL<|by simp];unfold setWalk;refine BJ<|BJ<|CN ho hd T.fits ?_
  dsimp only
  refine BJ<|wp_text ?_;rw[hb];simp only[DN];refine BJ<|JR ?_;refine BK ?_;have e1:(pickOrder ((model prog w).w.params.setOrder a ep) es)[(i:Int).toNat]?=none:=by
   rw[Bd,<- Bs];show(pickOrder (w.params.setOrder a ep) es).toList[i]?=_;rw[<- hw,Bf];omega
  rw[e1];refine BK ?_
  dsimp only[Option.map]
  refine BJ (DP hi rfl (by simp) ?_);exact fin _<|CT ..
 | one c hb hs hw hc=>
  dsimp only
  unfold setNext;refine BJ<|BJ<|CN ho hd T.fits ?_
  dsimp only
  refine BJ<|wp_text ?_;rw[hb];simp only[Bb,CV];show wpAny _ _ (if(!t.plain && decide (es.size > 1))=true then _ else _) _ _ _;rw[BL<|by rw[BR<|by omega];simp];refine BJ ?_;show wpAny _ _ (if(!t.led && !es.isEmpty)=true then _ else _) _ _ _;rw[BL<|by rw[T.led,hb];simp];refine BK ?_;rw[Bd,hc];have e1:es[i]?=none:=Ee (by omega);rw[e1];refine BK ?_
  dsimp only
  refine BJ (DP hi rfl (by simp) ?_);exact fin _<|CT ..
open PySem.Spec
def Ox:Slot "set_iterator" "__iter__" "set_iterator.__iter__":=
 .of (owner:= "set_iterator") (n:= "__iter__") (by rw[SJ,MK];kernel_rfl) (by decide +kernel) (by decide +kernel) (by decide +kernel)
  (by first | exact .inl (by decide +kernel) | exact .inr<|by decide +kernel) (by rw[isSubtype_type];kernel_rfl)
def YJ:entryFor table "set_iterator.__iter__" = some Builtin.«dict_keyiterator.__iter__»:=
 QB (id':= "dict_keyiterator.__iter__") (by kernel_rfl) rfl (by decide +kernel) (by kernel_rfl)
def YK(a:Value):argsOk "set_iterator.__iter__" ⟨[a],[]⟩:=by unfold argsOk;kernel_rfl
def YL(hh:A.handled=none)(h1:a≠it)(h2:tp≠it)(hd:o.data = .set es ep t)(T:Tab prog w es t zs)(hp:ws.Perm es.toList) :
  Walks prog w A it [it,a,tp] [it] es.size (λi v=>∃ e,ws[i]?=some e/\v=e.2) (λi h=>∃ first,h.get? it=some (kY first i a es.size ep)/\h.get? a=some o/\Way w h a tp es ep t ws i first) where
 sub:=λb hb=>by simp at hb;simp[hb]
 frame:=λi h h' ⟨first,q1,q2,q3⟩ k=>⟨first,k it (by simp) _ q1,k a (by simp) _ q2,q3.keep<|k tp<|by simp⟩
 item:=λi s Q E hi ⟨first,q1,q2,q3⟩ k=>by
  have wl:ws.length=es.size:=by simpa using hp.length_eq
  obtain⟨e,he⟩:∃ e,ws[i]?=some e:=⟨ws[i]'(by omega),Ab _⟩;refine YF q1 q2 hd T q3 h2 hp he λh' f' sb g1 g2=>?_;exact k _ h' s.toks ⟨e,he,rfl⟩ ⟨f',g1,by rw[sb.2 a h1];exact q2,g2⟩ λb o hb e=>by rw[sb.2 b λh=>hb<|by simp[h]];exact e
 done:=λs Q E ⟨first,q1,q2,q3⟩ k=>YH hh q1 q2 hd T q3 hp rfl λh' e=>k h' s.toks λb o hb e2=>e b o (λh=>hb<|by simp[h]) e2
 self:=λi s Q E ⟨first,q1,q2,q3⟩ k=>by
  have hT:s.TypeIs (.ref it) "set_iterator":=⟨_,q1,rfl⟩;refine KR hT Ox<|DG Ox hT YJ ?_<|YK _;show wpAny _ _ (ret<|.ref it) _ _ s;exact BK ⟨_,rfl,"set_iterator",_,hT,slot_next.lookup,k⟩
def YM(es:Array<|Int×Value):(List.range es.size).map (λy=>(es[y]?).getD (0,Value.none))=es.toList:=by
 refine RM (by simp) λj h1 h2=>?_;rw[Dq,Ez];have:j < es.size:=by simpa using h2
 rw[Dj this];simp
def YN{Q:Ï}(ho:s.heap.get? a=some o)(hx:o.ExactSet)(hd:o.data = .set es ep t)(T:Tab prog w es t zs)
  (k:∀ h' d it tp ws first,(∀ b u,s.heap.get? b=some u->h'.get? b=some u)->s.heap.objs.size<=it->it < h'.objs.size->tp < h'.objs.size->(tp=a\/s.heap.objs.size<=tp)->tp≠it->h'.get? it=some (kY first 0 a es.size ep)->Way w h' a tp es ep t ws 0 first->ws.Perm es.toList->Q (.ref it) {s with heap:=h',drawn:=d}) :
  wpAny (model prog w) A (pyIter<|.ref a) Q E s:=by
 have hT:s.TypeIs (.ref a) "set":=⟨o,ho,hx.1⟩;have aY:a < s.heap.objs.size:=Aq ho;refine KR hT F.slot_set_iter<|DG F.slot_set_iter hT YD ?_<|F.args_set_iter_1 _;unfold Builtin.«frozenset.__iter__» slot0 slotArgs;simp only[Gh,Dx,Bb,↓reduceIte,bind_assoc,Ej,FZ];unfold addrOf Builtin.Frozenset.sizeOf;refine BJ<|BK ?_;refine BJ<|BK ?_;refine BJ<|BJ<|JW ho hd T.fits<|BK ?_;unfold setDrawn;refine BJ<|BJ<|CN ho hd T.fits ?_
 dsimp only
 refine BJ<|wp_text ?_;refine BK ?_
 by_cases c:(!cH w && (!t.plain && decide (es.size > 1)))=true
 ·show wpAny _ _ (if(!cH w && (!t.plain && decide (es.size > 1)))=true then _ else _) _ _ _;rw[BP c];refine BJ (DL _ _ _ _ (by simp) λys d p=>?_);have ut:ys.length=es.size:=by simpa using p.length_eq
  refine BJ (QD ?_<|by rw[Aa,ut];exact jY<|Cb T.ft);have o1:(s.heap.push<|fv ys).get? a=some o:=Ag _ ho;refine BJ<|KQ (s:={s with heap:=s.heap.push<|fv ys,drawn:=d}) o1 hd T.fits ?_;refine BJ<|CZ<|BK ⟨_,rfl,"set_iterator",_,⟨_,At _ rfl,rfl⟩,slot_next.lookup,?_⟩;have jx:(s.heap.push<|fv ys).objs.size=s.heap.objs.size+1:=Cz ..;refine k _ d _ s.heap.objs.size (ys.map λy=>(es[y]?).getD (0,Value.none)) (.ref s.heap.objs.size) (λb u e=>Ag _<|Ag _ e) (by show s.heap.objs.size<=(s.heap.push<|fv ys).objs.size;omega) ?_ ?_ (.inr<|An _) ?_ (At _ rfl) ?_ ?_
  ·show(s.heap.push<|fv ys).objs.size < ((s.heap.push<|fv ys).push _).objs.size;simp only[Cz];omega
  ·show s.heap.objs.size < ((s.heap.push<|fv ys).push _).objs.size;rw[Cz,jx];omega
  ·show s.heap.objs.size≠(s.heap.push<|fv ys).objs.size;omega
  ·refine .drawn ys (Ag _<|At _ rfl) ut λj y hy=>?_;have hm:y < es.size:=by
    have:=p.mem_iff.mp<|Au hy
    simpa using this
   rw[Ai,hy];show _=some ((es[y]?).getD (0,Value.none));rw[Dj hm];rfl
  ·have:=p.map λy=>(es[y]?).getD (0,Value.none);rwa[YM]at this
 ·show wpAny _ _ (if(!cH w && (!t.plain && decide (es.size > 1)))=true then _ else _) _ _ _;rw[BL c];refine BJ<|BK ?_;refine BJ<|KQ ho hd T.fits ?_;refine BJ<|CZ<|BK ⟨_,rfl,"set_iterator",_,⟨_,At _ rfl,rfl⟩,slot_next.lookup,?_⟩;have kk:=λws hW hp=>k (s.heap.push<|kY (.int 0 0) 0 a es.size ep) s.drawn s.heap.objs.size a ws (.int 0 0) (λb u e=>Ag _ e) (An _) (by rw[Cz];exact Gg _) (by rw[Cz];exact Cb aY) (.inl rfl) (Bm aY) (At _ rfl) hW hp;cases hb:cH w with
  | true=>exact kk _ (.text 0 hb rfl)<|Oe _ _
  | false=>
   have h1:es.size<=1:=by
    rcases T.plain with q | q
    ·rw[q];simp
    ·rw[hb,q]at c;simp at c;exact c
   refine kk es.toList (.one 0 hb h1 rfl ?_)<|List.Perm.refl _;have x9:=Ou T
   rcases Di es.size 1 with h | h
   ·have:t.place=#[]:=Array.eq_empty_of_size_eq_zero (by omega);rw[this];rfl
   ·obtain⟨j,hj⟩:=Ot (p:=t.place) (by omega);rw[hj,Oq,BL<|Eb _]
def YQ:typeLookup (.type "set") "__len__" = pure (some<|.builtin "set.__len__"):=F.slot_set_len.lookup
def YR{Q:Bool->Shared->Prop}(hT:s.TypeIs (.ref a) "set")(k:Q false s):wpAny (model prog w) A (Builtin.List.listLengthHint<|.ref a) Q E s:=by
 unfold Builtin.List.listLengthHint;refine BJ<|RZ hT YQ ?_
 dsimp only
 have e1:splitId "set.__len__" = some ("set","__len__"):=by kernel_rfl
 rw[e1]
 dsimp only
 refine BJ<|JT hT sub_set_self ?_;simp only[Dx,Bb,CV];rw[BP]
 ·exact BJ<|KH hT<|BK k
 ·decide +kernel
def YS{Q:Ô->Shared->Prop}(hh:A.handled=none)(ho:s.heap.get? a=some o)(hx:o.ExactSet)(hd:o.data = .set es ep t)(T:Tab prog w es t zs)
  (k:∀ s' (acc:List<|Int×Value),(∀ b u,s.heap.get? b=some u->s'.heap.get? b=some u)->s'.gens=s.gens->s'.os=s.os->s.heap.objs.size < s'.heap.objs.size->acc.Perm es.toList->Q (acc.map (·.2)) s'):wpAny (model prog w) A (collect<|.ref a) Q E s:=by
 have aY:a < s.heap.objs.size:=Aq ho;unfold collect;refine BJ<|wpAny_runValue<|FQ F.entry_proto_collect ?_;rw[FN F.plain_proto_collect _];show wpAny _ A.in1 (newList [] >>= λl=>again<|.builtin "list.__iadd__" ⟨[l,.ref a],[]⟩) _ _ s;refine BJ<|JV ?_;refine BK ⟨JD F.plain_list_iadd _,FQ F.entry_list_iadd ?_⟩;rw[FN F.plain_list_iadd _];generalize hL:s.heap.objs.size=L;have mB:(s.heap.push {cls:= .type "list",data:= .seq ([]:Ô).toArray}).get? a=some o:=Ag _ ho;have YT:(s.heap.push {cls:= .type "list",data:= .seq ([]:Ô).toArray}).get? L=some {cls:= .type "list",data:= .seq ([]:Ô).toArray}:=by rw[<- hL];exact At _ rfl
 have hT:Shared.TypeIs {s with heap:=s.heap.push {cls:= .type "list",data:= .seq ([]:Ô).toArray}} (.ref a) "set":=⟨o,mB,hx.1⟩;show wpAny _ A.in1 (Builtin.List.listExtendWith (.ref L) (.ref a)<|.ref L) _ _ _;unfold Builtin.List.listExtendWith;refine BJ<|KH hT ?_;have n1:Builtin.List.listSameRef (.ref L) (.ref a)=false:=by
  have:L≠a:=by rw[<- hL];exact Cp aY
  simp[Builtin.List.listSameRef,this]
 have n2:(Value.type "set" == Value.type "list")=false:=by decide
 have n3:(Value.type "set" == Value.type "tuple")=false:=by decide
 simp only[n1,n2,n3,Bool.or_false,Bb,CV];refine BJ<|YN mB hx hd T λh2 d it tp ws first uv rP hi2 kZ rQ bn gi W p=>?_;have Oy:=uv a o mB;have D6:=uv L _ YT;have mD:(s.heap.push {cls:= .type "list",data:= .seq ([]:Ô).toArray}).objs.size=L+1:=by rw[Cz,hL]
 refine BJ<|CJ<|YR (a:=a) (s:={s with heap:=h2,drawn:=d}) ⟨o,Oy,hx.1⟩ ?_;show wpAny _ A.in1 (rule "list.extend.makes-room" >>= λ_=>Builtin.List.listTouch (.ref L) >>= λ_=>again<|.builtin "list.extend.loop" ⟨[.ref L,.ref it,.ref L],[]⟩) _ _ _;refine BJ<|HD ?_;refine BJ ?_;show wpAny _ A.in1 (updateSeq L (·.push .none) >>= λ_=>updateSeq L (·.pop)) _ _ _;refine BJ<|wpAny_updateSeq D6 rfl ?_;have Oz:=Cu (Obj.mapSeq (·.push Value.none)) D6 rfl;refine wpAny_updateSeq Oz rfl ?_;have YV:=Cu (Obj.mapSeq (·.pop)) Oz rfl;have hV:∀ b u,b≠L->h2.get? b=some u->((h2.update L (Obj.mapSeq (·.push Value.none))).update L (Obj.mapSeq (·.pop))).get? b=some u:=
  λb u hb e=>(Bw _ _<|CG hb).trans<|(Bw _ _<|CG hb).trans e
 have uw:it≠L:=by
  have hZ:L+1<=it:=by rw[<- mD];exact rP
  exact Cp hZ
 have D7:a≠L:=by rw[<- hL];exact Bm aY
 have YW:a≠it:=by
  have hZ:L+1<=it:=by rw[<- mD];exact rP
  intro e;rw[<- hL,<- e]at hZ;exact absurd hZ<|Nat.not_le.mpr<|Cb aY
 have OA:tp≠L:=by
  rcases rQ with h | h
  ·rw[h];exact D7
  ·have h':L+1<=tp:=by rw[<- mD];exact h
   exact Cp h'
 have nN:L∉[it,a,tp]:=by
  intro h
  rcases Aj.mp h with h | h
  ·exact uw h.symm
  ·rcases Aj.mp h with h | h
   ·exact D7 h.symm
   ·exact OA (Ad.mp h).symm
 refine BK ⟨JD F.plain_extend_loop _,codeAny_extend_loopS ((YL (by simp[hh]) YW bn hd T p).toS) (jY<|Cb T.ft) L nN (.ref L) es.size 0 _ _ _ rfl (Bz _) ⟨first,hV it _ uw gi,hV a _ D7 Oy,W.keep λu e=>hV tp u OA e⟩ YV (ItemsOf.nil _) λs' acc c m OB hI=>?_⟩;show wpAny _ A (load L >>= _) _ _ s';refine BJ<|wpAny_load OB ?_;have wl:ws.length=es.size:=by simpa using p.length_eq
 have el:acc.toList=ws.map (·.2):=by
  refine Ds λj=>?_;rw[Bs,Ai];cases hj:acc[j]? with
  | none=>
   have:ws[j]?=none:=by
    rw[Bf];rw[wl,<- hI.1];exact Array.getElem?_eq_none_iff.mp hj
   rw[this];rfl
  | some v=>
   obtain⟨e,h1,h2⟩:=hI.2 j v hj;rw[h1,h2];rfl
 refine BK ?_;rw[el];refine k s' ws (λb u e=>?_) m.gens m.os (by rw[hL];exact Aq OB) p;have hb:b < s.heap.objs.size:=Aq e;have OC:b≠L:=by rw[<- hL];exact Bm hb
 have D4:b≠it:=by
  intro q;have hZ:L+1<=it:=by rw[<- mD];exact rP
  rw[<- hL,<- q]at hZ;exact absurd hZ<|Nat.not_le.mpr<|Cb hb
 refine m.heap b u (λh=>?_)<|hV b u OC<|uv b u<|Ag _ e
 rcases Aj.mp h with h | h
 ·exact OC h
 ·exact D4<|Ad.mp h
end
end bF
namespace bF
open PySem PySem.Spec PyProof.Rows
def YX(a b:List Nat):ltCps a b=decide (a < b):=ltCps_eq a b
theorem dS:∀(l:Ò) (p:Str),risingS p l=true->∀ x∈l,p.cps.toList<=x.cps.toList
 | [],_,_,x,hx=>by cases hx
 | y :: r,p,h,x,hx=>by
  unfold risingS at h;rw[Bn,KY,YX,GZ]at h;have h1:p.cps.toList<=y.cps.toList:=h.1
  rcases Aj.mp hx with rfl | hx
  ·exact h1
  ·exact List.le_trans h1<|dS r y h.2 x hx
theorem eS{p:Str}:∀{l:Ò},risingS p l=true->sortedS l=true
 | [],_=>rfl
 | y :: r,h=>by
  unfold risingS at h;rw[Bn]at h;exact h.2
def fw{a b:Str}(h:a.cps.toList=b.cps.toList):a=b:=by
 cases a;cases b;simp only at h;have:=Array.toList_inj.mp h;rw[this]
theorem OG{prog:Program}{w:World}:∀(l:List<|Int×Value),(∀ e∈l,nQ prog w e)->StrsAre (l.map (·.2)) (l.map keyOf)
 | [],_=> .nil
 | e :: r,h=>by
  obtain⟨z,t,rfl⟩:=h e Ae;exact .cons z t<|OG r λx hx=>h x<|Ah _ hx
section
variable{prog:Program}{w:World}{A:Around}{E:Ï}{s:Shared}{a:Addr}{zs:Ò}
def YY{Q:Ï}(hh:A.handled=none)(S:az prog w s.heap a zs)(pG:zs.length < 64)
  (k:∀(s':Shared) (l:Addr) (out:Array Value) (e:Nat) (ss:Ò),(∀ b u,s.heap.get? b=some u->s'.heap.get? b=some u)->s'.gens=s.gens->s'.os=s.os->s.heap.objs.size<=l->s'.heap.get? l=some (seqObj "list" out e)->StrsAre out.toList ss->ss.Perm zs->sortedS ss=true->Q (.ref l) s') :
  wpAny (model prog w) A (call (.builtin "sorted") [.ref a]) Q E s:=by
 obtain⟨o,es,ep,t,ho,hx,hd,T⟩:=S;refine Calls.call_function_entry kind_sorted plain_sorted entry_sorted (args_sorted1 _) ?_;unfold Builtin.«sorted»;refine BJ (m:=checkCount "sorted" 1 1 _)<|BK ?_;refine BJ (YS (by simp[hh]) ho hx hd T λs1 acc kp g1 o1 z1 p=>?_);have hS:=OG (prog:=prog) (w:=w) acc λe he=>T.elts e<|p.mem_iff.mp he;have hlen:(acc.map (·.2)).length=zs.length:=by
  rw[Aa,p.length_eq,Bq,T.size]
 refine BJ (JV ?_<|by rw[hlen];exact jY<|by omega);have jt:(s1.heap.push (seqObj "list" (acc.map (·.2)).toArray 0)).get? s1.heap.objs.size=some (seqObj "list" (acc.map (·.2)).toArray 0):=At _ rfl;have hsz:s.heap.objs.size<=s1.heap.objs.size:=Co z1;refine BJ (CJ<|DG slot_list_sort ⟨_,jt,rfl⟩ entry_list_sort (list_sort_treeK strKind_oneLt jt hS.keysOf (λv₁ Î rest e=>keyKind_strs<|by rw[<- e];exact hS) (by rw[hlen];exact pG) λdC a1 a2=>⟨_,rfl,?_⟩)<|args_list_sort _);obtain⟨ss,q1,q2,q3⟩:=sorted_out_str hS a1 a2;obtain⟨e,he⟩:=sortedHeap_at (out:=(arrOf dC).map (·.2)) jt;refine BK ⟨_,rfl,k _ _ _ e ss (λb u hb=>?_) g1 o1 hsz he q1 (q2.trans<|(p.map keyOf).trans T.keys) q3⟩;have rR:=kp b u hb;have aY:=Aq rR;show(sortedHeap (s1.heap.push _) s1.heap.objs.size _ _).get? b=some u;rw[sortedHeap_old (Bm aY)<|by rw[size_push'];exact Cb aY];exact Ag _ rR
end
end bF
namespace L2
open PySem PySem.Spec PyProof.Rows bF
def bb(prog:Program)(w:World)(a:Addr)(zs:Ò):HO:= .ext λh=>az prog w h a zs
section
variable{X:Cx}{pins:Ñ}{σ:St}{H:Hp}{s s':Shared}{a:Addr}{zs:Ò}
def Inv.like(I:Inv X pins σ H s)(e1:s'.heap=s.heap)(e2:s'.gens=s.gens)(e3:s'.os=s.os):Inv X pins σ H s':=by
 obtain⟨h,g,d,t,o⟩:=s;obtain⟨h',g',d',t',o'⟩:=s';simp only at e1 e2 e3;subst e1 e2 e3;exact⟨I.ok,I.os,I.bare,I.base,I.loc,I.cell,I.free,I.bz,I.pin,I.aE,I.len⟩
def Inv.e9{o:HO}(I:Inv X pins σ H s)(k:∀ b u,s.heap.get? b=some u->s'.heap.get? b=some u)(e2:s'.gens=s.gens)(e3:s'.os=s.os)(hp:s.heap.objs.size<=a)(new:aB X.prog X.w (upd H a o) s'.heap a o):Inv X pins σ (upd H a o) s':=
 (I.laid (t':=s.toks) k hp new).like (s':=s') rfl e2 e3
def rS{h:Heap}(S:az X.prog X.w h a zs):aB X.prog X.w H h a (bb X.prog X.w a zs):=by
 refine⟨S,?_,λh1 h2 q k=>q.keep k⟩;obtain⟨o,_,_,_,ho,_⟩:=S;exact⟨o,ho⟩
def Inv.set(I:Inv X pins σ H s)(h:H a=some (bb X.prog X.w a zs)):az X.prog X.w s.heap a zs:=(I.aE a _ h).1
theorem OH:∀{zs:Ò} {us:Ô},ay (zs.map V.str) us->∀(i:Nat) v,us[i]?=some v->∃ z t,zs[i]?=some z/\v=Value.str z t
 | [],_,.nil,i,v,h=>by simp at h
 | z :: r,_,.cons q qs,0,v,h=>by
  obtain⟨t,e⟩:=q;simp at h;exact⟨z,t,rfl,h ▸ e⟩
 | z :: r,_,.cons q qs,i+1,v,h=>by
  simp only[Fx]at h ⊢;exact OH qs i v h
theorem D8:∀{zs:Ò} {us:Ô},ay (zs.map V.str) us->StrsAre us zs
 | [],_,.nil=> .nil
 | z :: r,_,.cons q qs=>by
  obtain⟨t,rfl⟩:=q;exact .cons z t<|D8 qs
theorem D9:∀{us:Ô} {zs:Ò},StrsAre us zs->ay (zs.map V.str) us
 | _,_,.nil=> .nil
 | _,_,.cons z t q=> .cons ⟨t,rfl⟩<|D9 q
def OI(hc:X.calm=true):eZ X (.type "set") (λxs H Q=>∃ p zs,xs=[.ref p]/\aq X.K H p (zs.map V.str)/\zs.length < 900/\∀ a,H a=none->Q (.ref a) (upd H a<|bb X.prog X.w a<|made zs)):=by
 intro pins s σ H xs us Q I r h;obtain⟨p,zs,rfl,hp,hl,q⟩:=h;obtain⟨u,rfl,ru⟩:=vals1 r;cases (show u=Value.ref p from ru);obtain⟨its,rv,pl,hz⟩:=I.list hp;have e1:=rv.length;rw[Aa]at e1;refine Yx (I.ok.hd hc) pl.isList (λi v hv=>OH rv i v<|by simpa using hv) (by simpa using e1) (by simp;omega) λh' tk kp S=>?_;exact⟨.ref _,_,I.e9 (s':={s with heap:=h',toks:=tk}) kp rfl rfl (An _) (rS S),rfl,q _<|I.aE.fresh<|An _⟩
def YZ:cK X (binaryOp .BitXor) (λx y H Q=>∃ a b za zb,x = .ref a/\y = .ref b/\H a=some (bb X.prog X.w a za)/\H b=some (bb X.prog X.w b zb)/\za.length < 64/\zb.length < 64 /\
  ∀ c zc,H c=none->zc.Nodup->(∀ y,y∈zc↔(if y∈za then y∉zb else y∈zb))->Q (.ref c) (upd H c<|bb X.prog X.w c zc)):=by
 intro pins s σ H x y v u Q I rx ry h;obtain⟨a,b,za,zb,rfl,rfl,ha,hb,la,lb,q⟩:=h;cases rx;cases ry;refine Yq (I.set ha) (I.set hb) la lb λh' d zc kp S m=>?_;exact⟨.ref _,_,I.e9 (s':={s with heap:=h',drawn:=d}) kp rfl rfl (An _) (rS S),rfl,q _ zc (I.aE.fresh<|An _) S.nodup m⟩
def OL(hc:X.calm=true):eZ X (.builtin "sorted") (λxs H Q=>∃ p zs,xs=[.ref p]/\H p=some (bb X.prog X.w p zs)/\zs.length < 64/\∀ l ss,H l=none->ss.Perm zs->sortedS ss=true->Q (.ref l) (upd H l<|.lst<|ss.map V.str)):=by
 intro pins s σ H xs us Q I r h;obtain⟨p,zs,rfl,hp,hl,q⟩:=h;obtain⟨u,rfl,ru⟩:=vals1 r;cases (show u=Value.ref p from ru);refine YY (I.ok.hd hc) (I.set hp) hl λs' l out e ss kp e2 e3 rP he hS jc mE=>?_;have hlen:ss.length<=sizeLine:=by rw[jc.length_eq];exact jY<|by omega
 refine⟨.ref _,_,I.e9 (s':=s') kp e2 e3 rP (show aB X.prog X.w _ s'.heap l (.lst<|ss.map V.str) from⟨by rw[Aa];exact hlen,out.toList,e,D9 hS,he⟩),rfl,q _ ss (I.aE.fresh rP) jc mE⟩
def ya:eZ X (.builtin "sorted") (λxs H Q=>∃ p zs,xs=[.ref p]/\aq X.K H p (zs.map V.str)/\zs.length < 64/\∀ l ss,H l=none->ss.Perm zs->sortedS ss=true->Q (.ref l) (upd H l<|.lst<|ss.map V.str)):=by
 intro pins s σ H xs us Q I r h;obtain⟨p,zs,rfl,hp,hl,q⟩:=h;obtain⟨u,rfl,ru⟩:=vals1 r;cases (show u=Value.ref p from ru);obtain⟨its,rv,pl,hz⟩:=I.list hp;have e1:=rv.length;rw[Aa]at e1;refine PyProof.Rows.sorted_strs pl.isList (D8 rv) (by omega) λout ss hS jc mE=>?_;obtain⟨e,he⟩:=sortedAll_at s.heap its out;have hlen:ss.length<=sizeLine:=by rw[jc.length_eq];exact jY<|by omega
 refine⟨.ref _,_,I.e9 (s':={s with heap:=sortedAll s.heap its out}) (λb u hb=>sortedAll_old hb) rfl rfl (Ek _) (show aB X.prog X.w _ _ _ (.lst<|ss.map V.str) from⟨by rw[Aa];exact hlen,out.toList,e,D9 hS,he⟩),rfl,q _ ss (I.aE.fresh<|Ek _) jc mE⟩
end
end L2
namespace L2
open PySem PySem.Spec PyProof.Rows
section
variable{X:Cx}{o e:Expr}{σ:St}{H:Hp}{Q:VK}{ap cp:Pos}
def j4 (h:Ev X o σ H λx H1=>∃ l,x = .ref l/\(∃ xs,H1 l=some (.lst xs))/\Ev X e σ H1 λy H2=>∃ xs,H2 l=some (.lst xs)/\xs.length < sizeLine/\Q .non (upd H2 l<|.lst<|xs++[y]))
  (bP:attributeBase o "append" X.env (eval o X.env)=eval o X.env:=by rfl)
  (cG:((backTo cp<|starEach [e] X.env).all (λx=>!x.1) && (backToKw cp<|keywordEach [] X.env).all (λx=>x.1.isSome) && decide ([e].length+([]:List Keyword).length+(if([]:List Keyword).isEmpty then 0 else 1) < 30))=true:=by rfl)
  (hline:(ap.endLine == cp.line)=true:=by rfl) (hs:starEach [e] X.env=(false,eval e X.env) :: starEach [] X.env:=by rfl) (bX:(backTo cp<|starEach [] X.env).any (·.1)=false:=by rfl) (cn:isStar e=false:=by rfl) :
  Ev X (.Call (.Attribute o "append" ap) [e] [] cp) σ H Q:=by
 refine cV (BH FJ PySem.F.slot_list_append PySem.F.type_list_append M5 bv (i0 (es:=[e])) bP cG hline hs bX)<|h.mono λx H1 ⟨l,ex,⟨xs,hl⟩,h2⟩=>?_;subst ex;refine⟨.inl ⟨rfl,xs,aq.of hl⟩,?_⟩;exact ah (h2.mono λy H2 ⟨ys,hy,hz,q⟩=>ax ⟨l,ys,y,rfl,rfl,hy,hz,q⟩) cn
end
section
variable{X:Cx}{c:Expr}{body kR rest:Ö}{D:Ends}{σ:St}{H:Hp}{pos:Pos}
def Run.nx{M M':St->Hp->Prop}{l:Ö}(h:Run X l {D with nx:=M} σ H)(f:∀ σ' H',M σ' H'->M' σ' H'):Run X l {D with nx:=M'} σ H:=
 ⟨λpins s I => aN (h.run pins s I) λfl s' q => by
  cases fl with
  | next=>
   obtain⟨σ',H',I',m⟩:=q;exact⟨σ',H',I',f σ' H' m⟩
  | _=>exact q⟩
def OM(φ ψ:Prop)(M:St->Hp->Prop)(hc:∀ T:Bool->Hp->Prop,(∀ k:Bool,(k=true->φ)->(k=false->ψ)->T k H)->Et X c σ H T)(ht:φ->Run X body {D with nx:=M} σ H)(hu:ψ->Run X kR {D with nx:=M} σ H)
  (hr:∀ σ' H',M σ' H'->Run X rest D σ' H'):Run X (.If c body kR pos :: rest) D σ H:=
 Nz φ ψ hc (λp=>(ht p).nx hr) (λp=>(hu p).nx hr)
end
def j5(X:Cx)(H:Hp)(k:Nat)(x y:V)(b:Bool):Prop:=∀(pins:Ñ) (σ:St) (s:Shared) (A:Around) (u v:Value),Inv X pins σ H s->A.units+k < cLine->RelV x u->RelV y v->SeqAt.EqAt A s u v b
def mF(X:Cx)(H:Hp)(k:Nat)(x y:V)(b:Bool):Prop:=∀(pins:Ñ) (σ:St) (s:Shared) (A:Around) (u v:Value),Inv X pins σ H s->A.units+k < cLine->RelV x u->RelV y v->SeqAt.RcAt A s u v b
def rT(X:Cx)(H:Hp)(k:Nat)(x y:V)(b:Bool):Prop:=∀(pins:Ñ) (σ:St) (s:Shared) (A:Around) (u v:Value),Inv X pins σ H s->A.units+k < cLine->RelV x u->RelV y v->SeqAt.RcNeAt A s u v (!b)
section
variable{X:Cx}{H:Hp}{k:Nat}{a b:Addr}{xs ys:List V}
def uz{x y:V}(fx:jP x=true)(fy:jP y=true):j5 X H k x y (cM x y):=λ_ _ _ _ _ _ _ _ rx ry=>MZ rx ry fx fy
def Y0:j5 X H k (.ref a) (.ref a) true:=λ_ _ _ _ u v _ _ rx ry=>by
 cases rx;cases ry;exact SeqAt.EqAt.same _
def Y1(bn:a≠b){c:Bool}(h:mF X H k (.ref a) (.ref b) c):j5 X H k (.ref a) (.ref b) c:=λpins σ s A u v I hu rx ry=>by
 cases rx;cases ry;exact SeqAt.EqAt.of_refs bn<|h pins σ s A _ _ I hu rfl rfl
def nS{us:Ô}(r:ay xs us){j:Nat}(h:j < us.length):∃ x,xs[j]?=some x/\RelV x us[j]:=by
 have hl:=r.length;have hj:j < xs.length:=by omega
 obtain⟨u,e,q⟩:=r.get<|Ab hj;rw[Ab h]at e;cases e;exact⟨_,Ab hj,q⟩
def OO(e:Nat->Bool)(ha:aq X.K H a xs)(hb:aq X.K H b ys)(hl:xs.length=ys.length)(he:∀ j x y,xs[j]?=some x->ys[j]?=some y->j5 X H k x y (e j)):mF X H (k+1) (.ref a) (.ref b) ((List.range xs.length).all e):=λpins σ s A u v I hu rx ry=>by
 cases rx;cases ry;obtain⟨i1,r1,p1,_⟩:=I.list ha;obtain⟨i2,r2,p2,_⟩:=I.list hb;have l1:=r1.length;have l2:=r2.length;have q:=SeqAt.RcAt.lists (A:=A) (e:=e) p1.isList p2.isList (by simp;omega) (by omega) λj h1 h2=>by
  obtain⟨x,ex,qx⟩:=nS r1 (j:=j) (by simpa using h1);obtain⟨y,ey,qy⟩:=nS r2 (j:=j) (by simpa using h2);exact he j x y ex ey pins σ s A.in1 _ _ I (by show A.units+1+k < cLine;omega) (by simpa using qx)<|by simpa using qy
 rw[Aw,<- l1]at q;exact q
def EA(e:Nat->Bool)(ha:aq X.K H a xs)(hb:aq X.K H b ys)(hl:xs.length=ys.length)(he:∀ j x y,xs[j]?=some x->ys[j]?=some y->j5 X H k x y (e j)):rT X H (k+1) (.ref a) (.ref b) ((List.range xs.length).all e):=λpins σ s A u v I hu rx ry=>by
 cases rx;cases ry;obtain⟨i1,r1,p1,_⟩:=I.list ha;obtain⟨i2,r2,p2,_⟩:=I.list hb;have l1:=r1.length;have l2:=r2.length;have q:=SeqAt.RcNeAt.lists (A:=A) (e:=e) p1.isList p2.isList (by simp;omega) (by omega) λj h1 h2=>by
  obtain⟨x,ex,qx⟩:=nS r1 (j:=j) (by simpa using h1);obtain⟨y,ey,qy⟩:=nS r2 (j:=j) (by simpa using h2);exact he j x y ex ey pins σ s A.in1 _ _ I (by show A.units+1+k < cLine;omega) (by simpa using qx)<|by simpa using qy
 rw[Aw,<- l1]at q;exact q
def x0d(ha:aq X.K H a xs)(hb:aq X.K H b ys)(hl:xs.length≠ys.length):mF X H k (.ref a) (.ref b) false:=λpins σ s A u v I hu rx ry=>by
 cases rx;cases ry;obtain⟨i1,r1,p1,_⟩:=I.list ha;obtain⟨i2,r2,p2,_⟩:=I.list hb;have l1:=r1.length;have l2:=r2.length;exact SeqAt.RcAt.lists_lengths p1.isList p2.isList (by simp;omega)<|by omega
def EB(ha:aq X.K H a xs)(hb:aq X.K H b ys)(hl:xs.length≠ys.length):rT X H k (.ref a) (.ref b) false:=λpins σ s A u v I hu rx ry=>by
 cases rx;cases ry;obtain⟨i1,r1,p1,_⟩:=I.list ha;obtain⟨i2,r2,p2,_⟩:=I.list hb;have l1:=r1.length;have l2:=r2.length;exact SeqAt.RcNeAt.lists_lengths p1.isList p2.isList (by simp;omega)<|by omega
def OQ(e:Nat->Bool)(ha:aJ X.K H a xs)(hb:aJ X.K H b ys)(hl:xs.length=ys.length)(he:∀ j x y,xs[j]?=some x->ys[j]?=some y->j5 X H k x y (e j)):mF X H (k+1) (.ref a) (.ref b) ((List.range xs.length).all e):=λpins σ s A u v I hu rx ry=>by
 cases rx;cases ry;obtain⟨i1,r1,p1,_⟩:=I.tuple ha;obtain⟨i2,r2,p2,_⟩:=I.tuple hb;have l1:=r1.length;have l2:=r2.length;have q:=SeqAt.RcAt.tuples (A:=A) (e:=e) p1 p2 (by omega) λj h1 h2=>by
  obtain⟨x,ex,qx⟩:=nS r1 (j:=j) (by simpa using h1);obtain⟨y,ey,qy⟩:=nS r2 (j:=j) (by simpa using h2);exact he j x y ex ey pins σ s A.in1 _ _ I (by show A.units+1+k < cLine;omega) (by simpa using qx)<|by simpa using qy
 rw[Aw,Aw,<- l1,<- l2,hl,Nat.min_self,<- hl]at q
 simpa using q
def EC(n:Nat):(List.range n).all (λ_=>true)=true:=by simp
def OS(hu:X.A.units+100 < cLine):cK X (compareOp .Eq) (λx y H Q=>∃ k c,k<=100/\mF X H k x y c/\Q (.bl c) H):=by
 intro pins s σ H x y v u Q I rx ry h;obtain⟨k,c,hk,hc,q⟩:=h;exact hc pins σ s X.A v u I (by omega) rx ry X.prog X.w X.xe _ ⟨.bl c,H,I,rfl,q⟩
def uA(hu:X.A.units+100 < cLine):cK X (compareOp .NotEq) (λx y H Q=>∃ k c,k<=100/\rT X H k x y c/\Q (.bl (!c)) H):=by
 intro pins s σ H x y v u Q I rx ry h;obtain⟨k,c,hk,hc,q⟩:=h;exact hc pins σ s X.A v u I (by omega) rx ry X.prog X.w X.xe _ ⟨.bl (!c),H,I,rfl,q⟩
def OT(e:Nat->Bool)(ha:aJ X.K H a xs)(hb:aJ X.K H b ys)(hl:xs.length=ys.length)(he:∀ j x y,xs[j]?=some x->ys[j]?=some y->j5 X H k x y (e j)):rT X H (k+1) (.ref a) (.ref b) ((List.range xs.length).all e):=λpins σ s A u v I hu rx ry=>by
 cases rx;cases ry;obtain⟨i1,r1,p1,_⟩:=I.tuple ha;obtain⟨i2,r2,p2,_⟩:=I.tuple hb;have l1:=r1.length;have l2:=r2.length;have q:=SeqAt.RcNeAt.tuples (A:=A) (e:=e) p1 p2 (by omega) λj h1 h2=>by
  obtain⟨x,ex,qx⟩:=nS r1 (j:=j) (by simpa using h1);obtain⟨y,ey,qy⟩:=nS r2 (j:=j) (by simpa using h2);exact he j x y ex ey pins σ s A.in1 _ _ I (by show A.units+1+k < cLine;omega) (by simpa using qx)<|by simpa using qy
 rw[Aw,Aw,<- l1,<- l2,hl,Nat.min_self,<- hl]at q
 simpa using q
end
section
variable{X:Cx}{o e f c:Expr}{σ:St}{H:Hp}{Q:VK}{T:Bool->Hp->Prop}{ap cp pos:Pos}{body rest:Ö}{D:Ends}
def Y2{name:Str}{Ty id:String}{r:V->List V->Hp->VK->Prop}(pa:PlainAttrs Ty)(slot:Slot Ty name id)(lR:typeOf (.builtin id)=pure (.type "method_descriptor"))(hm:t6 X id r)
  (h:Ev X o σ H λx H1=>lQ X.K Ty x H1/\r x [] H1 Q) (bP:attributeBase o name X.env (eval o X.env)=eval o X.env:=by rfl) (hline:(ap.endLine == cp.line)=true:=by rfl):Ev X (.Call (.Attribute o name ap) [] [] cp) σ H Q:=
 cV (Wv pa slot lR hm bv bP hline) h
def ED{name:Str}{Ty id:String}{r:V->List V->Hp->VK->Prop}(pa:PlainAttrs Ty)(slot:Slot Ty name id)(lR:typeOf (.builtin id)=pure (.type "method_descriptor"))(hm:t6 X id r)
  (h:Ev X o σ H λx H1=>lQ X.K Ty x H1/\Ev X e σ H1 λy H2=>r x [y] H2 Q) (bP:attributeBase o name X.env (eval o X.env)=eval o X.env:=by rfl)
  (cG:((backTo cp<|starEach [e] X.env).all (λx=>!x.1) && (backToKw cp<|keywordEach [] X.env).all (λx=>x.1.isSome) && decide ([e].length+([]:List Keyword).length+(if([]:List Keyword).isEmpty then 0 else 1) < 30))=true:=by rfl)
  (hline:(ap.endLine == cp.line)=true:=by rfl) (hs:starEach [e] X.env=(false,eval e X.env) :: starEach [] X.env:=by rfl) (bX:(backTo cp<|starEach [] X.env).any (·.1)=false:=by rfl) (cn:isStar e=false:=by rfl):Ev X (.Call (.Attribute o name ap) [e] [] cp) σ H Q:=
 cV (BH pa slot lR hm bv (i0 (es:=[e])) bP cG hline hs bX) (h.mono λx H1 ⟨t,h2⟩=>⟨t,ah (h2.mono λy H2 q=>ax q) cn⟩)
def EE{name:Str}{Ty id:String}{r:V->List V->Hp->VK->Prop}(pa:PlainAttrs Ty)(slot:Slot Ty name id)(lR:typeOf (.builtin id)=pure (.type "method_descriptor"))(hm:t6 X id r)
  (h:Ev X o σ H λx H1=>lQ X.K Ty x H1/\Ev X e σ H1 λy H2=>Ev X f σ H2 λz H3=>r x [y,z] H3 Q) (bP:attributeBase o name X.env (eval o X.env)=eval o X.env:=by rfl)
  (cG:((backTo cp<|starEach [e,f] X.env).all (λx=>!x.1) && (backToKw cp<|keywordEach [] X.env).all (λx=>x.1.isSome) && decide ([e,f].length+([]:List Keyword).length+(if([]:List Keyword).isEmpty then 0 else 1) < 30))=true:=by rfl)
  (hline:(ap.endLine == cp.line)=true:=by rfl) (hs:starEach [e,f] X.env=(false,eval e X.env) :: starEach [f] X.env:=by rfl) (bX:(backTo cp<|starEach [f] X.env).any (·.1)=false:=by rfl) (cn:isStar e=false:=by rfl) (Y3:isStar f=false:=by rfl):Ev X (.Call (.Attribute o name ap) [e,f] [] cp) σ H Q:=
 cV (BH pa slot lR hm bv (i0 (es:=[e,f])) bP cG hline hs bX) (h.mono λx H1 ⟨t,h2⟩=>⟨t,ah (h2.mono λy H2 h3=>ah (h3.mono λz H3 q=>ax q) Y3) cn⟩)
def insertAt(xs:List V)(i:Nat)(y:V):List V:=xs.take i++y :: xs.drop i
def Y4:V->List V->Hp->VK->Prop:=λx vs H Q=>∃ l xs i y,x = .ref l/\vs=[.int i,y]/\H l=some (.lst xs)/\0<=i/\i.toNat<=xs.length/\xs.length < sizeLine/\Q .non (upd H l<|.lst<|insertAt xs i.toNat y)
def Y5{i:Int}(h0:0<=i)(h:i<=16777216):¬(!Builtin.List.listFitsIndex i)=true:=by
 have e:Builtin.List.listFitsIndex i=true:=by
  unfold Builtin.List.listFitsIndex;rw[Bn,DW,DW];omega
 rw[e];exact Av
def OU:o9 X "list.insert" Y4:=by
 intro pins s σ H x vs v us Q I rx rv h;obtain⟨l,xs,i,y,rfl,rfl,hH,h0,hi,hz,q⟩:=h;cases rx;obtain⟨u,w',rfl,ru,d9⟩:=rv.two;obtain⟨tk,rfl⟩:=ru;obtain⟨z,its,n,r,hl,e⟩:=I.f9 hH;have hs:sizeLine=16777216:=EY;have z2:its.toArray.size<=sizeLine:=by rw[Aw,<- hl];exact z
 have mm:=AutoSeq1.list_insert_list_int_val_1 l its.toArray n i tk w' (Y5 h0<|by omega) z2;refine OD F.slot_list_insert ⟨_,e,rfl⟩ F.entry_list_insert (F.args_list_insert_3 _ _ _) mm ⟨e,?_⟩;have ef:(λxs:Array Value=>have k:=if i < 0 then(i+(xs.size:Int)).toNat else min i.toNat xs.size;(xs.extract 0 k).push w'++xs.extract k) its.toArray=(its.take i.toNat++w' :: its.drop i.toNat).toArray:=by
  have hn:¬ i < 0:=by omega
  have hm:min i.toNat its.length=i.toNat:=by omega
  simp only[hn,CV,Aw,hm];apply Array.ext';simp;exact Cq<|by simp
 refine⟨.non,_,I.jQ (its':=its.take i.toNat++w' :: its.drop i.toNat) hH e ef ((r.take i.toNat).append<|.cons d9<|r.drop i.toNat) ?_,rfl,q⟩;rw[Af,Ap,Bk,Dh];omega
def Y6:V->List V->Hp->VK->Prop:=λx vs H Q=>∃ a kvs k y,x = .ref a/\vs=[kV k,y]/\H a=some (.dK kvs)/\kvs.length < sizeLine /\
 ((∃ v,aD kvs k=some v/\Q v H)\/(aD kvs k=none/\Q y (upd H a<|.dK<|putK kvs k y)))
def Y7:o9 X "dict.setdefault" Y6:=by
 intro pins s σ H x vs v us Q I rx rv h;obtain⟨a,kvs,k,y,rfl,rfl,hH,hz,q⟩:=h;cases rx;obtain⟨u,w',rfl,ru,d9⟩:=rv.two;obtain⟨z,hd,rs,rel,dd⟩:=uf I.aE hH;have hl:=rel.length;refine call_meetsIn F.slot_dict_setdefault dd.typeIs F.entry_dict_setdefault (F.args_dict_setdefault_3 _ _ _) (kt_meets_setdefault (dj X.prog X.w) a (nI ru) hd w') ⟨rs,dd,by omega,λv hv=>?_,λhn h' iY hs=>?_⟩
 ·have gQ:=rel.val k;rw[hv]at gQ
  rcases q with ⟨v',e',q⟩ | ⟨e',_⟩
  ·rw[e']at gQ;exact⟨v',H,I.tok _,gQ,q⟩
  ·rw[e']at gQ;exact gQ.elim
 ·have gQ:=rel.val k;rw[hn]at gQ
  rcases q with ⟨v',e',_⟩ | ⟨e',q⟩
  ·rw[e']at gQ;exact gQ.elim
  ·have he:∃ q,h'.get? a=some q:=let ⟨q,_,_,hq,_⟩:=iY;⟨q,hq⟩
   have iW:(putK kvs k y).length<=sizeLine:=by have:=iB kvs k y;omega
   exact⟨y,_,lW I (by rw[hH];exact True.intro) hs he<|B4 iW hd (rel.put k d9) iY,d9,q⟩
def OV:eZ X (.type "int") (λxs H Q=>∃ b:Bool,xs=[.bl b]/\Q (.int (if b then 1 else 0)) H):=by
 intro pins s σ H xs us Q I r h;obtain⟨b,rfl,q⟩:=h;obtain⟨u,rfl,ru⟩:=vals1 r;cases (show u=Value.bool b from ru);exact call_int_bool ⟨.int (if b then 1 else 0),H,I.tok _,⟨_,rfl⟩,q⟩
def yb{kR:Ö}(Φ:Bool->Hp->Prop)(M:St->Hp->Prop)(hc:Et X c σ H Φ)(ht:∀ H1,Φ true H1->Run X body {D with nx:=M} σ H1)(hu:∀ H1,Φ false H1->Run X kR {D with nx:=M} σ H1)
  (hr:∀ σ' H',M σ' H'->Run X rest D σ' H'):Run X (.If c body kR pos :: rest) D σ H:=
 c9 (hc.mono λk H1 p=>by
  cases k with
  | true=>rw[BP rfl];exact(ht H1 p).nx hr
  | false=>rw[BL Av];exact(hu H1 p).nx hr)
theorem yc(W:Nat->St->Hp->Prop){m0:Nat}(h0:W m0 σ H)
  (turn:∀ m σ H,W m σ H->Et X c σ H λb H1=>if b=true then Run X body {D with nx:=λσ' H'=>∃ m',m' < m/\W m' σ' H',ct:=λσ' H'=>∃ m',m' < m/\W m' σ' H',bk:=λσ' H'=>Run X rest D σ' H'} σ H1 else Run X rest D σ H1)
  (hp:PassesOwn (model X.prog X.w) X.A X.env X.xe:=by exact OJ):Run X (.While c body [] pos :: rest) D σ H:=by
 refine ju (VE hp lX pj) ⟨W,⟨m0,h0⟩,λm σ1 H1 w1=>(turn m σ1 H1 w1).mono λb H2 q=>?_⟩;cases b with
 | true=>
  rw[BP rfl]at q;exact⟨λσ' H'=>∃ m',m' < m/\W m' σ' H',λ_ _ h=>h,q⟩
 | false=>
  rw[BL Av]at q;exact q
def EF(h:∀ p,H p=none->Q (.ref p) (upd H p<|.dK [])):Ev X (.Dict [] [] pos) σ H Q:=cV W9 h
def Y8(h:∀ p,H p=none->Q (.ref p) (upd H p<|.dT [])):Ev X (.Dict [] [] pos) σ H Q:=cV W' h
def gR(hu:X.A.units+1 < cLine)(h:Ev X o σ H λx H1=>Ev X e σ H1 λy H2=>∃ a v,x = .ref a/\a8 H2 a y (some v)/\Q v H2)(hs:pc e:=by intro _ _;rfl):Ev X (.Subscript o e pos) σ H Q:=cV (W3 hu bv bv hs) h
def OW(hu:X.A.units+1 < cLine)(h:Ev X e σ H λy H1=>Ev X o σ H1 λx H2=>∃ a r,x = .ref a/\a8 H2 a y r/\T r.isSome H2)(hm:behindInMarks .In o=false:=by with_unfolding_all rfl):Et X (.Compare e [.In] [o] pos) σ H T:=
 rD (Mk (W4 hu bv bv) hm) (h.mono λy H1 h2=>h2.mono λx H2 ⟨a,r,h3,h4,h5⟩=>⟨a,r,h3,h4,_,rfl,h5⟩)
def OX(hu:X.A.units+1 < cLine)(h:Ev X e σ H λy H1=>Ev X o σ H1 λx H2=>∃ a r,x = .ref a/\a8 H2 a y r/\T (!r.isSome) H2)(hm:behindInMarks .NotIn o=false:=by with_unfolding_all rfl):Et X (.Compare e [.NotIn] [o] pos) σ H T:=
 rD (Mk (W5 hu bv bv) hm) (h.mono λy H1 h2=>h2.mono λx H2 ⟨a,r,h3,h4,h5⟩=>⟨a,r,h3,h4,_,rfl,h5⟩)
def uB{p2:Pos}(hu:X.A.units+1 < cLine)(h:Ev X f σ H λv H1=>Ev X o σ H1 λx H2=>Ev X e σ H2 λy H3=>∃ a H4,x = .ref a/\bZ H3 a y v H4/\Run X rest D σ H4)(hs:swapsWith f (some<|.Subscript o e p2) pos.line X.env=pure false:=by rfl) :
  Run X (.Assign [.Subscript o e p2] f pos :: rest) D σ H:=ju (W6 hu bv bv bv hs) h
end
end L2
namespace bA
open PySem PySem.Spec PyProof.Rows
def lexLt(a b:Int×Int):Bool:=if a.1=b.1 then decide (a.2 < b.2)else decide (a.1 < b.1)
def Y9(b:Bool)(x y:Value):keyLt' (tuples' b) x y=(do
  let xs <- Builtin.List.listItems x
  let ys <- Builtin.List.listItems y
  for ((p,q),i) in (xs.toList.zip ys.toList).zipIdx do
   if !(<- eqBool p q)then return <- oneLt' (b && i == 0) p q
  return xs.size < ys.size):=rfl
section
variable{prog:Program}{w:World}{A:Around}{E:Ï}{s:Shared}
def Pr(h:Heap)(a:Addr)(p:Int×Int):Prop:=∃ o n t u,h.get? a=some o/\o.cls = .type "tuple"/\o.data = .seq #[.int p.1 t,.int p.2 u] n
def OY{a b:Int}{t u:Tok}{Q:Bool->Shared->Prop}(h:Q (decide (a=b)) s):wpAny (model prog w) A (eqBool (.int a t)<|.int b u) Q E s:=by
 refine SeqAt.EqAt.int_int a t b u prog w E Q ?_;have e:(a == b)=decide (a=b):=rfl;rw[e];exact h
def Y'{a b:Int}{t u:Tok}{Q:Bool->Shared->Prop}(h:Q (decide (a < b)) s):wpAny (model prog w) A (oneLt' false (.int a t)<|.int b u) Q E s:=by
 rw[oneLt'_eq];simp only[Bb,CV];refine BJ ?_;show wpAny _ _ (compareOp .Lt (.int a t)<|.int b u) _ _ _;exact lt_int<|FP h
def Za{x y:Addr}{p q:Int×Int}{Q:Bool->Shared->Prop}(hx:Pr s.heap x p)(hy:Pr s.heap y q)(h:Q (lexLt p q) s):wpAny (model prog w) A (keyLt' (tuples' true) (.ref x)<|.ref y) Q E s:=by
 obtain⟨ox,nx,tx,ux,yd,cx,dx⟩:=hx;obtain⟨oy,ny,ty,uy,Zb,cy,dy⟩:=hy;rw[Y9];refine BJ<|PK yd dx ?_;refine BJ<|PK Zb dy ?_;show wpAny _ _ (forIn [((Value.int p.1 tx,Value.int q.1 ty),0),((Value.int p.2 ux,Value.int q.2 uy),1)] _ _ >>= _) _ _ _;rw[Gq];refine BJ<|BJ ?_
 dsimp only
 refine BJ<|OY ?_
 by_cases c:p.1=q.1
 ·rw[BW c];simp only[Dx,Bb,CV];refine BK ?_
  dsimp only
  rw[Gq];refine BJ ?_
  dsimp only
  refine BJ<|OY ?_
  by_cases c2:p.2=q.2
  ·rw[BW c2];simp only[Dx,Bb,CV];refine BK ?_
   dsimp only
   rw[List.forIn_nil];refine BK<|BK ?_;have e:lexLt p q=false:=by unfold lexLt;rw[BP c,c2];simp
   rw[e]at h
   simpa using h
  ·rw[BR c2];simp only[TQ,DN];refine BJ<|Y'<|BK ?_
   dsimp only
   refine BK<|BK ?_;have e:lexLt p q=decide (p.2 < q.2):=by unfold lexLt;rw[BP c]
   rw[e]at h;exact h
 ·rw[BR c];simp only[TQ,DN];refine BJ<|oneLt_int<|BK ?_
  dsimp only
  refine BK<|BK ?_;have e:lexLt p q=decide (p.1 < q.1):=by unfold lexLt;rw[BL c]
  rw[e]at h;exact h
def Zc{x y:Value}:(#[x,y]:Array Value).size<=sizeLine+1:=by
 rw[EY];show 2<=_;decide
def Zd(v:Value):firstOfTuple' v=(do
  if(<- typeOf v) != .type "tuple" then return none
  return (<- Builtin.List.listItems v)[0]?):=rfl
def OZ{x:Addr}{p:Int×Int}{Q:Option Value->Shared->Prop}(hx:Pr s.heap x p)(h:∀ t,Q (some<|.int p.1 t) s):wpAny (model prog w) A (firstOfTuple'<|.ref x) Q E s:=by
 obtain⟨ox,nx,tx,ux,yd,cx,dx⟩:=hx;rw[Zd];refine BJ<|KH (T:= "tuple") ⟨ox,yd,cx⟩ ?_;rw[show(Value.type "tuple" != Value.type "tuple")=false by decide];simp only[Bb,CV];refine BJ<|PK yd dx ?_;exact BK<|h tx
def Zf{x y:Addr}{p q:Int×Int}{Q:SortKind->Shared->Prop}(hx:Pr s.heap x p)(hy:Pr s.heap y q)(h:Q (tuples' true) s):wpAny (model prog w) A (keyKind' #[.ref x,.ref y]) Q E s:=by
 rw[keyKind'_eq,show(#[.ref x,.ref y]:Array Value)=[.ref x,.ref y].toArray from rfl,List.mapM_toArray];refine BJ<|wpAny_map ?_;rw[List.mapM_cons];refine BJ<|OZ hx λt=>?_;rw[List.mapM_cons];refine BJ<|BJ<|OZ hy λu=>?_;rw[List.mapM_nil];refine BJ<|BK<|BK<|BK ?_;rw[BP<|by simp];refine BJ<|HD ?_;rw[oneTypeOnly'_eq];show wpAny _ _ ((Array.mapM typeOf [Value.int p.1 t,Value.int q.1 u].toArray >>= _) >>= _) _ _ _;rw[List.mapM_toArray];have e1:[Value.int p.1 t,Value.int q.1 u].mapM typeOf=(pure [Value.type "int",Value.type "int"]:Sem _):=rfl;rw[e1];refine BK ?_;have e2:(if((#[Value.type "int",Value.type "int"]:Array Value).all λx=>x == (#[Value.type "int",Value.type "int"]:Array Value)[0])=true then some (#[Value.type "int",Value.type "int"]:Array Value)[0]else none)=some (Value.type "int"):=by
  rw[BP]
  ·rfl
  ·simp
 show Q (tuples'<|Option.any (λx=>x != Value.type "tuple") _) s;rw[e2];exact h
def wp_at{st:SortSt}{x y:Addr}{p q:Int×Int}{i j:Nat}{Q:Option Bool->SortSt->Prop}(hk:kindOf st=tuples' true)(hi:(arrOf st)[i]?=some (.ref x,.ref x))(hj:(arrOf st)[j]?=some (.ref y,.ref y))(hx:Pr s.heap x p)(hy:Pr s.heap y q)(h:Q (some<|lexLt p q) st) :
  wpS (model prog w) A E s (ltAt' i j) Q st:=by
 rw[ltAt'_eq];refine FT<|wpS_get ?_;show wpS _ _ _ _ (elem' (arrOf st) i >>= λa=>elem' (arrOf st) j >>= λb=>lt' a b) Q st;rw[elem'_eq,elem'_eq,hi,hj];refine FT<|JM<|FT<|JM ?_;rw[lt'_eq];refine FT<|wpS_get ?_;rw[hk];refine FT<|wpS_lift<|JF<|Za hx hy ⟨rfl,?_⟩;exact JM h
def k4(x y:Addr)(p q:Int×Int):Array Keyed:=if lexLt q p then #[(.ref y,.ref y),(.ref x,.ref x)]else #[(.ref x,.ref x),(.ref y,.ref y)]
def Zg{x y:Addr}{p q:Int×Int}{Q:Option Nat->SortSt->Prop}(hx:Pr s.heap x p)(hy:Pr s.heap y q)
  (h:Q (some 2)<|SortSt.mk' (tuples' true) (k4 x y p q) #[] 7 none):wpS (model prog w) A E s (countRun' 0 2) Q (SortSt.mk' (tuples' true) #[(.ref x,.ref x),(.ref y,.ref y)] #[] 7 none):=by
 rw[countRun0_eq];refine FT ?_;unfold ascLoop;refine wpS_mono (PL (I:=λi c st=>st=SortSt.mk' (tuples' true) #[(.ref x,.ref x),(.ref y,.ref y)] #[] 7 none/\c=(none,i)/\(i=2->lexLt q p=false))
  (Q:=λc st=>st=SortSt.mk' (tuples' true) #[(.ref x,.ref x),(.ref y,.ref y)] #[] 7 none/\((c=(none,1)/\lexLt q p=true)\/(c=(none,2)/\lexLt q p=false))) ?_ ?_ ⟨rfl,rfl,λh=>by cases h⟩) ?_
 ·rintro i c st h1 h2 ⟨rfl,rfl,hI⟩;have e:i=1:=by omega
  subst e;refine FT<|wp_at rfl rfl rfl hy hx ?_
  dsimp only
  cases hb:lexLt q p with
  | true=>
   rw[BP rfl];exact JM ⟨rfl,.inl ⟨rfl,rfl⟩⟩
  | false=>
   rw[BL Av];exact JM ⟨rfl,rfl,λ_=>rfl⟩
 ·rintro c st ⟨rfl,rfl,hI⟩;exact⟨rfl,.inr ⟨rfl,hI rfl⟩⟩
 ·rintro c st ⟨rfl,⟨rfl,hb⟩ | ⟨rfl,hb⟩⟩
  ·dsimp only
   rw[BL (by decide),BL<|by decide];unfold descPart;refine FT<|wpS_lift<|HD ⟨rfl,?_⟩;unfold descLoop;refine FT (wpS_mono (PL (I:=λi c st=>c=(none,2,0)/\st=SortSt.mk' (tuples' true) #[(.ref x,.ref x),(.ref y,.ref y)] #[] 7 none) (Q:=λc st=>c=(none,2,0)/\st=SortSt.mk' (tuples' true) #[(.ref x,.ref x),(.ref y,.ref y)] #[] 7 none) (λi c st h1 h2 _=>by omega) (λc st h=>h) ⟨rfl,rfl⟩) ?_);rintro c st ⟨rfl,rfl⟩
   dsimp only
   rw[BL<|by decide];unfold tail3;refine FT<|wpS_reverse ?_;unfold ascLoop;refine FT (wpS_mono (PL (I:=λi c st=>c=(none,2)/\st=SortSt.mk' (tuples' true) #[(.ref y,.ref y),(.ref x,.ref x)] #[] 7 none) (Q:=λc st=>c=(none,2)/\st=SortSt.mk' (tuples' true) #[(.ref y,.ref y),(.ref x,.ref x)] #[] 7 none) (λi c st h1 h2 _=>by omega) (λc st h=>h) ⟨rfl,rfl⟩) ?_);rintro c st ⟨rfl,rfl⟩
   dsimp only
   refine JM ?_;unfold k4 at h;rw[BP hb]at h;exact h
  ·dsimp only
   rw[BP<|by decide];refine JM ?_;unfold k4 at h;rw[BL<|by rw[hb];exact Av]at h;exact h
def Zh{x y:Addr}{p q:Int×Int}{Q:Unit->SortSt->Prop}(hx:Pr s.heap x p)(hy:Pr s.heap y q)(h:∀ st,arrOf st=k4 x y p q->failedOf st=none->Q () st) :
  wpS (model prog w) A E s sortRuns' Q (SortSt.mk' (tuples' true) #[(.ref x,.ref x),(.ref y,.ref y)] #[] 7 none):=by
 rw[sortRuns'_eq];refine FT<|wpS_get ?_
 dsimp only
 have Zi:minRun' 2 2 0=2:=by rw[minRun'_succ,BP<|by decide]
 show wpS _ _ _ _ ((forIn [0:2] _ _) >>= _) _ _;have sz:(#[(Value.ref x,Value.ref x),(Value.ref y,Value.ref y)]:Array Keyed).size=2:=rfl;refine FT<|wpS_mono (PL (I:=λi c st=>(i=0/\c=(none,0)/\st=SortSt.mk' (tuples' true) #[(.ref x,.ref x),(.ref y,.ref y)] #[] 7 none)\/(1<=i/\c=(none,2)/\st=SortSt.mk' (tuples' true) (k4 x y p q) #[(0,2,0)] 7 none))
  (Q:=λc st=>c=(none,2)/\st=SortSt.mk' (tuples' true) (k4 x y p q) #[(0,2,0)] 7 none) ?_ ?_ (.inl ⟨rfl,rfl,rfl⟩)) ?_
 ·rintro i c st h1 h2 (⟨rfl,rfl,rfl⟩ | ⟨hi,rfl,rfl⟩)
  ·dsimp only
   rw[BL<|by show ¬(0>=2);decide];refine FT ?_;show wpS _ _ _ _ (countRun' 0 2) _ _;refine Zg hx hy ?_
   dsimp only
   rw[BL<|by show ¬(2 < minRun' 2 2 0);rw[Zi];decide];refine FT<|wpS_get ?_;show wpS _ _ _ _ (modify _ >>= _) _ _;exact FT<|wpS_modify<|JM<|.inr ⟨An _,rfl,rfl⟩
  ·dsimp only
   rw[BP<|by show 2>=2;decide];exact JM ⟨rfl,rfl⟩
 ·rintro c st (⟨h1,_,_⟩ | ⟨_,hc,hs⟩)
  ·exact absurd h1<|by decide
  ·exact⟨hc,hs⟩
 ·rintro c st ⟨rfl,rfl⟩
  dsimp only
  refine FT<|wpS_mono (PL (I:=λ_ c st=>st=SortSt.mk' (tuples' true) (k4 x y p q) #[(0,2,0)] 7 none/\c=(none,())) (Q:=λc st=>st=SortSt.mk' (tuples' true) (k4 x y p q) #[(0,2,0)] 7 none/\c=(none,())) ?_ (λ_ _ hh=>hh) ⟨rfl,rfl⟩) ?_
  ·rintro i c st _ _ ⟨rfl,rfl⟩;refine FT<|wpS_get ?_;rw[BP<|by show 1<=1;decide];exact JM ⟨rfl,rfl⟩
  ·rintro c st ⟨rfl,rfl⟩;exact JM<|h _ rfl rfl
def Zj{a x y:Addr}{p q:Int×Int}{n:Nat}{P:Fin->Shared->Prop}(ho:s.heap.get? a=some (seqObj "list" #[.ref x,.ref y] n))(Zk:a≠x)(Zm:a≠y)(hx:Pr s.heap x p)(hy:Pr s.heap y q)
  (h:P (.done<|.ret .none) {s with heap:=sortedHeap s.heap a [.ref x,.ref y] (if lexLt p q then #[.ref y,.ref x]else #[.ref x,.ref y])}) :
  wpAny (model prog w) A (Builtin.«list.sort» ⟨[.ref a],[(Str.ofString "reverse",.bool true)]⟩) P E s:=by
 rw[list_sort_rev];have ha:a < s.heap.objs.size:=Aq ho;refine BJ<|PK ho rfl ?_;refine BJ<|LR ho rfl ?_;obtain⟨e1,mB⟩:∃ e1,(s.heap.update a<|Obj.mapSeq λ_=>#[]).get? a=some (seqObj "list" #[] e1):=⟨_,get?_update_seq ho λ_=>#[]⟩;refine BJ<|QG mB rfl ?_;refine BJ<|QD ?_;refine BJ<|JV ?_;refine CJ ?_;have pH:(((s.heap.update a<|Obj.mapSeq λ_=>#[]).push<|seqObj "tuple" [Value.ref x,Value.ref y].toArray 0).push<|seqObj "list" #[] 0).get? a=some (seqObj "list" #[] e1):=
  Ag _ (Ag _ mB)
 show wpAny (model prog w) A _ P E {s with heap:=((s.heap.update a<|Obj.mapSeq λ_=>#[]).push<|seqObj "tuple" [Value.ref x,Value.ref y].toArray 0).push (seqObj "list" #[] 0)};have keep:∀ z r,a≠z->Pr s.heap z r->Pr (((s.heap.update a<|Obj.mapSeq λ_=>#[]).push<|seqObj "tuple" [Value.ref x,Value.ref y].toArray 0).push<|seqObj "list" #[] 0) z r:=by
  rintro z r hz ⟨o,m,t,u,q1,q2⟩;exact⟨o,m,t,u,Ag _<|Ag _<|(Bw _ _ hz).trans q1,q2⟩
 have kx:=keep x p Zk hx;have ky:=keep y q Zm hy
 dsimp only
 rw[BP rfl];refine BJ<|HD ?_;rw[BL<|by show ¬(2 < 2);decide];refine BJ<|Zf kx ky ?_;rw[BL<|by show ¬(2 < 2);decide];have e2:(if true=true then((#[Value.ref x,Value.ref y]:Array Value).zip #[Value.ref x,Value.ref y]).reverse else(#[Value.ref x,Value.ref y]:Array Value).zip #[Value.ref x,Value.ref y])=#[(Value.ref y,Value.ref y),(Value.ref x,Value.ref x)]:=by
  rw[BP rfl];simp
 rw[e2];refine BJ<|CP (Zh (Q:=λ_ st=>arrOf st=k4 y x q p/\failedOf st=none) ky kx λst h1 h2=>⟨h1,h2⟩) ?_ λ_ _ e=>e;rintro ⟨⟨⟩,dC⟩ s' ⟨rfl,hs,hf⟩
 dsimp only
 have e3:(if true=true then((arrOf dC).map (·.2)).reverse else(arrOf dC).map (·.2))=(if lexLt p q then #[.ref y,.ref x]else #[.ref x,.ref y]):=by
  rw[BP rfl,hs];unfold k4
  split <;> simp
 refine BJ<|QG pH rfl ?_;refine BJ (LR pH rfl ?_ (hsz2:=by rw[e3];split <;> exact Zc));rw[hf];simp only[FZ,Bb,CV];refine BK ?_;have e4:(λ_:Array Value=>if True then((arrOf dC).map (·.2)).reverse else(arrOf dC).map (·.2))=λ_=>(if lexLt p q then #[.ref y,.ref x]else #[.ref x,.ref y]):=by
  funext _
  rw[BP trivial];rw[BP rfl]at e3;exact e3
 rw[e4];exact h
def Zn{l x y:Addr}{p q:Int×Int}{Q:Ï}(hl:s.heap.IsList l #[.ref x,.ref y])(hx:Pr s.heap x p)(hy:Pr s.heap y q)
  (h:∀(h':Heap) (e:Nat),(∀ b u,s.heap.get? b=some u->h'.get? b=some u)->h'.get? (s.heap.objs.size+1)=some (seqObj "list" (if lexLt p q then #[.ref y,.ref x]else #[.ref x,.ref y]) e)->Q (.ref<|s.heap.objs.size+1) {s with heap:=h'}) :
  wpAny (model prog w) A (call (.builtin "sorted") [.ref l] [(Str.ofString "reverse",.bool true)]) Q E s:=by
 refine call_function_entry_kw kind_sorted plain_sorted entry_sorted (args_sorted_rev _ _) ?_;unfold Builtin.«sorted»;refine BJ (m:=checkCount "sorted" 1 1 _)<|BK ?_;refine BJ<|collect_list (vs:=[.ref x,.ref y]) hl ?_;refine BJ<|JV ?_;have hsz:((s.heap.push<|seqObj "list" #[] 0).update s.heap.objs.size (Obj.mapSeq (·++[Value.ref x,Value.ref y].toArray))).objs.size=s.heap.objs.size+1:=by
  rw[Heap.size_update,size_push']
 have jt:(((s.heap.push<|seqObj "list" #[] 0).update s.heap.objs.size (Obj.mapSeq (·++[Value.ref x,Value.ref y].toArray))).push<|seqObj "list" [Value.ref x,Value.ref y].toArray 0).get? (s.heap.objs.size+1)=some (seqObj "list" [Value.ref x,Value.ref y].toArray 0):=by
  rw[<- hsz];exact At _ rfl
 have lx:x < s.heap.objs.size:=let ⟨_,_,_,_,e,_⟩:=hx;Aq e
 have ly:y < s.heap.objs.size:=let ⟨_,_,_,_,e,_⟩:=hy;Aq e
 have keep:∀ z r,Pr s.heap z r->Pr (((s.heap.push<|seqObj "list" #[] 0).update s.heap.objs.size (Obj.mapSeq (·++[Value.ref x,Value.ref y].toArray))).push<|seqObj "list" [Value.ref x,Value.ref y].toArray 0) z r:=by
  rintro z r ⟨o,m,t,u,q1,q2⟩;have hz:=Aq q1;exact⟨o,m,t,u,Ag _<|(Bw _ _<|Cp hz).trans<|Ag _ q1,q2⟩
 show wpAny _ _ _ _ _ {s with heap:=((s.heap.push<|seqObj "list" #[] 0).update s.heap.objs.size (Obj.mapSeq (·++[Value.ref x,Value.ref y].toArray))).push (seqObj "list" [Value.ref x,Value.ref y].toArray 0)};rw[hsz];refine BJ<|CJ<|wpAny_call_entry_kw slot_list_sort ⟨_,jt,rfl⟩ entry_list_sort (Zj jt (Cp<|Cb lx) (Cp<|Cb ly) (keep x p hx) (keep y q hy) ⟨_,rfl,?_⟩)<|args_list_sort_rev _ _;obtain⟨e,he⟩:=sortedAll_at s.heap [Value.ref x,Value.ref y] (if lexLt p q then #[.ref y,.ref x]else #[.ref x,.ref y]);exact BK ⟨_,rfl,h _ e (λb u hb=>sortedAll_old hb) he⟩
end
end bA
namespace L2
open PySem PySem.Spec PyProof.Rows bA
section
variable{X:Cx}{e:Expr}{σ:St}{H:Hp}{Q:VK}{pos p kp cp:Pos}{j:Nat}
def O0{pins:Ñ}{s:Shared}{a:Addr}{i j:Int}(I:Inv X pins σ H s)(h:H a=some (.tup [.int i,.int j])):Pr s.heap a (i,j):=by
 obtain⟨its,r,pl,_⟩:=I.tuple<|aJ.of h;obtain⟨u,v,rfl,⟨t,rfl⟩,⟨t',rfl⟩⟩:=vals2 r;obtain⟨o,ho,hc,n,hd⟩:=pl;exact⟨o,n,t,t',ho,hc,hd⟩
def Zo(hm:X.mg "sorted" = none) (h:Ev X e σ H λv H1=>∃ l x y a b c d,v = .ref l/\H1 l=some (.lst [.ref x,.ref y])/\H1 x=some (.tup [.int a,.int b])/\H1 y=some (.tup [.int c,.int d]) /\
   ∀ r,H1 r=none->Q (.ref r) (upd H1 r<|.lst (if lexLt (a,b) (c,d)then [.ref y,.ref x]else [.ref x,.ref y]))) (hg:Gl X "sorted":=by rfl)
  (he:backTo pos (starEach [e] X.env)=(false,eval e X.env) :: backTo pos (starEach [] X.env):=by rfl) (bX:(backTo pos<|starEach [e] X.env).any (·.1)=false:=by rfl) (cn:isStar e=false:=by rfl) :
  Ev X (.Call (.Name "sorted" p) [e] [⟨some "reverse",.Constant (.bool true) j cp,kp⟩] pos) σ H Q:=by
 refine⟨λpins s I=>?_⟩;refine JG<|oR I hg hm DQ ?_;have hE:Ea X [e] σ H λvs H1=>∃ l x y a b c d,vs=[.ref l]/\H1 l=some (.lst [.ref x,.ref y])/\H1 x=some (.tup [.int a,.int b])/\H1 y=some (.tup [.int c,.int d]) /\
   ∀ r,H1 r=none->Q (.ref r) (upd H1 r<|.lst (if lexLt (a,b) (c,d)then [.ref y,.ref x]else [.ref x,.ref y])):=
  ah (h.mono λv H1 ⟨l,x,y,a,b,c,d,e1,r1⟩=>ax ⟨l,x,y,a,b,c,d,by rw[e1],r1⟩) cn
 refine callWith_kw (aN (hE.run pos pins s I) λus s1 ⟨vs,H1,I1,r1,l,x,y,a,b,c,d,ev,hl,hx,hy,q⟩=>?_) he bX;subst ev;obtain⟨u,rfl,ru⟩:=vals1 r1;cases (show u=Value.ref l from ru);refine kws_cons<|BK<|kws_nil ?_;obtain⟨its,r2,pl,_⟩:=I1.list<|aq.of hl;obtain⟨u,v,rfl,ru,rv⟩:=vals2 r2;cases (show u=Value.ref x from ru);cases (show v=Value.ref y from rv);refine Zn pl.isList (O0 I1 hx) (O0 I1 hy) λh' e kp he=>?_;refine⟨.ref _,_,I1.e9 (s':={s1 with heap:=h'}) kp rfl rfl (Ek _) (show aB X.prog X.w _ h' _ (.lst (if lexLt (a,b) (c,d)then [.ref y,.ref x]else [.ref x,.ref y]))from ?_),rfl,q _<|I1.aE.fresh<|Ek _⟩
 split at he
 ·rename_i hb;rw[BP hb];exact⟨by show 2<=sizeLine;rw[EY];decide,[.ref y,.ref x],e,.cons rfl (.cons rfl .nil),he⟩
 ·rename_i hb;rw[BL hb];exact⟨by show 2<=sizeLine;rw[EY];decide,[.ref x,.ref y],e,.cons rfl (.cons rfl .nil),he⟩
end
end L2
namespace Nt
open PySem
abbrev Net:=List<|Str×List Str
abbrev End:=Nat×Nat
def row(n:Net)(r:Nat):Ò:=((n[r]?).map (·.2)).getD []
def aI(n:Net)(e:End):Option Str:=(row n e.1)[e.2]?
def bw(r:Nat)(ts:Ò)(p:Nat):List (Str×End):=(ts.zipIdx p).map λx=>(x.1,(r,x.2))
def fz(r:Nat):Net->List (Str×End)
 | []=>[]
 | a :: n=>bw r a.2 0++fz (r+1) n
def bh(n:Net):List (Str×End):=fz 0 n
def ends(n:Net):List End:=(bh n).map (·.2)
def ag(n:Net):Ò:=n.flatMap (·.2)
def pos(n:Net)(z:Str):List End:=((bh n).filter λx=>decide (x.1=z)).map (·.2)
def bK{r:Nat}{ts:Ò}{p:Nat}{z:Str}{e:End}:(z,e)∈bw r ts p↔e.1=r/\p<=e.2/\ts[e.2 - p]?=some z:=by
 unfold bw;rw[Al]
 constructor
 ·rintro ⟨⟨y,k⟩,hm,he⟩;cases he;have:=Fe.mp hm;exact⟨rfl,this.1,this.2⟩
 ·rintro ⟨h1,h2,h3⟩;refine⟨(z,e.2),Fe.mpr ⟨h2,h3⟩,?_⟩;rw[<- h1]
theorem bT:∀{n:Net} {k:Nat} {z:Str} {e:End},(z,e)∈fz k n↔k<=e.1/\(row n<|e.1 - k)[e.2]?=some z
 | [],k,z,e=>by
  constructor
  ·intro h;cases h
  ·rintro ⟨_,h⟩;simp[row]at h
 | a :: n,k,z,e=>by
  unfold fz;rw[Am,bK,bT]
  constructor
  ·rintro (⟨h1,_,h3⟩ | ⟨h1,h2⟩)
   ·refine⟨by omega,?_⟩;rw[show e.1 - k=0 by omega]
    simpa[row]using h3
   ·refine⟨by omega,?_⟩;rw[show e.1 - k=(e.1 - (k+1))+1 by omega]
    simpa[row]using h2
  ·rintro ⟨h1,h2⟩
   rcases Di k e.1 with h | h
   ·refine .inr ⟨h,?_⟩;rw[show e.1 - k=(e.1 - (k+1))+1 by omega]at h2
    simpa[row]using h2
   ·refine .inl ⟨by omega,Bz _,?_⟩;rw[show e.1 - k=0 by omega]at h2
    simpa[row]using h2
def aT{n:Net}{z:Str}{e:End}:(z,e)∈bh n↔aI n e=some z:=by
 unfold bh aI;rw[bT];simp
def af{n:Net}{e:End}:e∈ends n↔∃ z,aI n e=some z:=by
 unfold ends;rw[Al]
 constructor
 ·rintro ⟨⟨z,e'⟩,h,rfl⟩;exact⟨z,aT.mp h⟩
 ·rintro ⟨z,h⟩;exact⟨(z,e),aT.mpr h,rfl⟩
def aK{n:Net}{z:Str}{e:End}:e∈pos n z↔aI n e=some z:=by
 unfold pos;rw[Al]
 constructor
 ·rintro ⟨⟨y,e'⟩,h,rfl⟩;rw[Bh,DW]at h;obtain⟨h1,h2⟩:=h;subst h2;exact aT.mp h1
 ·intro h;exact⟨(z,e),Bh.mpr ⟨aT.mpr h,by simp⟩,rfl⟩
def Zq(r:Nat):∀(ts:Ò) (p:Nat),(bw r ts p).map (·.1)=ts:=by
 intro ts p;unfold bw;rw[Cd];have:((λx:Str×End=>x.1) ∘ λx:Str×Nat=>(x.1,(r,x.2)))=Prod.fst:=rfl;rw[this,List.zipIdx_map_fst]
theorem k6:∀(n:Net) (k:Nat),(fz k n).map (·.1)=ag n
 | [],_=>rfl
 | a :: n,k=>by
  unfold fz ag;rw[Ak,Zq,k6 n<|k+1,Cf];rfl
def Zr(r:Nat)(ts:Ò)(p:Nat):((bw r ts p).map (·.2)).Nodup:=by
 unfold bw;rw[Cd];have e:((λx:Str×End=>x.2) ∘ λx:Str×Nat=>(x.1,(r,x.2)))=(λk:Nat=>(r,k)) ∘ Prod.snd:=rfl;rw[e,<- Cd,List.zipIdx_map_snd];refine QX _ (R:=(·≠·)) ?_ List.nodup_range';intro a b h gn;exact h (Prod.mk.inj gn).2
theorem O1:∀(n:Net) (k:Nat),((fz k n).map (·.2)).Nodup
 | [],_=>Ch
 | a :: n,k=>by
  unfold fz;rw[Ak,Cj];refine⟨Zr _ _ _,O1 n<|k+1,?_⟩;intro x hx y hy e;subst e;obtain⟨⟨z,e1⟩,h1,rfl⟩:=Al.mp hx;obtain⟨⟨z2,e2⟩,h2,he⟩:=Al.mp hy;simp only at he;subst he;have q1:=(bK.mp h1).1;have q2:=(bT.mp h2).1;omega
def rV(n:Net):(ends n).Nodup:=O1 n 0
def O2(n:Net)(z:Str):(pos n z).Nodup:=by
 unfold pos;exact(rV n).sublist<|List.Sublist.map _<|Gs
def pI(n:Net)(z:Str):(pos n z).length=(ag n).count z:=by
 unfold pos;rw[Aa,<- k6 n 0,<- List.countP_eq_length_filter,List.count,List.countP_map];rfl
def aw(n:Net):Prop:=∀ z∈ag n,(ag n).count z=2
def eU{n:Net}{e:End}{z:Str}(h:aI n e=some z):z∈ag n:=by
 have:=aT.mpr h;rw[<- k6 n 0];exact Al.mpr ⟨_,this,rfl⟩
def other(n:Net)(e:End):End:=match aI n e with
 | some z=>(match pos n z with
  | [a,b]=>if a=e then b else a
  | _=>e)
 | none=>e
theorem pJ{n:Net}(T:aw n){e:End}{z:Str}(h:aI n e=some z):∃ a b,pos n z=[a,b]/\a≠b/\(e=a\/e=b):=by
 have hl:=pI n z;rw[T z<|eU h]at hl;have hn:=O2 n z;have hm:=aK.mpr h
 match hp:pos n z,hl with
 | [a,b],_=>
  rw[hp]at hn hm;refine⟨a,b,rfl,?_,?_⟩
  ·intro e;subst e;simp at hn
  ·simpa using hm
def dU{n:Net}(T:aw n){e:End}{z:Str}(h:aI n e=some z):aI n (other n e)=some z/\other n (other n e)=e/\other n e≠e:=by
 obtain⟨a,b,hp,gn,he⟩:=pJ T h;have ha:aI n a=some z:=aK.mp (by rw[hp];simp);have hb:aI n b=some z:=aK.mp<|by rw[hp];simp
 rcases he with rfl | rfl
 ·have e1:other n e=b:=by unfold other;simp only[h,hp];simp
  have e2:other n b=e:=by unfold other;simp only[hb,hp];simp[gn]
  rw[e1];exact⟨hb,e2,gn.symm⟩
 ·have e1:other n e=a:=by unfold other;simp only[h,hp];simp[gn]
  have e2:other n a=e:=by unfold other;simp only[ha,hp];simp
  rw[e1];exact⟨ha,e2,gn⟩
def left(n:Net)(e:End):End:=(e.1,(e.2+1) % (row n e.1).length)
def step(n:Net)(e:End):End:=left n (other n e)
def gy{n:Net}{e:End}{z:Str}(h:aI n e=some z):e.2 < (row n e.1).length:=(Ac.mp h).1
def cQ{n:Net}{e:End}{z:Str}(h:aI n e=some z):e.1 < n.length:=by
 rcases Di e.1 n.length with c | c
 ·exact c
 ·have:=gy h;unfold row at this;rw[Bf c]at this;simp at this
def ye{n:Net}{e:End}(h:e.2 < (row n e.1).length):∃ z,aI n e=some z:=⟨_,Ab h⟩
def Zt{n:Net}{e:End}(h:e∈ends n):left n e∈ends n:=by
 obtain⟨z,h⟩:=af.mp h;have:=gy h;exact af.mpr<|ye (show(e.2+1) % (row n e.1).length < (row n e.1).length from Gw _<|by omega)
def db{n:Net}(T:aw n){e:End}(h:e∈ends n):other n e∈ends n:=by
 obtain⟨z,h⟩:=af.mp h;exact af.mpr ⟨z,(dU T h).1⟩
def rW{n:Net}(T:aw n){e:End}(h:e∈ends n):step n e∈ends n:=Zt<|db T h
def Zu{n:Net}{a b:End}(ha:a∈ends n)(hb:b∈ends n)(h:left n a=left n b):a=b:=by
 obtain⟨z,ha⟩:=af.mp ha;obtain⟨y,hb⟩:=af.mp hb;have la:=gy ha;have lb:=gy hb;unfold left at h;obtain⟨h1,h2⟩:=Prod.mk.inj h;rw[h1]at la h2;have:a.2=b.2:=by
  rcases Di (a.2+1) (row n b.1).length with c | c <;> rcases Di (b.2+1) (row n b.1).length with d | d
  ·rw[Cc c,Cc d]at h2;omega
  ·have e:b.2+1=(row n b.1).length:=by omega
   rw[Cc c,e,Ef]at h2;omega
  ·have e:a.2+1=(row n b.1).length:=by omega
   rw[Cc d,e,Ef]at h2;omega
  ·omega
 exact HX h1 this
def O3{n:Net}(T:aw n){a b:End}(ha:a∈ends n)(hb:b∈ends n)(h:other n a=other n b):a=b:=by
 obtain⟨z,ha⟩:=af.mp ha;obtain⟨y,hb⟩:=af.mp hb;rw[<- (dU T ha).2.1,h,(dU T hb).2.1]
def O4{n:Net}(T:aw n){a b:End}(ha:a∈ends n)(hb:b∈ends n)(h:step n a=step n b):a=b:=
 O3 T ha hb (Zu (db T ha) (db T hb) h)
theorem aV{α:Type} [DecidableEq α]:∀{a b:List α},a.Nodup->(∀ z∈a,z∈b)->a.length<=b.length
 | [],b,_,_=>Bz _
 | x :: r,b,hn,hs=>by
  rw[Bc]at hn;have hx:=hs x Ae;have:=aV (a:=r) (b:=b.erase x) hn.2 λz hz=>by
   have bn:z≠x:=λe=>hn.1<|e ▸ hz;exact(Fg bn).mpr<|hs z<|Ah _ hz
  rw[Fr hx]at this;have hp:0 < b.length:=SN hx;rw[Ap];omega
def it{α:Type}(f:α->α):Nat->α->α
 | 0,a=>a
 | k+1,a=>f<|it f k a
theorem j6{α:Type}{f:α->α}{S:List α}(hf:∀ a∈S,f a∈S){a:α}(h:a∈S):∀ k,it f k a∈S
 | 0=>h
 | k+1=>hf _<|j6 hf h k
def EG{α:Type} [DecidableEq α] {f:α->α} {S:List α} (hf:∀ a∈S,f a∈S) (inj:∀ a∈S,∀ b∈S,f a=f b->a=b) {a:α} (h:a∈S):∃ k,0 < k/\k<=S.length/\it f k a=a:=by
 have cancel:∀ i j,it f i a=it f (i+j) a->it f j a=a:=by
  intro i
  induction i with
  | zero=>intro j e;rw[Ey]at e;exact e.symm
  | succ i ih=>
   intro j e;refine ih j ?_;rw[show i+1+j=(i+j)+1 by omega]at e;exact inj _ (j6 hf h i) _ (j6 hf h<|i+j) e
 refine DK λhn=>?_;have nd:((List.range<|S.length+1).map λi=>it f i a).Nodup:=by
  refine QX _ (R:=λi j=>i < j/\j < S.length+1) ?_ ?_
  ·rintro i j ⟨h1,h2⟩ e;refine hn ⟨j - i,by omega,by omega,cancel i (j - i) ?_⟩;rw[show i+(j - i)=j by omega];exact e
  ·rw[Bo];intro i j hi hj eV;simp only[Ez];simp at hj;exact⟨eV,hj⟩
 have:=aV nd λz hz=>by
  obtain⟨i,_,rfl⟩:=Al.mp hz;exact j6 hf h i
 simp at this;omega
theorem iD:∀(n:Net) (r:Nat),(row n r).length<=(ag n).length
 | [],r=>by simp[row,ag]
 | a :: n,0=>by simp[row,ag]
 | a :: n,r+1=>by
  have:=iD n r;simp[row,ag]at this ⊢;omega
theorem O5:∀(n:Net) (r:Nat),(ag<|n.take r).length<=(ag n).length
 | [],r=>by simp[ag]
 | a :: n,0=>by simp[ag]
 | a :: n,r+1=>by
  have:=O5 n r;simp[ag]at this ⊢;omega
structure fA(n:Net)(e:Nt.End)(fs:List End):Prop where
 pos:0 < fs.length
 len:fs.length<=(ends n).length
 at':∀ i,i < fs.length->fs[i]?=some (it (step n) i e)
 back:it (step n) fs.length e=e
 first:∀ i,0 < i->i < fs.length->it (step n) i e≠e
open L2
abbrev Ls(zs:Ò):HO:= .lst<|zs.map V.str
abbrev Tp(e:End):HO:= .tup [.int e.1,.int e.2]
structure ai(H:Hp)(R:Addr)(as:Ð)(n:Net):Prop where
 len:as.length=n.length
 lst:H R=some (.lst<|as.map λa=> .ref a.1)
 tup:∀(i:Nat) a r,as[i]?=some a->n[i]?=some r->H a.1=some (.tup [.str r.1,.ref a.2])/\H a.2=some (Ls r.2)
 inj:(as.map (·.2)).Nodup
def ai.same{H H':Hp}{R:Addr}{as:Ð}{n:Net}(h:ai H R as n)(s:aj H H'):ai H' R as n:=
 ⟨h.len,s _ _ h.lst,λi a r h1 h2=>⟨s _ _ (h.tup i a r h1 h2).1,s _ _ (h.tup i a r h1 h2).2⟩,h.inj⟩
def ai.at{H:Hp}{R:Addr}{as:Ð}{n:Net}(h:ai H R as n){i:Nat}(hi:i < n.length) :
  ∃ a,as[i]?=some a/\dN (as.map λa=>V.ref a.1) (i:Int)=some (.ref a.1)/\H a.1=some (.tup [.str n[i].1,.ref a.2])/\H a.2=some (Ls<|row n i)/\row n i=n[i].2:=by
 have hl:=h.len;have e:as[i]?=some as[i]:=Ab (by omega);have er:row n i=n[i].2:=by unfold row;rw[Ab hi];rfl
 have q:=h.tup i as[i] n[i] e<|Ab hi;refine⟨as[i],e,rp (by rw[Ai,e];rfl),q.1,?_,er⟩;rw[er];exact q.2
def pK{zs:Ò}{j:Nat}{z:Str}(h:zs[j]?=some z):dN (zs.map V.str) (j:Int)=some (.str z):=rp<|by rw[Ai,h];rfl
inductive Pd (H:Hp):List Addr->List End->Prop where
 | nil:Pd H [] []
 | cons {t:Addr} {e:End} {ts:List Addr} {es:List End}:H t=some (Tp e)->Pd H ts es->Pd H (t :: ts) (e :: es)
theorem Pd.append{H:Hp}{ts us:List Addr}{es fs:List End}(h:Pd H ts es)(g:Pd H us fs):Pd H (ts++us) (es++fs):=by
 induction h with
 | nil=>exact g
 | cons h1 _ ih=>exact .cons h1 ih
theorem Pd.keep{H H':Hp}{ts:List Addr}{es:List End}(h:Pd H ts es)(k:∀ t e,H t=some (Tp e)->H' t=some (Tp e)):Pd H' ts es:=by
 induction h with
 | nil=>exact .nil
 | cons h1 _ ih=>exact .cons (k _ _ h1) ih
theorem Pd.length{H:Hp}{ts:List Addr}{es:List End}(h:Pd H ts es):ts.length=es.length:=by
 induction h with
 | nil=>rfl
 | cons _ _ ih=>rw[Ap,Ap,ih]
theorem Pd.at{H:Hp}{ts:List Addr}{es:List End}(h:Pd H ts es):∀{i:Nat} {e:End},es[i]?=some e->∃ t,ts[i]?=some t/\H t=some (Tp e):=by
 induction h with
 | nil=>intro i e h;simp at h
 | cons h1 _ ih=>
  intro i e h;cases i with
  | zero=>simp at h;subst h;exact⟨_,rfl,h1⟩
  | succ i=>simp only[Fx]at h ⊢;exact ih h
def bL(done:List<|Str×End)(z:Str):List End:=(done.filter λx=>decide (x.1=z)).map (·.2)
def dk(done:List<|Str×End)(y z:Str)(e:End):bL (done++[(y,e)]) z=bL done z++(if y=z then [e]else []):=by
 unfold bL;rw[Cr,Ak]
 congr 1
 by_cases h:y=z
 ·rw[BP h];simp[h]
 ·rw[BL h];simp[h]
structure a9(H0 H:Hp)(d:Addr)(done:List<|Str×End)(kvs:List<|Key×V)(ks:Ò)(A:Str->Option (Addr×List Addr)):Prop where
 same:aj H0 H
 free:H0 d=none
 dict:H d=some (.dK kvs)
 keys:kvs.map (·.1)=ks.map Sum.inr
 nodup:ks.Nodup
 mem:∀ z,z∈ks↔(A z).isSome=true
 val:∀ z,aD kvs (Sum.inr z)=(A z).map λa=> .ref a.1
 at':∀ z a ts,A z=some (a,ts)->H0 a=none/\a≠d/\H a=some (.lst<|ts.map V.ref)/\Pd H ts (bL done z)
 inj:∀ z y a ts us,A z=some (a,ts)->A y=some (a,us)->z=y
 gA:∀ z,A z=none->bL done z=[]
 some':∀ z a ts,A z=some (a,ts)->bL done z≠[]
def a9.start{H:Hp}{d:Addr}(h:H d=none):a9 H (upd H d<|.dK []) d [] [] [] (λ_=>none) where
 same:=λb u q=>by rw[av<|bq q h];exact q
 free:=h
 dict:=aA
 keys:=rfl
 nodup:=Ch
 mem:=λz=>by simp
 val:=λz=>rfl
 at':=λz a ts h=>by cases h
 inj:=λz y a ts us h=>by cases h
 gA:=λz _=>rfl
 some':=λz a ts h=>by cases h
def uC{H:Hp}{t a:Addr}{e:End}{xs:List V}(h:H t=some (Tp e))(g:H a=some (.lst xs)):t≠a:=ce h g λz=>nomatch z
def a9.old{H0 H:Hp}{d:Addr}{done:List (Str×End)}{kvs:List (Key×V)}{ks:Ò}{A:Str->Option (Addr×List Addr)}(S:a9 H0 H d done kvs ks A){z:Str}{e:End}{a l0 t:Addr}{ts:List Addr}
  (hA:A z=some (a,ts)) (hl:H l0=none) (ht:(upd H l0<|.lst []) t=none) :
  a9 H0 (upd (upd (upd H l0<|.lst []) t<|Tp e) a<|.lst<|ts.map V.ref++[.ref t]) d (done++[(z,e)]) kvs ks (λy=>if y=z then some (a,ts++[t])else A y):=by
 obtain⟨q1,q2,q3,q4⟩:=S.at' z a ts hA;have yf:H t=none:=by
  by_cases c:t=l0
  ·rw[c,aA]at ht;cases ht
  ·rwa[av c]at ht
 have yg:l0≠a:=(bq q3 hl).symm;have yh:t≠a:=(bq q3 yf).symm;have ia:a≠t:=yh.symm;have keep:∀ b u,b≠a->H b=some u->(upd (upd (upd H l0<|.lst []) t<|Tp e) a<|.lst<|ts.map V.ref++[.ref t]) b=some u:=λb u h1 h2=>by
  rw[av h1,av<|bq h2 yf,av<|bq h2 hl];exact h2
 have kt:∀ b f,H b=some (Tp f)->(upd (upd (upd H l0<|.lst []) t<|Tp e) a<|.lst<|ts.map V.ref++[.ref t]) b=some (Tp f):=λb f h=>keep b _ (uC h q3) h;have et:(upd (upd (upd H l0<|.lst []) t<|Tp e) a<|.lst<|ts.map V.ref++[.ref t]) t=some (Tp e):=by rw[av yh,aA]
 refine⟨λb u h=>?_,S.free,keep d _ (CG q2) S.dict,S.keys,S.nodup,λy=>?_,λy=>?_,λy a' iE h=>?_,λy y' a' iE us h1 h2=>?_,λy h=>?_,λy a' iE h=>?_⟩
 ·exact keep b u (bq h q1)<|S.same _ _ h
 ·rw[S.mem y]
  by_cases c:y=z
  ·rw[BP c,c,hA];simp
  ·rw[BL c]
 ·rw[S.val y]
  by_cases c:y=z
  ·rw[BP c,c,hA];rfl
  ·rw[BL c]
 ·by_cases c:y=z
  ·rw[BP c]at h;cases h;refine⟨q1,q2,by rw[aA,Ak];rfl,?_⟩;rw[dk,c,BP rfl];exact(q4.keep kt).append<|.cons et .nil
  ·rw[BL c]at h;obtain⟨r1,r2,r3,r4⟩:=S.at' y a' iE h;have bn:a'≠a:=λe2=>c<|S.inj y z a iE ts (e2 ▸ h) hA;refine⟨r1,r2,keep _ _ bn r3,?_⟩;rw[dk,BL λh=>c h.symm,Bg];exact r4.keep kt
 ·by_cases c:y=z <;> by_cases c':y'=z
  ·rw[c,c']
  ·rw[BP c]at h1;rw[BL c']at h2;cases h1;exact absurd (S.inj y' z a us ts h2 hA) c'
  ·rw[BL c]at h1;rw[BP c']at h2;cases h2;exact absurd (S.inj y z a iE ts h1 hA) c
  ·rw[BL c]at h1;rw[BL c']at h2;exact S.inj y y' a' iE us h1 h2
 ·by_cases c:y=z
  ·rw[BP c]at h;cases h
  ·rw[BL c]at h;rw[dk,BL λh=>c h.symm,Bg];exact S.gA y h
 ·by_cases c:y=z
  ·rw[dk,BP c.symm];simp
  ·rw[BL c]at h;rw[dk,BL λh=>c h.symm,Bg];exact S.some' y a' iE h
def a9.new{H0 H:Hp}{d:Addr}{done:List (Str×End)}{kvs:List (Key×V)}{ks:Ò}{A:Str->Option (Addr×List Addr)}(S:a9 H0 H d done kvs ks A){z:Str}{e:End}{l0 t:Addr}
  (hA:A z=none) (hl:H l0=none) (ht:(upd (upd H l0<|.lst []) d<|.dK<|putK kvs (Sum.inr z)<|.ref l0) t=none) :
  a9 H0 (upd (upd (upd (upd H l0<|.lst []) d<|.dK<|putK kvs (Sum.inr z)<|.ref l0) t<|Tp e) l0<|.lst [.ref t]) d (done++[(z,e)]) (putK kvs (Sum.inr z)<|.ref l0) (ks++[z]) (λy=>if y=z then some (l0,[t])else A y):=by
 have gP:d≠l0:=bq S.dict hl;have EH:t≠d:=λc=>by rw[c,aA]at ht;cases ht
 have mG:t≠l0:=λc=>by rw[av EH,c,aA]at ht;cases ht
 have yf:H t=none:=by rwa[av EH,av mG]at ht
 have vn:aD kvs (Sum.inr z)=none:=by rw[S.val z,hA];rfl
 have keep:∀ b u,b≠d->H b=some u->(upd (upd (upd (upd H l0<|.lst []) d<|.dK<|putK kvs (Sum.inr z)<|.ref l0) t<|Tp e) l0<|.lst [.ref t]) b=some u:=λb u h1 h2=>by
  rw[av<|bq h2 hl,av<|bq h2 yf,av h1,av<|bq h2 hl];exact h2
 have kt:∀ b f,H b=some (Tp f)->(upd (upd (upd (upd H l0<|.lst []) d<|.dK<|putK kvs (Sum.inr z)<|.ref l0) t<|Tp e) l0<|.lst [.ref t]) b=some (Tp f):=λb f h=>keep b _ (ce h S.dict λz=>nomatch z) h;have Zv:H0 l0=none:=S.same.free hl;have zk:z∉ks:=λh=>by
  have:=(S.mem z).mp h;rw[hA]at this;cases this
 refine⟨λb u h=>?_,S.free,?_,?_,?_,λy=>?_,λy=>?_,λy a' iE h=>?_,λy y' a' iE us h1 h2=>?_,λy h=>?_,λy a' iE h=>?_⟩
 ·exact keep b u (bq h S.free)<|S.same _ _ h
 ·rw[av gP,av EH.symm,aA]
 ·rw[Nc _ vn,Ak,S.keys,Ak];rfl
 ·rw[Cj];exact⟨S.nodup,by simp,λx hx y hy e=>by rw[Ad]at hy;subst hy e;exact zk hx⟩
 ·rw[Am,Ad,S.mem y]
  by_cases c:y=z
  ·rw[BP c];simp[c]
  ·rw[BL c];simp[c]
 ·rw[dz]
  by_cases c:y=z
  ·rw[BP (by rw[c]),BP c];rfl
  ·rw[BL λh=>c<|Sum.inr.inj h,BL c,S.val y]
 ·by_cases c:y=z
  ·rw[BP c]at h;cases h;refine⟨Zv,gP.symm,by rw[aA];rfl,?_⟩;rw[dk,c,BP rfl,S.gA z hA];exact .cons (by rw[av mG,aA]) .nil
  ·rw[BL c]at h;obtain⟨r1,r2,r3,r4⟩:=S.at' y a' iE h;refine⟨r1,r2,keep _ _ r2 r3,?_⟩;rw[dk,BL λh=>c h.symm,Bg];exact r4.keep kt
 ·by_cases c:y=z <;> by_cases c':y'=z
  ·rw[c,c']
  ·rw[BP c]at h1;rw[BL c']at h2;cases h1;exact absurd hl<|by rw[(S.at' y' l0 us h2).2.2.1];exact λh=>nomatch h
  ·rw[BL c]at h1;rw[BP c']at h2;cases h2;exact absurd hl<|by rw[(S.at' y l0 iE h1).2.2.1];exact λh=>nomatch h
  ·rw[BL c]at h1;rw[BL c']at h2;exact S.inj y y' a' iE us h1 h2
 ·by_cases c:y=z
  ·rw[BP c]at h;cases h
  ·rw[BL c]at h;rw[dk,BL λh=>c h.symm,Bg];exact S.gA y h
 ·by_cases c:y=z
  ·rw[dk,BP c.symm];simp
  ·rw[BL c]at h;rw[dk,BL λh=>c h.symm,Bg];exact S.some' y a' iE h
theorem EI:∀(n m:Net) (k:Nat),fz k (n++m)=fz k n++fz (k+n.length) m
 | [],m,k=>rfl
 | a :: n,m,k=>by
  show bw k a.2 0++fz (k+1) (n++m)=(bw k a.2 0++fz (k+1) n)++fz (k+(n.length+1)) m;rw[EI n m<|k+1,Ar,show k+1+n.length=k+(n.length+1) by omega]
def rX{n:Net}{r:Nat}(h:r < n.length):bh (n.take<|r+1)=bh (n.take r)++bw r (row n r) 0:=by
 unfold bh;rw[Ck,Ab h,EI];have e:(n.take r).length=r:=by rw[Bk];omega
 rw[e,Ey];have er:row n r=n[r].2:=by unfold row;rw[Ab h];rfl
 rw[er];show _++(bw r n[r].2 0++[])=_;rw[Bg]
def pL{r:Nat}{ts:Ò}{p:Nat}{z:Str}(h:ts[p]?=some z):bw r (ts.take<|p+1) 0=bw r (ts.take p) 0++[(z,(r,p))]:=by
 unfold bw;have hp:=(Ac.mp h).1;rw[Ck,h,List.zipIdx_append,Ak];have e:(ts.take p).length=p:=by rw[Bk];omega
 rw[e,Ey];rfl
structure bM(H:Hp)(d:Addr)(n:Net)(ks:Ò):Prop where
 dict:∃ kvs,H d=some (.dK kvs)/\kvs.map (·.1)=ks.map Sum.inr/\∀ z∈ag n,∃ a ts,aD kvs (Sum.inr z)=some (.ref a)/\H a=some (.lst<|ts.map V.ref)/\Pd H ts (pos n z)
 nodup:ks.Nodup
 mem:∀ z,z∈ks↔z∈ag n
def bM.same{H H':Hp}{d:Addr}{n:Net}{ks:Ò}(S:bM H d n ks)(s:aj H H'):bM H' d n ks:=by
 obtain⟨kvs,h1,h2,h3⟩:=S.dict;refine⟨⟨kvs,s _ _ h1,h2,λz hz=>?_⟩,S.nodup,S.mem⟩;obtain⟨a,ts,q1,q2,q3⟩:=h3 z hz;exact⟨a,ts,q1,s _ _ q2,q3.keep λt e h=>s _ _ h⟩
def cR{n:Net}{z:Str}:z∈ag n↔pos n z≠[]:=by
 rw[<- De,<- pI,Dk]
theorem a9.whole{H0 H:Hp}{d:Addr}{n:Net}{kvs:List (Key×V)}{ks:Ò}{A:Str->Option (Addr×List Addr)}(S:a9 H0 H d (bh n) kvs ks A):bM H d n ks:=by
 have mem:∀ z,z∈ks↔z∈ag n:=λz=>by
  rw[S.mem z,cR];cases h:A z with
  | none=>simp;exact S.gA z h
  | some p=>
   obtain⟨a,ts⟩:=p;simp;exact S.some' z a ts h
 refine⟨⟨kvs,S.dict,S.keys,λz hz=>?_⟩,S.nodup,mem⟩;have:=(S.mem z).mp<|(mem z).mpr hz;cases h:A z with
 | none=>rw[h]at this;cases this
 | some p=>
  obtain⟨a,ts⟩:=p;obtain⟨q1,q2,q3,q4⟩:=S.at' z a ts h;exact⟨a,ts,by rw[S.val z,h];rfl,q3,q4⟩
def all2(e:Nat->Bool):(List.range 2).all e=(e 0 && e 1):=by
 show(([0,1]:List Nat).all e)=_;simp
def O6(x y:End):(cM (.int x.1) (.int y.1) && cM (.int x.2) (.int y.2))=decide (x=y):=by
 obtain⟨a,b⟩:=x;obtain⟨c,d⟩:=y
 by_cases h:a=c <;> by_cases h2:b=d
 ·subst h h2;simp[cM]
 ·have:¬(b:Int)=(d:Int):=λe=>h2 (by omega);simp[cM,h2,this]
 ·have:¬(a:Int)=(c:Int):=λe=>h (by omega);simp[cM,h,this]
 ·have:¬(a:Int)=(c:Int):=λe=>h (by omega);simp[cM,h,this]
section
variable{X:Cx}{H:Hp}{s t:Addr}{x y:End}
theorem O7:∀(j:Nat) (u v:V),[V.int x.1,.int x.2][j]?=some u->[V.int y.1,.int y.2][j]?=some v->j5 X H 0 u v (if j=0 then cM (.int x.1) (.int y.1)else cM (.int x.2) (.int y.2))
 | 0,u,v,h1,h2=>by
  cases h1;cases h2;exact uz rfl rfl
 | 1,u,v,h1,h2=>by
  cases h1;cases h2;exact uz rfl rfl
 | j+2,u,v,h1,h2=>by simp at h1
def Zw(hs:H s=some (Tp x))(ht:H t=some (Tp y)):mF X H 1 (.ref s) (.ref t) (decide (x=y)):=by
 have:=OQ (X:=X) (k:=0) (λj=>if j=0 then cM (.int x.1) (.int y.1)else cM (.int x.2) (.int y.2)) (aJ.of hs) (aJ.of ht) rfl O7;rw[show([V.int (x.1:Int),.int x.2].length)=2 from rfl,all2]at this;have e:=O6 x y;simp only[DN]at this;rw[BL (by decide),e]at this;exact this
def Zx(hs:H s=some (Tp x))(ht:H t=some (Tp y)):rT X H 1 (.ref s) (.ref t) (decide (x=y)):=by
 have:=OT (X:=X) (k:=0) (λj=>if j=0 then cM (.int x.1) (.int y.1)else cM (.int x.2) (.int y.2)) (aJ.of hs) (aJ.of ht) rfl O7;rw[show([V.int (x.1:Int),.int x.2].length)=2 from rfl,all2]at this;have e:=O6 x y;simp only[DN]at this;rw[BL (by decide),e]at this;exact this
end
abbrev lets:Str:= "abcdefghijklmnopqrstuvwxyz0123456789"
def O8:lets.cps.toList.length=36:=by decide +kernel
def Zy:lets.cps.toList.Nodup:=by decide +kernel
def sgn(i:Int):Nat:=(dN lets.cps.toList<|i % 36).getD 0
def EJ(i:Int):dN lets.cps.toList (i % 36)=some (sgn i):=by
 have h0:0<=i % 36:=Bp _ (by decide);have h1:i % 36 < 36:=Bv _ (by decide);have hj:(i % 36).toNat < lets.cps.toList.length:=by rw[O8];omega
 have q:=rp (xs:=lets.cps.toList) (j:=(i % 36).toNat) (v:=lets.cps.toList[(i % 36).toNat]) (by simp[hj]);rw[show(((i % 36).toNat:Nat):Int)=i % 36 by omega]at q;unfold sgn;rw[q];rfl
def O9{i j:Int}(h:sgn i=sgn j):i % 36=j % 36:=by
 have key:∀ k:Int,lets.cps.toList[(k % 36).toNat]?=some (sgn k):=λk=>by
  have h0:0<=k % 36:=Bp _ (by decide);have h1:k % 36 < 36:=Bv _ (by decide);have hj:(k % 36).toNat < lets.cps.toList.length:=by rw[O8];omega
  have q:=rp (xs:=lets.cps.toList) (j:=(k % 36).toNat) (v:=lets.cps.toList[(k % 36).toNat]) (by simp[hj]);rw[show(((k % 36).toNat:Nat):Int)=k % 36 by omega,EJ]at q;rw[Ab hj,Option.some.inj q]
 have hi:=key i;have hj:=key j;rw[h]at hi;obtain⟨l1,e1⟩:=Ac.mp hi;obtain⟨l2,e2⟩:=Ac.mp hj;have:=(Gf (xs:=lets.cps.toList) (h₀:=l1) (h₁:=l2) Zy).mp<|e1.trans e2.symm;have a0:0<=i % 36:=Bp _ (by decide);have b0:0<=j % 36:=Bp _ (by decide);omega
def turn(b:Int)(sp:Int)(v k:Nat):Int:=b / 64+(k:Int) * (b / 7 % 5)+(if(k:Int)=sp then(v:Int)else 0)
def nm(b sp:Int)(v:Nat):Nat->Str
 | 0=>⟨#[]⟩
 | k+1=>nm b sp v k++⟨#[sgn<|turn b sp v k]⟩
def app_list(x y:Str):(x++y).cps.toList=x.cps.toList++y.cps.toList:=by
 show(x.cps++y.cps).toList=_;simp
theorem yi(b sp:Int)(v:Nat):∀ k,(nm b sp v k).cps.toList=(List.range k).map λj=>sgn<|turn b sp v j
 | 0=>rfl
 | k+1=>by
  show(nm b sp v k++⟨#[sgn<|turn b sp v k]⟩).cps.toList=_;rw[app_list,yi b sp v k,Do,Ak];rfl
def Zz{b sp:Int}{u v k:Nat}(hu:u < 36)(hv:v < 36)(h0:0<=sp)(h1:sp < (k:Int))(h:nm b sp u k=nm b sp v k):u=v:=by
 have e:(nm b sp u k).cps.toList=(nm b sp v k).cps.toList:=by rw[h]
 rw[yi,yi]at e;have hk:sp.toNat < k:=by omega
 have q:((List.range k).map λj=>sgn<|turn b sp u j)[sp.toNat]?=((List.range k).map λj=>sgn<|turn b sp v j)[sp.toNat]?:=by rw[e]
 rw[Ai,Ai,Ed hk]at q;have q2:sgn (turn b sp u sp.toNat)=sgn (turn b sp v sp.toNat):=Option.some.inj q;have q3:=O9 q2;unfold turn at q3;rw[show((sp.toNat:Nat):Int)=sp by omega,BP rfl,BP rfl]at q3;omega
theorem fold_list(c:Nat):∀(k:Nat) (acc:Array Nat),((List.replicate k (#[c]:Array Nat)).foldl (·++·) acc).toList=acc.toList++List.replicate k c
 | 0,acc=>by simp
 | k+1,acc=>by
  rw[List.replicate_succ,Dg,fold_list c k,List.replicate_succ];simp
def mul_list(c:Nat){i:Int}(h:1<=i):(Txt.mul ⟨#[c]⟩ i).cps.toList=List.replicate i.toNat c:=by
 unfold Txt.mul;rw[BL<|by omega]
 by_cases e:i=1
 ·subst e;rfl
 ·have e1:(i == 1 || (⟨#[c]⟩:Str).length == 0)=false:=by
   have:(i == 1)=false:=by simpa using e
   rw[this];rfl
  rw[e1];simp only[Bb,CV];have:=fold_list c i.toNat #[]
  simpa using this
def aO(b:Int)(v:Nat):Str:=if b % 3=2 then Txt.mul ⟨#[sgn<|b / 64+(v:Int) / 8]⟩ (1+(v:Int) % 8)else nm b (b / 8 % (1+b % 8)) v (1+b % 8).toNat
def ZA{b:Int}{u v:Nat}(hu:u < 36)(hv:v < 36)(h:aO b u=aO b v):u=v:=by
 have s0:0<=b % 8:=Bp _ (by decide);unfold aO at h
 by_cases c:b % 3=2
 ·rw[BP c,BP c]at h;have u0:0<=(u:Int) % 8:=Bp _ (by decide);have v0:0<=(v:Int) % 8:=Bp _ (by decide);have e:(Txt.mul ⟨#[sgn<|b / 64+(u:Int) / 8]⟩<|1+(u:Int) % 8).cps.toList=(Txt.mul ⟨#[sgn<|b / 64+(v:Int) / 8]⟩<|1+(v:Int) % 8).cps.toList:=by rw[h]
  rw[mul_list _ (by omega),mul_list _<|by omega]at e;have l:=BZ List.length e;rw[Fd,Fd]at l;have hd:(List.replicate (1+(u:Int) % 8).toNat<|sgn<|b / 64+(u:Int) / 8)[0]?=(List.replicate (1+(v:Int) % 8).toNat<|sgn<|b / 64+(v:Int) / 8)[0]?:=by rw[e]
  rw[Eu,Eu,BP (by omega),BP<|by omega]at hd;have q:=O9<|Option.some.inj hd;omega
 ·rw[BL c,BL c]at h;refine Zz hu hv (Bp _<|by omega) ?_ h;have:=Bv (b / 8) (show 0 < 1+b % 8 by omega);omega
def namesOf(b:Int)(m:Nat):Ò:=(List.range m).map<|aO b
def yj{b:Int}{m:Nat}(h:m<=36):(namesOf b m).Nodup:=by
 unfold namesOf;refine QX _ (R:=λi j=>i < j/\j < m) ?_ ?_
 ·rintro i j ⟨h1,h2⟩ e;have:=ZA (by omega) (by omega) e;omega
 ·rw[Bo];intro i j hi hj eV;simp only[Ez];simp at hj;exact⟨eV,hj⟩
def yk(b:Int)(m:Nat):namesOf b (m+1)=namesOf b m++[aO b m]:=by
 unfold namesOf;rw[Do,Ak];rfl
def EK(b:Int)(m:Nat):(namesOf b m).length=m:=by unfold namesOf;simp
def ZC{b:Int}{m i:Nat}(h:i < m):(namesOf b m)[i]?=some (aO b i):=by
 unfold namesOf;rw[Ai,Ed h];rfl
end Nt
namespace E6
open PySem L2
def top(i:Nat):Stmt:=PySem.Challenge.pw_threewebs_k51_kinds_shown.main.body.getD i<|.Pass ⟨0,0,0,0⟩
abbrev yl:Stmt:=top 7
abbrev ym:Stmt:=top 8
abbrev EL:Stmt:=top 9
abbrev ER:Stmt:=top 10
abbrev EV:Stmt:=top 11
abbrev yn:Stmt:=top 12
abbrev yo:Stmt:=top 13
abbrev yp:Stmt:=top 14
abbrev yq:Stmt:=top 16
abbrev yr:Stmt:=top 17
abbrev EW:Stmt:=top 18
abbrev EX:Stmt:=top 19
abbrev EZ:Stmt:=top 21
abbrev ib:Stmt:=top 22
abbrev yt:Stmt:=top 23
abbrev pM:Stmt:=top 25
abbrev pN:Stmt:=top 26
abbrev uD:Stmt:=top 27
abbrev yu:Stmt:=top 29
abbrev yv:Stmt:=top 31
abbrev E1:Stmt:=top 32
abbrev E3:Stmt:=top 33
abbrev E4:Stmt:=top 35
abbrev E5:Stmt:=top 37
abbrev pP:Stmt:=top 38
abbrev E7:Stmt:=top 39
abbrev E8:Stmt:=top 40
abbrev E9:Stmt:=top 41
abbrev FA:Stmt:=top 42
abbrev FC:Stmt:=top 43
abbrev pQ:Stmt:=top 44
abbrev pR:Stmt:=top 45
abbrev yw:Stmt:=top 46
abbrev yx:Stmt:=top 47
abbrev yy:Stmt:=top 49
abbrev FD:Stmt:=top 50
abbrev yz:Stmt:=top 51
abbrev FE:Stmt:=top 52
abbrev mH:Stmt:=top 53
structure Txt(mg:Ó):Prop where
 rY:mg "isinstance" = none
 pS:mg "tuple" = none
 pT:mg "str" = none
 uE:mg "int" = none
 O':mg "bool" = none
 j7:mg "list" = none
 nU:mg "dict" = none
 pU:mg "set" = none
 enum:mg "enumerate" = none
 zip:mg "zip" = none
 len:mg "len" = none
 range:mg "range" = none
 sorted:mg "sorted" = none
 max:mg "max" = none
 all:mg "all" = none
 FG:mg "ValueError" = none
open Nt bA
def small{n:Nat}(h:n<=100000):n<=sizeLine:=by rw[EY];omega
def b5{n:Nat}(h:n<=100000):n < sizeLine:=by rw[EY];omega
def aS{H:Hp}{p:Addr}(h:H p=none)(o:HO):aj H (upd H p o):=λb u q=>by rw[av<|bq q h];exact q
def fb{H1 H2:Hp}{r:Addr}{o:HO}(s:aj H1 H2)(h:H1 r=none):aj H1 (upd H2 r o):=λb u q=>by
 rw[av<|bq q h];exact s _ _ q
def FH{H:Hp}{l:Addr}{zs:Ò}{y:Str}:upd H l (.lst<|zs.map V.str++[V.str y])=upd H l (Ls<|zs++[y]):=by
 show _=upd H l (.lst<|(zs++[y]).map V.str);rw[Ak];rfl
def yA(K:PySem.W.Frag):Sp:=λvs H Q _=>∃(a:Addr) (ns:List Int) (k:Int),vs=[.ref a,.int k]/\aq K H a (ns.map V.int)/\0<=k/\∀ i,Q (.int i) H
def FI(K:PySem.W.Frag):Sp:=λvs H Q _=>∃(a:Addr) (ns:List Int) (k:Int),vs=[.ref a,.int k]/\aq K H a (ns.map V.int)/\0<=k/\∀ i H',aj H H'->Q (.int i) H'
def FK:Sp:=λvs H Q _=>∃(b m:Int),vs=[.int b,.int m]/\0<=m/\m<=36/\∀ l H',aj H H'->H l=none->H' l=some (Ls<|namesOf b m.toNat)->Q (.ref l) H'
def pV:Sp:=λvs H Q _=>∃(R:Addr) (as:Ð) (n:Net),vs=[.ref R]/\ai H R as n/\n.length<=1000/\(ag n).length<=1000/\∀ d ks H',aj H H'->H d=none->bM H' d n ks->Q (.ref d) H'
def yB:Sp:=λvs H Q _=>∃(R d t:Addr) (as:Ð) (n:Net) (ks:Ò) (e:Nt.End),vs=[.ref R,.ref d,.ref t]/\ai H R as n/\bM H d n ks/\aw n/\H t=some (Tp e)/\e∈ends n/\∀ u,H u=some (Tp<|other n e)->Q (.ref u) H
def FL:Sp:=λvs H Q _=>∃(R d t:Addr) (as:Ð) (n:Net) (ks:Ò) (e:Nt.End),vs=[.ref R,.ref d,.ref t,.int 1]/\ai H R as n/\bM H d n ks/\aw n/\H t=some (Tp e)/\e∈ends n/\∀ u H',aj H H'->H u=none->H' u=some (Tp<|step n e)->Q (.ref u) H'
def FO:Sp:=λvs H Q _=>∃(R d t:Addr) (as:Ð) (n:Net) (ks:Ò) (e:Nt.End),vs=[.ref R,.ref d,.ref t]/\ai H R as n/\bM H d n ks/\aw n/\H t=some (Tp e)/\e∈ends n/\(ends n).length<=1000 /\
 ∀ l ts fs H',aj H H'->H l=none->H' l=some (.lst<|ts.map V.ref)->Pd H' ts fs->fA n e fs->Q (.ref l) H'
section
variable{P:Program}{w:World}{K:PySem.W.Frag}{mg:Ó}{base:Heap}
def ZD:ak ["_law_script","_law_k"] ["_law_script","_law_k"] (aU E5):=⟨rfl,rfl,rfl,by decide +kernel,rfl,by decide +kernel,by decide +kernel⟩
def ZE{ns:List Int}{k:Int}(h0:0<=k)(h1:k < (ns.length:Int)):∃ v:Int,dN (ns.map V.int) k=some (.int v):=by
 have hj:k.toNat < ns.length:=by omega
 have q:=rp (xs:=ns.map V.int) (j:=k.toNat) (v:= .int ns[k.toNat]) (by simp[hj]);rw[show((k.toNat:Nat):Int)=k by omega]at q;exact⟨_,q⟩
def ZF{f:Addr}{fd:FuncData}(F:bE K "_law_cell_at" "_law_cell_at" E5 f fd)(T:Txt mg):aG P w K mg base bH 1 f fd ["_law_script","_law_k"] (yA K):=by
 refine F.gb ZD (λvs H Q E h=>?_) λb0 H vs Q E hr h=>?_
 ·obtain⟨a,ns,k,rfl,_⟩:=h;rfl
 obtain⟨a,ns,k,rfl,hS,h0,q⟩:=h;show Run _ _ _ [some<|.ref a,some<|.int k] H;refine c9<|b8 VW<|ae 1<|b4 dE T.len DR<|ah<|ae 0<|ax ⟨a,_,rfl,.inl hS,_,_,rfl,rfl,_,rfl,?_⟩;refine jS (λc=>?_) λc=>?_
 ·have c':=BX c;obtain⟨v,hv⟩:=ZE (ns:=ns) h0 (by rw[Aa]at c';exact c');exact bQ<|aP cF<|ae 0<|ae 1 ⟨a,_,_,.int v,rfl,rfl,hS,hv,q v⟩
 ·exact aW<|bQ<|aC<|q 0
abbrev pW:List V:=[.int 48271,.int 69621,.int 16807,.int 39373,.int 21401,.int 60493,.int 87721,.int 31337]
abbrev gB:List V:=[.int 99991,.int 99989,.int 99971,.int 99961,.int 99929,.int 99923,.int 99907,.int 99901]
def eight{i:Int}(h0:0<=i)(h1:i < 8):i=0\/i=1\/i=2\/i=3\/i=4\/i=5\/i=6\/i=7:=by
 obtain⟨k,rfl⟩:=Int.eq_ofNat_of_zero_le h0;exact(by decide:∀ k:Fin 8,(k.1:Int)=0\/(k.1:Int)=1\/(k.1:Int)=2\/(k.1:Int)=3\/(k.1:Int)=4\/(k.1:Int)=5\/(k.1:Int)=6\/(k.1:Int)=7) ⟨k,Int.ofNat_lt.mp h1⟩
def ZG{i:Int}(h0:0<=i)(h1:i < 8):∃ m:Int,dN pW i=some (.int m)/\0 < m/\m < 100000:=by
 rcases eight h0 h1 with rfl | rfl | rfl | rfl | rfl | rfl | rfl | rfl <;> exact⟨_,rfl,by decide,by decide⟩
def ZH{i:Int}(h0:0<=i)(h1:i < 8):∃ m:Int,dN gB i=some (.int m)/\0 < m/\m < 100000:=by
 rcases eight h0 h1 with rfl | rfl | rfl | rfl | rfl | rfl | rfl | rfl <;> exact⟨_,rfl,by decide,by decide⟩
def nV:ak ["_law_script","_law_at","_law_by","_law_prime","_law_cell","_law_big_here","_law_k","_law_one"] ["_law_script","_law_at"] (aU pP):=⟨rfl,rfl,rfl,by decide +kernel,rfl,by decide +kernel,by decide +kernel⟩
def ZI{f:Addr}{fd:FuncData}(F:bE K "_law_big" "_law_big" pP f fd)(T:Txt mg)(G:aQ P w K mg base 1 "_law_cell_at" ["_law_script","_law_k"]<|yA K) :
  aG P w K mg base bH 2 f fd ["_law_script","_law_at"] (FI K):=by
 refine F.gb nV (λvs H Q E h=>?_) λb0 H vs Q E hr h=>?_
 ·obtain⟨a,ns,k,rfl,_⟩:=h;rfl
 obtain⟨a,ns,k,rfl,hS,h0,q⟩:=h;have nd:=nV.nd;show Run _ _ _ [some<|.ref a,some<|.int k,none,none,none,none,none,none] H;refine aX 2 nd (dR<|ah<|aC<|ah<|aC<|ah<|aC<|ah<|aC<|ah<|aC<|ah<|aC<|ah<|aC<|ah<|aC<|ax ⟨(by show 8<=sizeLine;decide),λp hp=>?_⟩);refine aX 3 nd (dR<|ah<|aC<|ah<|aC<|ah<|aC<|ah<|aC<|ah<|aC<|ah<|aC<|ah<|aC<|ah<|aC<|ax ⟨(by show 8<=sizeLine;decide),λp2 lV=>?_⟩);have ZJ:p≠p2:=by
  intro e;rw[<- e,aA]at lV;cases lV
 have s1:aj H (upd H p<|.tup pW):=aS hp _;have s2:aj H (upd (upd H p<|.tup pW) p2<|.tup gB):=s1.trans<|aS lV _;have e1:(upd (upd H p<|.tup pW) p2<|.tup gB) p=some (.tup pW):=by rw[av ZJ,aA]
 have e2:(upd (upd H p<|.tup pW) p2<|.tup gB) p2=some (.tup gB):=aA;generalize upd (upd H p<|.tup pW) p2 (.tup gB)=H2 at s2 e1 e2 ⊢;refine aX 4 nd<|bj G hr<|ah<|ae 0<|ah<|ae 1<|ax ⟨a,ns,k,rfl,s2.seq hS,h0,λb=>?_⟩;show Run _ _ _ [some<|.ref a,some<|.int k,some<|.ref p,some<|.ref p2,some<|.int b,none,none,none] H2;refine Nz True True (λR qq=>?_) (λ_=>?_) λ_=>aW ?_
 ·refine rG (CO<|b8 fV<|a7 cL<|ae 4<|aC ⟨_,_,rfl,rfl,(by show(0:Int) < 2;decide),aC ⟨rfl,_,rfl,?_⟩⟩);refine jS (λc=>?_) (λc=>qq false (λz=>nomatch z) λ_=>trivial);exact CU<|b8 MC<|ae 4<|a7 Mx<|aC<|aC ⟨_,_,rfl,rfl,⟨by decide,by decide,by decide⟩,_,_,rfl,rfl,_,rfl,qq _ (λ_=>trivial) λ_=>trivial⟩
 ·exact bQ<|a7 iV<|ae 4<|aC ⟨_,_,rfl,rfl,⟨by decide,by decide⟩,q _ _ s2⟩
 refine aX 5 nd<|aC ?_;refine kS T.range<|aC ⟨60,rfl,by decide,by decide,kU (n:=60) (λ_ σ H3=>H3=H2/\∃(x:Int) (u v:Option V),σ=[some<|.ref a,some<|.int k,some<|.ref p,some<|.ref p2,some<|.int b,some<|.int x,u,v]) ⟨rfl,0,_,_,rfl⟩ ?_ ?_⟩
 ·rintro i σ H3 hi ⟨rfl,x,u,v,rfl⟩;have i9:0<=(0+(i:Int)) % 9:=Bp _ (by decide);obtain⟨m1,f1,g1,g2⟩:=ZG (i:=(0+(i:Int)) % 8) (Bp _<|by decide) (Bv _<|by decide);obtain⟨m2,f2,g3,g4⟩:=ZH (i:=(0+(i:Int)) % 8) (Bp _<|by decide) (Bv _<|by decide);refine bg 6 nd ?_;refine aX 7 nd<|a7 gM<|a7 gM<|a7 cL<|bj G hr<|ah<|ae 0<|ah<|a7 gM<|ae 1<|a7 cL<|ae 6<|aC ?_;refine⟨_,_,rfl,rfl,(by show(0:Int) < 9;decide),_,_,rfl,rfl,ax ⟨a,ns,_,rfl,s2.seq hS,?_,λc=>?_⟩⟩
  ·show 0<=k+(0+(i:Int)) % 9;omega
  refine a7 Mx (aC<|aC ⟨_,_,rfl,rfl,⟨by decide,by decide,by decide⟩,_,_,rfl,rfl,(by show(0:Int) < 10 ^ (18:Int).toNat;decide),aC ⟨_,_,rfl,rfl,?_⟩⟩);refine a7 xF<|ae 6<|ae 6 ?_;refine⟨_,_,rfl,rfl,.inl ⟨by omega,by omega⟩,_,_,rfl,rfl,?_⟩;refine aX 5 nd (a7 gM<|a7 xF<|ae 5<|aC ⟨_,_,rfl,rfl,.inr ⟨by decide,by decide⟩,?_⟩);refine a7 cL (a7 cL<|a7 xF<|ae 7<|aP bt<|ae 2<|a7 cL<|ae 6<|aC ⟨_,_,rfl,rfl,(by show(0:Int) < 8;decide),p,_,_,_,rfl,rfl,aJ.of e1,f1,_,_,rfl,rfl,.inr ⟨by omega,by omega⟩,?_⟩);refine aP bt (ae 3<|a7 cL<|ae 6<|aC ⟨_,_,rfl,rfl,(by show(0:Int) < 8;decide),p2,_,_,_,rfl,rfl,aJ.of e2,f2,_,_,rfl,rfl,g3,aC ⟨_,_,rfl,rfl,(by show(0:Int) < 7919;decide),_,_,rfl,rfl,?_⟩⟩);exact aW ⟨rfl,_,_,_,rfl⟩
 ·rintro σ H3 ⟨rfl,x,u,v,rfl⟩;exact bQ<|ae 5<|q x _ s2
abbrev NN:Ò:=["_law_stem","_law_many","_law_signs","_law_size","_law_spot","_law_names_here","_law_v","_law_name","_law_k","_law_turn"]
def iF:ak NN ["_law_stem","_law_many"] (aU E7):=⟨rfl,rfl,rfl,by decide +kernel,rfl,by decide +kernel,by decide +kernel⟩
def ZK{f:Addr}{fd:FuncData}(F:bE K "_law_names" "_law_names" E7 f fd)(T:Txt mg):aG P w K mg base bH 1 f fd ["_law_stem","_law_many"] FK:=by
 refine F.gb iF (λvs H Q E h=>?_) λb0 H vs Q E hr h=>?_
 ·obtain⟨b,m,rfl,_⟩:=h;rfl
 obtain⟨b,m,rfl,m0,m1,q⟩:=h;have nd:=iF.nd;have s0:0<=b % 8:=Bp _ (by decide);have s1:b % 8 < 8:=Bv _ (by decide);show Run _ _ _ [some<|.int b,some<|.int m,none,none,none,none,none,none,none,none] H;refine aX 2 nd<|fK ?_;refine aX 3 nd (a7 gM<|aC<|a7 cL<|ae 0<|aC ⟨_,_,rfl,rfl,(by show(0:Int) < 8;decide),_,_,rfl,rfl,?_⟩);refine aX 4 nd (a7 cL<|a7 iV<|ae 0<|aC ⟨_,_,rfl,rfl,⟨by decide,by decide⟩,ae 3 ⟨_,_,rfl,rfl,(by show 0 < 1+b % 8;omega),?_⟩⟩);refine aX 5 nd<|dF<|ax ⟨Z0,λl hl=>?_⟩;show Run _ _ _ [some<|.int b,some<|.int m,some<|.str lets,some<|.int<|1+b % 8,some<|.int<|b / 8 % (1+b % 8),some<|.ref l,none,none,none,none] _;have spE:b / 8 % (1+b % 8)=b / 8 % (1+b % 8):=rfl;refine kS T.range<|ae 1 ⟨m,rfl,by omega,by omega,kU (n:=m.toNat) (λi σ H3=>H3=upd H l (Ls<|namesOf b i)/\∃ u1 u2 u3 u4,σ=[some<|.int b,some<|.int m,some<|.str lets,some<|.int<|1+b % 8,some<|.int<|b / 8 % (1+b % 8),some<|.ref l,u1,u2,u3,u4]) ⟨rfl,_,_,_,_,rfl⟩ ?_ ?_⟩
 ·rintro i σ H3 hi ⟨rfl,u1,u2,u3,u4,rfl⟩;refine bg 6 nd ?_;refine aX 7 nd<|fK ?_;refine kS T.range<|ae 3 ⟨_,rfl,by omega,by omega,kU (n:=(1+b % 8).toNat) (λj σ H4=>H4=upd H l (Ls<|namesOf b i)/\∃(u3 u4:Option V),σ=[some<|.int b,some<|.int m,some<|.str lets,some<|.int<|1+b % 8,some<|.int<|b / 8 % (1+b % 8),some<|.ref l,some<|.int<|0+(i:Int),some<|.str<|nm b (b / 8 % (1+b % 8)) i j,u3,u4]) ⟨rfl,_,_,rfl⟩ ?_ ?_⟩
  ·rintro j σ H4 hj ⟨rfl,v3,v4,rfl⟩;have t0:0<=b / 7 % 5:=Bp _ (by decide);have t1:b / 7 % 5 < 5:=Bv _ (by decide);have nl:(nm b (b / 8 % (1+b % 8)) i j).length=j:=by
    have:=BZ List.length<|yi b (b / 8 % (1+b % 8)) i j;show(nm b (b / 8 % (1+b % 8)) i j).cps.size=j
    simpa using this
   refine bg 8 nd ?_;refine aX 9 nd (a7 gM<|a7 iV<|ae 0<|aC ⟨_,_,rfl,rfl,⟨by decide,by decide⟩,a7 xF<|ae 8<|a7 cL<|a7 iV<|ae 0<|aC ⟨_,_,rfl,rfl,⟨by decide,by decide⟩,aC ⟨_,_,rfl,rfl,(by show(0:Int) < 5;decide),?_⟩⟩⟩);refine⟨_,_,rfl,rfl,.inr ⟨by omega,by omega⟩,_,_,rfl,rfl,?_⟩;refine OM ((0+(j:Int))=b / 8 % (1+b % 8)) (¬(0+(j:Int))=b / 8 % (1+b % 8)) (λσ' H'=>H'=upd H l (Ls<|namesOf b i)/\σ'=[some<|.int b,some<|.int m,some<|.str lets,some<|.int<|1+b % 8,some<|.int<|b / 8 % (1+b % 8),some<|.ref l,some<|.int<|0+(i:Int),some<|.str<|nm b (b / 8 % (1+b % 8)) i j,some<|.int<|0+(j:Int),some<|.int<|turn b (b / 8 % (1+b % 8)) i j]) (λR qq=>?_) (λhc=>?_) (λhc=>aW ⟨rfl,?_⟩) ?_
   ·refine b8 fV<|ae 8<|ae 4 ⟨rfl,_,rfl,?_⟩
    by_cases hc:(0+(j:Int))=b / 8 % (1+b % 8)
    ·rw[BW (show V.int (0+(j:Int))=V.int (b / 8 % (1+b % 8)) by rw[hc])];exact qq true (λ_=>hc) λh=>by cases h
    ·rw[BR λh=>hc<|V.int.inj h];exact qq false (λh=>by cases h) λ_=>hc
   ·refine aX 9 nd<|a7 gM<|ae 9<|ae 6 ⟨_,_,rfl,rfl,aW ⟨rfl,?_⟩⟩;have e:b / 64+(0+(j:Int)) * (b / 7 % 5)+(0+(i:Int))=turn b (b / 8 % (1+b % 8)) i j:=by
     unfold turn;rw[BP (by omega),Du,Du]
    rw[<- e];rfl
   ·have e:b / 64+(0+(j:Int)) * (b / 7 % 5)=turn b (b / 8 % (1+b % 8)) i j:=by
     unfold turn;rw[BL (by omega),Du,Int.add_zero]
    rw[<- e];rfl
   ·rintro σ' H' ⟨rfl,rfl⟩;refine aX 7 nd<|a7 ME<|ae 7<|aP MX<|ae 2<|a7 cL<|ae 9<|aC ⟨_,_,rfl,rfl,(by show(0:Int) < 36;decide),lets,_,sgn<|turn b (b / 8 % (1+b % 8)) i j,rfl,rfl,by decide +kernel,EJ _,_,_,rfl,rfl,small (by show(nm b (b / 8 % (1+b % 8)) i j).length+1<=100000;omega),aW ⟨rfl,_,_,rfl⟩⟩
  ·rintro σ H4 ⟨rfl,v3,v4,rfl⟩;refine OM (b % 3=2) (¬ b % 3=2) (λσ' H'=>H'=upd H l (Ls<|namesOf b i)/\σ'=[some<|.int b,some<|.int m,some<|.str lets,some<|.int<|1+b % 8,some<|.int<|b / 8 % (1+b % 8),some<|.ref l,some<|.int<|0+(i:Int),some<|.str<|aO b i,v3,v4]) (λR qq=>?_) (λhc=>?_) (λhc=>aW ⟨rfl,?_⟩) ?_
   ·refine b8 fV<|a7 cL<|ae 0<|aC ⟨_,_,rfl,rfl,(by show(0:Int) < 3;decide),aC ⟨rfl,_,rfl,?_⟩⟩
    by_cases hc:b % 3=2
    ·rw[BW (show V.int (b % 3)=V.int 2 by rw[hc])];exact qq true (λ_=>hc) λh=>by cases h
    ·rw[BR λh=>hc<|V.int.inj h];exact qq false (λh=>by cases h) λ_=>hc
   ·have e0:0<=(0+(i:Int)) % 8:=Bp _ (by decide);have e1:(0+(i:Int)) % 8 < 8:=Bv _ (by decide);refine aX 7 nd (a7 Xd<|aP MX<|ae 2<|a7 cL<|a7 gM<|a7 iV<|ae 0<|aC ⟨_,_,rfl,rfl,⟨by decide,by decide⟩,a7 iV<|ae 6<|aC ⟨_,_,rfl,rfl,⟨by decide,by decide⟩,_,_,rfl,rfl,aC ⟨_,_,rfl,rfl,(by show(0:Int) < 36;decide),lets,_,sgn<|b / 64+(0+(i:Int)) / 8,rfl,rfl,by decide +kernel,EJ _,?_⟩⟩⟩);refine a7 gM (aC<|a7 cL<|ae 6<|aC ⟨_,_,rfl,rfl,(by show(0:Int) < 8;decide),_,_,rfl,rfl,?_⟩);refine⟨_,_,rfl,rfl,by omega,by omega,?_,aW ⟨rfl,?_⟩⟩
    ·show 1 * _<=_;omega
    ·have e:Txt.mul ⟨#[sgn<|b / 64+(0+(i:Int)) / 8]⟩ (1+(0+(i:Int)) % 8)=aO b i:=by
      unfold aO;rw[BP hc,Du]
     rw[<- e];rfl
   ·have e:nm b (b / 8 % (1+b % 8)) i (1+b % 8).toNat=aO b i:=by
     unfold aO;rw[BL hc]
    rw[<- e]
   ·rintro σ' H' ⟨rfl,rfl⟩;refine fM<|j4<|ae 5 ⟨l,rfl,⟨_,aA⟩,ae 7 ⟨_,aA,?_,?_⟩⟩
    ·rw[Aa,EK];exact b5<|by omega
    ·rw[tE];refine aW ⟨?_,_,_,_,_,rfl⟩;rw[yk];exact FH
 ·rintro σ H3 ⟨rfl,u1,u2,u3,u4,rfl⟩;exact bQ<|ae 5<|q l _ (aS hl _) hl aA
def ZL{H:Hp}{d:Addr}{kvs:List (Key×V)}(h:H d=some (.dK kvs)):lQ K "dict" (.ref d) H:=Or.inr<|Or.inr<|Or.inl ⟨rfl,Or.inl ⟨kvs,h⟩⟩
abbrev NS:Ò:=["_law_rows","_law_seats_here","_law_r","_law_place"]
def iG:ak NS ["_law_rows"] (aU E8):=⟨rfl,rfl,rfl,by decide +kernel,rfl,by decide +kernel,by decide +kernel⟩
def ZM{f:Addr}{fd:FuncData}(F:bE K "_law_seats" "_law_seats" E8 f fd)(T:Txt mg):aG P w K mg base bH 1 f fd ["_law_rows"] pV:=by
 refine F.gb iG (λvs H Q E h=>?_) λb0 H vs Q E hr h=>?_
 ·obtain⟨R,as,n,rfl,_⟩:=h;rfl
 obtain⟨R,as,n,rfl,hR,hn,ht,q⟩:=h;have nd:=iG.nd;have bU:=hR.len;show Run _ _ _ [some<|.ref R,none,none,none] H;refine aX 1 nd<|EF λd hd=>?_;refine kS T.range (b4 dE T.len DR<|ah<|ae 0<|ax ⟨R,_,rfl,.inl<|aq.of<|aS hd _ _ _ hR.lst,_,rfl,by omega,by rw[Aa];omega,?_⟩);rw[Aa,bU,Bd];refine kU (λr σ H3=>∃ kvs ks A u1 u2,a9 H H3 d (bh<|n.take r) kvs ks A/\σ=[some<|.ref R,some<|.ref d,u1,u2]) ⟨_,_,_,_,_,a9.start hd,rfl⟩ ?_ ?_
 ·rintro r σ H3 hi ⟨kvs,ks,A',u1,u2,S,rfl⟩;rw[Du];refine bg 2 nd ?_;obtain⟨a,ea,cW,et,el,er⟩:=(hR.same S.same).at hi;refine kS T.range<|b4 dE T.len DR<|ah<|aP bt<|aP cF<|ae 0<|ae 2 ⟨R,_,_,.ref a.1,rfl,rfl,aq.of<|S.same _ _ hR.lst,cW,aC ⟨a.1,_,_,.ref a.2,rfl,rfl,aJ.of et,rfl,ax ⟨a.2,_,rfl,.inl<|aq.of el,_,rfl,by omega,?_,?_⟩⟩⟩
  ·have:(row n r).length<=1000:=by
    have h1:(row n r).length<=(ag n).length:=by
     exact iD n r
    omega
   rw[Aa];omega
  rw[Aa,Bd];refine kU (λp σ H4=>∃ kvs ks A u2,a9 H H4 d (bh (n.take r)++bw r ((row n r).take p) 0) kvs ks A/\σ=[some<|.ref R,some<|.ref d,some<|.int (r:Int),u2]) ⟨kvs,ks,A',_,by simpa[bw]using S,rfl⟩ ?_ ?_
  ·rintro p σ H4 hp ⟨kvs,ks,A',u2,S,rfl⟩;rw[Du];refine bg 3 nd ?_;obtain⟨a,ea,cW,et,el,er⟩:=(hR.same S.same).at hi;have hz:(row n r)[p]?=some (row n r)[p]:=Ab hp;generalize (row n r)[p]=z at hz;have next:bh (n.take r)++bw r ((row n r).take<|p+1) 0=(bh (n.take r)++bw r ((row n r).take p) 0)++[(z,(r,p))]:=by
    rw[pL hz,Ar]
   have hlen:kvs.length < sizeLine:=by
    have h1:ks.length<=1000:=by
     refine By (aV (b:=ag n) S.nodup λy hy=>?_) ht;have h2:=(S.mem y).mp hy;cases hA:A' y with
     | none=>rw[hA]at h2;cases h2
     | some pr=>
      obtain⟨a2,k8⟩:=pr;have h3:=S.some' y a2 k8 hA;unfold bL at h3;obtain⟨x,hx⟩:=Fo _ h3;obtain⟨⟨y2,e2⟩,hm,_⟩:=Al.mp hx;rw[Bh,DW]at hm;obtain⟨hm,rfl⟩:=hm;have:(y2,e2)∈bh n:=by
       rcases Am.mp hm with hm | hm
       ·have q1:=aT.mp hm;refine aT.mpr ?_;have q2:=cQ q1;unfold aI row at q1 ⊢;rw[Bk]at q2;rwa[Dm<|by omega]at q1
       ·have q1:=bK.mp hm;refine aT.mpr ?_;unfold aI;rw[q1.1];have q3:=q1.2.2;rw[VB]at q3;have q4:=(Ac.mp q3).1;rw[Bk]at q4;rwa[Dm<|by omega]at q3
      exact eU<|aT.mp this
    have h2:=BZ List.length S.keys;rw[Aa,Aa]at h2;exact b5<|by omega
   refine fM<|j4<|EE PySem.F.plainAttrs_dict PySem.F.slot_dict_setdefault PySem.F.type_dict_setdefault Y7<|ae 1 ⟨ZL S.dict,aP cF<|aP bt<|aP cF<|ae 0<|ae 2 ⟨R,_,_,.ref a.1,rfl,rfl,aq.of<|S.same _ _ hR.lst,cW,aC ⟨a.1,_,_,.ref a.2,rfl,rfl,aJ.of et,rfl,ae 3 ⟨a.2,_,_,.str z,rfl,rfl,aq.of el,pK hz,?_⟩⟩⟩⟩;refine dF<|ax ⟨Z0,λl0 mq=>?_⟩;have gP:d≠l0:=bq S.dict mq;refine⟨d,kvs,Sum.inr z,.ref l0,rfl,rfl,by rw[av gP];exact S.dict,hlen,?_⟩;cases hA:A' z with
   | some pr=>
    obtain⟨a2,k8⟩:=pr;obtain⟨q1,q2,q3,q4⟩:=S.at' z a2 k8 hA;have yg:a2≠l0:=bq q3 mq;refine .inl ⟨.ref a2,by rw[S.val z,hA];rfl,a2,rfl,⟨_,by rw[av yg];exact q3⟩,?_⟩;refine dR<|ah<|ae 2<|ah<|ae 3<|ax ⟨Z2,λt kZ=>?_⟩;have yh:a2≠t:=λe=>by rw[<- e,av yg,q3]at kZ;cases kZ
    refine⟨k8.map V.ref,by rw[av yh,av yg];exact q3,?_,?_⟩
    ·rw[Aa,q4.length];have h1:(bL (bh (n.take r)++bw r ((row n r).take p) 0) z).length<=100000:=by
      unfold bL;rw[Aa];refine By (Dl _ _) ?_;rw[Af];have h2:(bh<|n.take r).length<=1000:=by
       have:=BZ List.length<|k6 (n.take r) 0;rw[Aa]at this;unfold bh;rw[this];exact By (O5 n r) ht
      have h3:(bw r ((row n r).take p) 0).length<=1000:=by
       unfold bw;rw[Aa,List.length_zipIdx,Bk];have h1:(row n r).length<=(ag n).length:=by
        exact iD n r
       omega
      omega
     exact b5 h1
    ·refine aW ⟨kvs,ks,(λy=>if y=z then some (a2,k8++[t])else A' y),_,?_,rfl⟩;rw[next];exact S.old (e:=(r,p)) hA mq kZ
   | none=>
    refine .inr ⟨by rw[S.val z,hA];rfl,l0,rfl,⟨_,by rw[av gP.symm];exact aA⟩,?_⟩;refine dR<|ah<|ae 2<|ah<|ae 3<|ax ⟨Z2,λt kZ=>?_⟩;have mG:l0≠t:=λe=>by rw[<- e,av gP.symm,aA]at kZ;cases kZ
    refine⟨[],by rw[av mG,av gP.symm,aA],by show 0 < sizeLine;decide,?_⟩;refine aW ⟨putK kvs (Sum.inr z)<|.ref l0,ks++[z],(λy=>if y=z then some (l0,[t])else A' y),_,?_,rfl⟩;rw[next];exact S.new (e:=(r,p)) hA mq kZ
  ·rintro σ H4 ⟨kvs,ks,A',u2,S,rfl⟩;refine aW ⟨kvs,ks,A',_,_,?_,rfl⟩;rw[rX hi];rwa[Bx]at S
 ·rintro σ H3 ⟨kvs,ks,A',u1,u2,S,rfl⟩;rw[Bx]at S;exact bQ<|ae 1<|q d ks H3 S.same S.free S.whole
abbrev NO:Ò:=["_law_rows","_law_seats_here","_law_end","_law_pair"]
def iH:ak NO ["_law_rows","_law_seats_here","_law_end"] (aU E9):=⟨rfl,rfl,rfl,by decide +kernel,rfl,by decide +kernel,by decide +kernel⟩
theorem ZN{f:Addr}{fd:FuncData}(F:bE K "_law_other" "_law_other" E9 f fd)(T:Txt mg):aG P w K mg base bH 1 f fd ["_law_rows","_law_seats_here","_law_end"] yB:=by
 refine F.gb iH (λvs H Q E h=>?_) λb0 H vs Q E hr h=>?_
 ·obtain⟨R,d,t,as,n,ks,e,rfl,_⟩:=h;rfl
 obtain⟨R,d,t,as,n,ks,e,rfl,hR,hS,hT,ht,he,q⟩:=h;have nd:=iH.nd;have hu:=hr.hU;obtain⟨z,hz⟩:=af.mp he;have aY:=cQ hz;obtain⟨a,ea,cW,et,el,er⟩:=hR.at aY;obtain⟨kvs,h1,h2,h3⟩:=hS.dict;obtain⟨pa,ts,v1,v2,v3⟩:=h3 z<|eU hz;obtain⟨x,y,hp,FR,rQ⟩:=pJ hT hz;rw[hp]at v3;cases v3 with
 | cons x1 v3=>
 cases v3 with
 | cons y1 v3=>
 cases v3;rename_i tx ty;show Run _ _ _ [some<|.ref R,some<|.ref d,some<|.ref t,none] H;have fc:=hr.u1;refine aX 3 nd<|gR fc<|ae 1<|aP cF<|aP bt<|aP cF<|ae 0<|aP bt<|ae 2<|aC ⟨t,_,_,.int (e.1:Int),rfl,rfl,aJ.of ht,rfl,R,_,_,.ref a.1,rfl,rfl,aq.of hR.lst,cW,aC ⟨a.1,_,_,.ref a.2,rfl,rfl,aJ.of et,rfl,?_⟩⟩;refine aP bt (ae 2<|aC ⟨t,_,_,.int (e.2:Int),rfl,rfl,aJ.of ht,rfl,a.2,_,_,.str z,rfl,rfl,aq.of el,pK hz,d,.ref pa,rfl,by rw[<- v1];exact a8.k (k:=Sum.inr z) h1,?_⟩);show Run _ _ _ [some<|.ref R,some<|.ref d,some<|.ref t,some<|.ref pa] H;refine bQ<|aP cF<|ae 3<|lY OV T.uE TX<|ah<|jT (OS hu)<|aP cF<|ae 3<|aC ⟨pa,_,_,.ref tx,rfl,rfl,aq.of v2,rfl,ae 2 ⟨1,_,by decide,Zw x1 ht,?_⟩⟩
 by_cases c:x=e
 ·rw[BW c];refine ax ⟨_,rfl,pa,[.ref tx,.ref ty],1,.ref ty,rfl,rfl,aq.of v2,rfl,q ty ?_⟩;have e1:other n e=y:=by unfold other;simp only[hz,hp];simp[c]
  rw[e1];exact y1
 ·rw[BR c];refine ax ⟨_,rfl,pa,[.ref tx,.ref ty],0,.ref tx,rfl,rfl,aq.of v2,rfl,q tx ?_⟩;have e1:other n e=x:=by unfold other;simp only[hz,hp];simp[c]
  rw[e1];exact x1
abbrev NT:Ò:=["_law_rows","_law_seats_here","_law_end","_law_turn","_law_other_here"]
def j8:ak NT ["_law_rows","_law_seats_here","_law_end","_law_turn"] (aU FA):=⟨rfl,rfl,rfl,by decide +kernel,rfl,by decide +kernel,by decide +kernel⟩
def ZO{f:Addr}{fd:FuncData}(F:bE K "_law_step" "_law_step" FA f fd)(T:Txt mg)(G:aQ P w K mg base 1 "_law_other" ["_law_rows","_law_seats_here","_law_end"] yB) :
  aG P w K mg base bH 2 f fd ["_law_rows","_law_seats_here","_law_end","_law_turn"] FL:=by
 refine F.gb j8 (λvs H Q E h=>?_) λb0 H vs Q E hr h=>?_
 ·obtain⟨R,d,t,as,n,ks,e,rfl,_⟩:=h;rfl
 obtain⟨R,d,t,as,n,ks,e,rfl,hR,hS,hT,ht,he,q⟩:=h;have nd:=j8.nd;have ho:=db hT he;obtain⟨z,hz⟩:=af.mp ho;have aY:=cQ hz;have jN:=gy hz;obtain⟨a,ea,cW,et,el,er⟩:=hR.at aY;show Run _ _ _ [some<|.ref R,some<|.ref d,some<|.ref t,some<|.int 1,none] H;refine aX 4 nd<|bj G hr<|ah<|ae 0<|ah<|ae 1<|ah<|ae 2<|ax ⟨R,d,t,as,n,ks,e,rfl,hR,hS,hT,ht,he,λu hu=>?_⟩;show Run _ _ _ [some<|.ref R,some<|.ref d,some<|.ref t,some<|.int 1,some<|.ref u] H;refine bQ<|dR<|ah<|aP bt<|ae 4<|aC ⟨u,_,_,.int ((other n e).1:Int),rfl,rfl,aJ.of hu,rfl,?_⟩;refine ah<|a7 cL<|a7 gM<|aP bt<|ae 4<|aC ⟨u,_,_,.int ((other n e).2:Int),rfl,rfl,aJ.of hu,rfl,ae 3 ⟨_,_,rfl,rfl,?_⟩⟩;refine b4 dE T.len DR<|ah<|aP bt<|aP cF<|ae 0<|aP bt<|ae 4<|aC ⟨u,_,_,.int ((other n e).1:Int),rfl,rfl,aJ.of hu,rfl,R,_,_,.ref a.1,rfl,rfl,aq.of hR.lst,cW,aC ⟨a.1,_,_,.ref a.2,rfl,rfl,aJ.of et,rfl,ax ⟨a.2,_,rfl,.inl<|aq.of el,?_⟩⟩⟩;rw[Aa];refine⟨_,_,rfl,rfl,by omega,ax ⟨Z2,λp hp=>?_⟩⟩;refine q p _ (aS hp _) hp ?_;rw[aA];unfold Nt.step Nt.left;show some (HO.tup [.int ((other n e).1:Int),.int<|(((other n e).2:Int)+1) % ((row n (other n e).1).length:Int)])=some (HO.tup [.int ((other n e).1:Int),.int ((((other n e).2+1) % (row n (other n e).1).length:Nat):Int)]);rw[Int.natCast_emod];rfl
abbrev NF:Ò:=["_law_rows","_law_seats_here","_law_end","_law_face_here","_law_here"]
def j9:ak NF ["_law_rows","_law_seats_here","_law_end"] (aU FC):=⟨rfl,rfl,rfl,by decide +kernel,rfl,by decide +kernel,by decide +kernel⟩
def gk(n:Net)(e:Nt.End)(j:Nat):List Nt.End:=(List.range j).map λi=>it (step n) i e
def ZP(n:Net)(e:Nt.End)(j:Nat):gk n e (j+1)=gk n e j++[it (step n) j e]:=by
 unfold gk;rw[Do,Ak];rfl
def ZQ{f:Addr}{fd:FuncData}(F:bE K "_law_face" "_law_face" FC f fd)(T:Txt mg)(G:aQ P w K mg base 2 "_law_step" ["_law_rows","_law_seats_here","_law_end","_law_turn"] FL) :
  aG P w K mg base bH 3 f fd ["_law_rows","_law_seats_here","_law_end"] FO:=by
 refine F.gb j9 (λvs H Q E h=>?_) λb0 H vs Q E hr h=>?_
 ·obtain⟨R,d,t,as,n,ks,e,rfl,_⟩:=h;rfl
 obtain⟨R,d,t,as,n,ks,e,rfl,hR,hS,hT,ht,he,hb,q⟩:=h;have nd:=j9.nd;have hu:=hr.hU;obtain⟨k,k0,k1,k2⟩:=EG (f:=step n) (S:=ends n) (λa ha=>rW hT ha) (λa ha b hb=>O4 hT ha hb) he;show Run _ _ _ [some<|.ref R,some<|.ref d,some<|.ref t,none,none] H;refine aX 3 nd<|dF<|ah<|ae 2<|ax ⟨Z1,λl hl=>?_⟩;have g1:=aS hl<|.lst [.ref t];refine aX 4 nd<|bj G hr<|ah<|ae 0<|ah<|ae 1<|ah<|ae 2<|ah<|aC<|ax ⟨R,d,t,as,n,ks,e,rfl,hR.same g1,hS.same g1,hT,g1 _ _ ht,he,λu H1 s1 nu eu=>?_⟩;show Run _ _ _ [some<|.ref R,some<|.ref d,some<|.ref t,some<|.ref l,some<|.ref u] H1;refine yc (λm σ H2=>∃(j:Nat) (ts:List Addr) (u:Addr),m=k - j/\0 < j/\j<=k/\aj H H2/\H2 l=some (.lst<|ts.map V.ref)/\Pd H2 ts (gk n e j)/\H2 u=some (Tp<|it (step n) j e)/\(∀ i,0 < i->i < j->it (step n) i e≠e)/\σ=[some<|.ref R,some<|.ref d,some<|.ref t,some<|.ref l,some<|.ref u])
  (m0:=k - 1) ⟨1,[t],u,rfl,Fh,k0,g1.trans s1,s1 _ _ aA,.cons (s1 _ _<|g1 _ _ ht) .nil,eu,λi h1 h2=>by omega,rfl⟩ ?_
 rintro m σ H2 ⟨j,ts,u,rfl,j0,j1,sH,el,ep,eu,hf,rfl⟩;refine b8 (uA hu) (ae 4<|ae 2 ⟨1,_,by decide,Zx eu<|sH _ _ ht,_,rfl,?_⟩);have pl:=ep.length;have ol:(gk n e j).length=j:=by unfold gk;simp
 by_cases c:it (step n) j e=e
 ·rw[BW c];refine bu (bQ<|ae 3<|q l ts (gk n e j) H2 sH hl el ep ⟨by omega,by omega,λi hi=>?_,by rw[ol];exact c,λi h1 h2=>hf i h1<|by omega⟩);unfold gk;rw[Ai,Ed<|by omega];rfl
 ·rw[BR c];have jk:j < k:=by
   rcases Di j k with h | h
   ·exact h
   ·have:j=k:=by omega
    subst this;exact absurd k2 c
  refine bY (fM<|j4<|ae 3 ⟨l,rfl,⟨_,el⟩,ae 4 ⟨_,el,by rw[Aa];exact b5 (by omega),?_⟩⟩);have s2:aj H (upd H2 l<|.lst<|ts.map V.ref++[.ref u]):=fb sH hl;have kt:∀ b f,H2 b=some (Tp f)->(upd H2 l<|.lst<|ts.map V.ref++[.ref u]) b=some (Tp f):=λb f h=>by
   rw[av<|uC h el];exact h
  have Pa:=kt u _ eu;refine aX 4 nd<|bj G hr<|ah<|ae 0<|ah<|ae 1<|ah<|ae 4<|ah<|aC<|ax ⟨R,d,u,as,n,ks,it (step n) j e,rfl,hR.same s2,hS.same s2,hT,Pa,j6 (λa ha=>rW hT ha) he j,λv H3 s3 nv ev=>?_⟩;refine aW ⟨k - (j+1),by omega,j+1,ts++[u],v,rfl,Ga _,jk,s2.trans s3,?_,?_,ev,λi h1 h2=>?_,rfl⟩
  ·rw[Ak];exact s3 _ _ aA
  ·rw[ZP];exact(ep.keep λb f h=>s3 _ _<|kt b f h).append<|.cons (s3 _ _ Pa) .nil
  ·rcases Nat.lt_succ_iff_lt_or_eq.mp h2 with h | h
   ·exact hf i h1 h
   ·rw[h];exact c
end
end E6
namespace Nt
open PySem L2
def Full(n:Net):Prop:=(∃ nm,n=[(nm,[])])\/(n≠[]/\∀ i,i < n.length->row n i≠[])
def eW(n:Net)(c:End):Prop:=c.1 < n.length/\c.2 < max 1 (row n c.1).length
def ins(n:Net)(c:End)(z:Str):Net:=n.modify c.1 λr=>(r.1,r.2.take c.2++z :: r.2.drop c.2)
def gS(n:Net)(c:End)(z:Str):(ins n c z).length=n.length:=by unfold ins;rw[List.length_modify]
theorem FU(n:Net)(c:End)(z:Str):(ins n c z).map (·.1)=n.map (·.1):=by
 unfold ins;refine Ds λi=>?_;rw[Ai,Ai,Fi];cases n[i]? with
 | none=>rfl
 | some r=>by_cases h:c.1=i <;> simp[h]
def rZ(n:Net)(c:End)(z:Str)(i:Nat)(hc:c.1 < n.length):row (ins n c z) i=if c.1=i then(row n i).take c.2++z :: (row n i).drop c.2 else row n i:=by
 unfold row ins;rw[Fi]
 by_cases h:c.1=i
 ·subst h;rw[Ab hc];simp
 ·rw[BL h];cases n[i]? with
  | none=>simp[h]
  | some r=>simp[h]
theorem lg:∀(n:Net) (c:End) (z:Str),c.1 < n.length->(ag<|ins n c z).Perm (z :: ag n)
 | [],c,z,h=>by simp at h
 | a :: n,(0,p),z,h=>by
  unfold ins ag;simp only[List.modify_zero_cons,Cf];have:(a.2.take p++z :: a.2.drop p).Perm (z :: a.2):=by
   refine List.perm_middle.trans ?_;rw[Dc]
  exact this.append_right _
 | a :: n,(i+1,p),z,h=>by
  have ih:=lg n (i,p) z (by simpa using h);unfold ins ag at ih ⊢;simp only[List.modify_succ_cons,Cf];refine(ih.append_left a.2).trans ?_;exact List.perm_middle
def FV{n:Net}{c:End}{z:Str}(F:Full n)(hc:c.1 < n.length):n.length=1\/(∀ i,i < n.length->row n i≠[])->(∀ i,i < (ins n c z).length->row (ins n c z) i≠[])/\ins n c z≠[]:=by
 intro h;have hl:=gS n c z;refine⟨λi hi=>?_,λe=>?_⟩
 ·rw[rZ n c z i hc]
  by_cases q:c.1=i
  ·rw[BP q];simp
  ·rw[BL q]
   rcases h with h | h
   ·rw[hl]at hi;omega
   ·exact h i<|by omega
 ·rw[e]at hl;simp at hl;omega
def Full.some{n:Net}(F:Full n):n≠[]:=by
 rcases F with ⟨nm,rfl⟩ | h
 ·simp
 ·exact h.1
def Full.either{n:Net}(F:Full n):n.length=1\/(∀ i,i < n.length->row n i≠[]):=by
 rcases F with ⟨nm,rfl⟩ | h
 ·exact .inl rfl
 ·exact .inr h.2
def Full.cI{n:Net}(F:Full n)(h0:row n 0≠[]){c:End}(hc:eW n c):c∈ends n:=by
 rcases F with ⟨nm,rfl⟩ | h
 ·exact absurd rfl h0
 ·have:=h.2 c.1 hc.1;have hp:0 < (row n c.1).length:=Dk.mpr this;have aY:c.2 < (row n c.1).length:=by
   have:=hc.2;omega
  exact af.mpr<|ye aY
def ZR{n:Net}{e:End}(h:e∈ends n):eW n e:=by
 obtain⟨z,h⟩:=af.mp h;have:=gy h;exact⟨cQ h,by omega⟩
def pX(H H':Hp)(bad:List Addr):Prop:=∀ b o,H b=some o->b∉bad->H' b=some o
def Pb(zs:Ò)(i:Nat)(z:Str):insertAt (zs.map V.str) i (.str z)=(zs.take i++z :: zs.drop i).map V.str:=by
 unfold insertAt;rw[Ak,Bi,List.map_take,List.map_drop]
theorem ai.ins{H:Hp}{R:Addr}{as:Ð}{n:Net}(h:ai H R as n){c:End}{z:Str}{a:Addr×Addr}(ha:as[c.1]?=some a)(hc:c.1 < n.length) :
  ai (upd H a.2<|Ls<|(row n c.1).take c.2++z :: (row n c.1).drop c.2) R as (Nt.ins n c z):=by
 have q0:=h.tup c.1 a n[c.1] ha<|Ab hc;have ZS:R≠a.2:=by
  intro e;have h1:=h.lst;rw[e,q0.2]at h1;have h2:=HO.lst.inj<|Option.some.inj h1;have h3:=BZ List.length h2;cases hm:n[c.1].2 with
  | nil=>
   rw[hm]at h2;have:as.map (λa=>V.ref a.1)=[]:=h2.symm;have hl:=BZ List.length this;rw[Aa,h.len]at hl;rw[hl]at hc;exact absurd hc<|Eb _
  | cons y r=>
   rw[hm]at h2;cases as with
   | nil=>simp at h2
   | cons b bs=>
    simp at h2
 have er:row n c.1=n[c.1].2:=by unfold row;rw[Ab hc];rfl
 refine⟨by rw[gS];exact h.len,by rw[av ZS];exact h.lst,λi b r hb hr=>?_,h.inj⟩;unfold Nt.ins at hr;rw[Fi]at hr;cases hn:n[i]? with
 | none=>rw[hn]at hr;by_cases q:c.1=i <;> simp[q]at hr
 | some r0=>
  rw[hn]at hr;have q1:=h.tup i b r0 hb hn;have t1:b.1≠a.2:=ce q1.1 q0.2 λe=>nomatch e
  by_cases q:c.1=i
  ·subst q;rw[Ab hc]at hn;cases hn;rw[ha]at hb;cases hb;simp at hr;subst hr;refine⟨by rw[av t1];exact q1.1,?_⟩;rw[aA,er]
  ·simp[q]at hr;subst hr;have t2:b.2≠a.2:=λe=>by
    have l1:i < as.length:=(Ac.mp hb).1;have l2:c.1 < as.length:=(Ac.mp ha).1;have x1:(as.map (·.2))[i]?=some b.2:=by rw[Ai,hb];rfl
    have x2:(as.map (·.2))[c.1]?=some a.2:=by rw[Ai,ha];rfl
    obtain⟨y1,z1⟩:=Ac.mp x1;obtain⟨y2,z2⟩:=Ac.mp x2;exact q<|(Gf (h₀:=y2) (h₁:=y1) h.inj).mp<|z2.trans<|e.symm.trans z1.symm
   exact⟨by rw[av t1];exact q1.1,by rw[av t2];exact q1.2⟩
def ai.more{H:Hp}{R t l:Addr}{as:Ð}{n:Net}{pt:Str}{zs:Ò}(h:ai H R as n)(ht:H t=some (.tup [.str pt,.ref l]))(hl:H l=some (Ls zs))(hn:l∉as.map (·.2))(hR:l≠R) :
  ai (upd H R<|.lst<|as.map (λa=>V.ref a.1)++[.ref t]) R (as++[(t,l)]) (n++[(pt,zs)]):=by
 have bU:=h.len;refine⟨by rw[Af,Af,bU];rfl,by rw[aA,Ak];rfl,λi b r hb hr=>?_,?_⟩
 ·rcases Di i as.length with c | c
  ·rw[As c]at hb;rw[As<|by omega]at hr;have q:=h.tup i b r hb hr;have t1:b.1≠R:=ce q.1 h.lst λe=>nomatch e;have t2:b.2≠R:=by
    intro e;have h1:=h.lst;rw[<- e,q.2]at h1;have h2:=HO.lst.inj<|Option.some.inj h1;cases as with
    | nil=>simp at c
    | cons b' bs=>
     cases hm:r.2 with
     | nil=>rw[hm]at h2;simp at h2
     | cons y r=>rw[hm]at h2;simp at h2
   exact⟨by rw[av t1];exact q.1,by rw[av t2];exact q.2⟩
  ·have e:i=as.length:=by
    have:=(Ac.mp hb).1;rw[Af]at this;simp at this;omega
   subst e;rw[Az<|An _]at hb;rw[bU,Az<|An _]at hr;simp at hb hr;subst hb hr;have t1:t≠R:=ce ht h.lst λe=>nomatch e;exact⟨by rw[av t1];exact ht,by rw[av hR];exact hl⟩
 ·rw[Ak,Cj];exact⟨h.inj,by simp,λx hx y hy e=>by simp at hy;subst hy e;exact hn hx⟩
def ai.lists{H:Hp}{R:Addr}{as:Ð}{n:Net}(h:ai H R as n){x:Addr×Addr}(hx:x∈as):∃ zs,H x.2=some (Ls zs):=by
 obtain⟨i,hi,e⟩:=Cy.mp hx;have hl:=h.len;exact⟨_,(h.tup i x (n[i]'(by omega)) (by rw[<- e];exact Ab hi)<|Ab<|by omega).2⟩
def ai.fresh{H:Hp}{R l:Addr}{as:Ð}{n:Net}(h:ai H R as n)(hl:H l=none){x:Addr×Addr}(hx:x∈as):l≠x.2:=by
 obtain⟨zs,e⟩:=h.lists hx;exact(bq e hl).symm
def jy(n:Net):(ends n).length=(ag n).length:=by
 unfold ends bh;rw[Aa,<- k6 n 0,Aa]
def fA.ends{n:Net}(T:aw n){e:End}{fs:List End}(h:fA n e fs)(he:e∈ends n):∀ c∈fs,c∈Nt.ends n:=by
 intro c hc;obtain⟨i,hi,e2⟩:=Cy.mp hc;have:=h.at' i hi;rw[Ab hi,e2]at this;rw[Option.some.inj this];exact j6 (λa ha=>rW T ha) he i
def yC{n:Net}{c k:End}{z:Str}(hc:eW n c)(hk:k.1 < n.length):eW (ins n k z) c:=by
 refine⟨by rw[gS];exact hc.1,?_⟩;rw[rZ n k z c.1 hk];have:=hc.2
 split
 ·rw[Af,Ap,Bk,Dh];omega
 ·exact this
def dbl(zs:Ò):Ò:=zs.flatMap λz=>[z,z]
theorem FX(y:Str):∀ zs:Ò,(dbl zs).count y=2 * zs.count y
 | []=>rfl
 | z :: r=>by
  unfold dbl;rw[Cf];have ih:=FX y r;unfold dbl at ih;rw[Ep,ih,Da,Da,Da,List.count_nil];omega
def iI{y:Str}{zs:Ò}:y∈dbl zs↔y∈zs:=by
 rw[<- De,FX,<- De];omega
theorem FY:∀ zs:Ò,(dbl zs).length=2 * zs.length
 | []=>rfl
 | z :: r=>by
  unfold dbl;rw[Cf,Af];have ih:=FY r;unfold dbl at ih;rw[ih,Ap];simp;omega
def ZT(zs:Ò)(z:Str):dbl (zs++[z])=dbl zs++[z,z]:=by
 unfold dbl;rw[Dv];rfl
def Pg{n:Net}{zs:Ò}(hn:zs.Nodup)(p:(ag n).Perm<|dbl zs):aw n:=λz hz=>by
 rw[p.count_eq,FX];have h1:z∈zs:=iI.mp<|p.mem_iff.mp hz;rw[hn.count,BP h1]
def NE(n:Net):Prop:=∀ r∈n,r.2≠[]
def iJ{n:Net}{i:Nat}(h:i < n.length):row n i=n[i].2:=by unfold row;rw[Ab h];rfl
def ZU{n:Net}(h:NE n)(h0:n≠[]):Full n:= .inr ⟨h0,λi hi=>by rw[iJ hi];exact h _<|Bu hi⟩
def Full.ne{n:Net}(h:Full n):(∃ nm,n=[(nm,[])])\/NE n:=by
 rcases h with h | ⟨_,h⟩
 ·exact .inl h
 ·refine .inr λr hr=>?_;obtain⟨i,hi,rfl⟩:=Cy.mp hr;have:=h i hi;rwa[iJ hi]at this
theorem Ph:∀(n:Net) (k:Nat) (h:k < n.length),(ag n).Perm<|n[k].2++ag (n.eraseIdx k)
 | [],k,h=>by simp at h
 | a :: n,0,h=>by unfold ag;simp
 | a :: n,k+1,h=>by
  have ih:=Ph n k (by simpa using h);unfold ag at ih ⊢;simp only[Cf,List.getElem_cons_succ,RQ];refine(ih.append_left a.2).trans ?_;rw[<- Ar,<- Ar];exact List.perm_append_comm.append_right _
def ZV(n:Net)(k:Nat)(h:k < n.length):(n.map (·.1)).Perm (n[k].1 :: (n.eraseIdx k).map (·.1)):=by
 have:=(bF.bO n k h).map (·.1);exact this.symm
def F0(zs:Ò)(i:Nat):(zs.drop i++zs.take i).Perm zs:=by
 refine Ci.trans ?_;rw[Dc]
def ai.upd{H:Hp}{R x:Addr}{as:Ð}{n:Net}(h:ai H R as n){xs:List V}{o:HO}(hx:H x=some (.lst xs))(hR:R≠x)(ha:∀ a∈as,a.2≠x):ai (upd H x o) R as n:=by
 refine⟨h.len,by rw[av hR];exact h.lst,λi a r h1 h2=>?_,h.inj⟩;have q:=h.tup i a r h1 h2;exact⟨by rw[av<|ce q.1 hx λe=>nomatch e];exact q.1,by rw[av<|ha a<|Au h1];exact q.2⟩
def F1{α:Type}(l:List α)(k i:Nat):(l.eraseIdx k)[i]?=if i < k then l[i]? else l[i+1]?:=by
 rw[Gb]
def ai.erase{H:Hp}{R:Addr}{as:Ð}{n:Net}(h:ai H R as n){k:Nat}(hk:k < n.length) :
  ai (L2.upd H R<|.lst<|(as.map λa=>V.ref a.1).eraseIdx k) R (as.eraseIdx k) (n.eraseIdx k):=by
 have hl:=h.len;refine⟨by rw[Cw,Cw,hl],?_,λi a r h1 h2=>?_,?_⟩
 ·rw[aA]
  congr 2
  refine Ds λi=>?_;rw[F1,Ai,Ai,Ai,F1]
  split <;> rfl
 ·rw[F1]at h1 h2;have q:H a.1=some (.tup [.str r.1,.ref a.2])/\H a.2=some (Ls r.2):=by
   by_cases c:i < k
   ·rw[BP c]at h1 h2;exact h.tup i a r h1 h2
   ·rw[BL c]at h1 h2;exact h.tup (i+1) a r h1 h2
  have t2:a.2≠R:=by
   intro e;have h3:=h.lst;rw[<- e,q.2]at h3;have h4:=HO.lst.inj<|Option.some.inj h3;cases as with
   | nil=>simp at hl;simp[<- hl]at hk
   | cons b bs=>
    cases hm:r.2 with
    | nil=>rw[hm]at h4;simp at h4
    | cons y r=>rw[hm]at h4;simp at h4
  exact⟨by rw[av<|ce q.1 h.lst λe=>nomatch e];exact q.1,by rw[av t2];exact q.2⟩
 ·have:((as.eraseIdx k).map (·.2)).Sublist (as.map (·.2)):=(List.eraseIdx_sublist as k).map _;exact h.inj.sublist this
def ZW(zs:Ò)(i:Nat):f7 (zs.map V.str) (some (i:Int)) none=(zs.drop i).map V.str:=by
 unfold f7;rw[HT.iz,HT.fZ,Aa];rw[Cq (by rw[Dh,Aa];omega),List.map_drop]
 rcases Nat.le_total i zs.length with h | h
 ·rw[Nat.min_eq_left h]
 ·rw[Nat.min_eq_right h,SQ (by simp),SQ<|by simpa using h]
def ZX(zs:Ò)(i:Nat):f7 (zs.map V.str) none (some (i:Int))=(zs.take i).map V.str:=by
 unfold f7;rw[HT.iz,HT.fZ,Aa,List.drop_zero,VB,List.map_take]
 rcases Nat.le_total i zs.length with h | h
 ·rw[Nat.min_eq_left h]
 ·rw[Nat.min_eq_right h,Cq (by simp),Cq<|by simpa using h]
end Nt
namespace L2
open PySem PySem.Spec PyProof.Rows
def yD{X:Cx}{e tg iter:Expr}{ifs:Õ}{scope:Scope}{pz:Pos}{gs:List Comprehension}{newAcc:Sem Value}{o0:Obj}{u0:Addr->HO}{inner:Value->Env->Sem Unit}{wi:TI}{σ:St}{H:Hp}{Q:VK}
  (eQ:∀(Q:Ï) (E:Ï) (s:Shared),Q (.ref s.heap.objs.size) {s with heap:=s.heap.push o0}->wpAny (model X.prog X.w) X.A newAcc Q E s) (g8:∀(H:Hp) (h:Heap),sysModules < h.objs.size->aB X.prog X.w H (h.push o0) h.objs.size (u0 h.objs.size))
  (hC:∀ acc env,Clause e 0 tg iter ifs acc env<|inner acc env) (he:eval e X.env=comprehension e scope X.env pz newAcc false (eval iter X.env) none) (jb:clausesOf e=⟨tg,iter,ifs,0⟩ :: gs)
  (sc:Scope) (N N':Ò) (n:Nat) (hi:PI X tg iter wi)
  (h:wi σ H λJ H1=>∀ D,H1 D=none->∀ cl C s₀ H₀ ex,hG (fq X N' scope cl C s₀ H₀ ex) tg ifs (inner (.ref D)<|compEnvC scope cl C X.env) J (λ_ H'=>Q (.ref D) H') (σ++List.replicate n none)<|upd H1 D<|u0 D)
  (hc:X.calm=true) (i7:X.env.scope=sc) (hN:X.N=N) (hk:me sc scope N N'=true) (hl:N'.length=N.length+n) (hs:∀ x,foldedSetIterable iter X.env x=pure x):Ev X e σ H Q:=by
 refine⟨λpins s I=>?_⟩;subst i7 hN;have ck:=cg.of hk;rw[he];refine KD (use:=none) jb hs (B8 λx hx hf=>I.ok.has x.1<|ck.free x hx hf) ck.kind ck.names<|aN (hi pins s σ H _ I h) λv s1 h1=>aN h1 λnF s2 h2=>?_;obtain⟨it,fp,tn,J,H2,e,I2,T,fJ,f2,q⟩:=h2;subst e;refine NX eQ g8 (Q:=Q) (RR:=λacc C=>compPost (model X.prog X.w) X.A X.xe none (EP X pins σ Q) acc C) hc ck hl hC I2 T fJ f2 q ?_;intro D C H' s' m IX hn hC c1 c2 c3 c4 qq;exact⟨m,hn,λh' i8=>⟨.ref D,H',IX.turned (t':=s'.toks) (λb o hb e=>i8.extBut b o hb e) hC (CG<|CG c1) (.inr c2) c3 c4,rfl,qq⟩⟩
def Pj{P:Program}{w:World}{k:Key}{u:Value}(h:(dj P w).is k u=true):RelV (kV k) u:=by
 rcases kL h with ⟨i,t,rfl,rfl⟩ | ⟨x,t,rfl,rfl⟩ <;> exact⟨t,rfl⟩
section
variable{X:Cx}{pins:Ñ}{σ:St}{H:Hp}{s:Shared}
theorem ZY{xs:List V}:∀{vs:Ô},vs.length=xs.length->(∀(j:Nat) u,vs[j]?=some u->∃ x,xs[j]?=some x/\RelV x u)->ay xs vs:=by
 induction xs with
 | nil=>
  intro vs h _;cases vs with
  | nil=>exact .nil
  | cons a b=>simp at h
 | cons x r ih=>
  intro vs h g;cases vs with
  | nil=>simp at h
  | cons u q=>
   obtain⟨x',e,ru⟩:=g 0 u rfl;simp only[RT,Option.some.injEq]at e;subst e;exact .cons ru<|ih (by simpa using h) λj u hu=>by simpa using g (j+1) u (by simpa using hu)
def ZZ(hc:X.calm=true):eZ X (.type "list") (λxs H Q=>∃ a kvs,xs=[.ref a]/\Rd H a (.dK kvs)/\∀ l,H l=none->Q (.ref l) (upd H l<|.lst<|kvs.map λp=>kV p.1)):=by
 intro pins s σ H xs us Q I r h;obtain⟨a,kvs,rfl,hH,q⟩:=h;obtain⟨u,rfl,ru⟩:=vals1 r;cases (show u=Value.ref a from ru);obtain⟨z,hd,vs,rel,dd⟩:=rA I.aE hH;obtain⟨ep,da⟩:=dd.dictAt;have hl:=rel.length;refine PySem.W.kdl_call (PySem.W.kdl_dict (knd:=dj X.prog X.w) (kvs:=vs) (ep:=ep) hd) (I.ok.hd hc) da (by omega) λh' tk acc c' hk hS uF=>?_;have rv:ay (kvs.map λp=>kV p.1) acc.toList:=by
  refine ZY (by rw[Bq,uF.1,Aa];omega) λj u hu=>?_;obtain⟨k,x,e,g⟩:=uF.2 j u (by rw[<- Bs];exact hu);refine⟨kV k,?_,Pj g⟩;have e2:(kvs.map (·.1))[j]?=some k:=by rw[rel.keys,Ai,e];rfl
  rw[Ai,Ay]at e2;obtain⟨p,e3,e4⟩:=e2;rw[Ai,e3,<- e4];rfl
 exact⟨.ref s.heap.objs.size,_,I.laid (t':=tk) hk (An _) (show aB X.prog X.w _ h' _ (.lst<|kvs.map λp=>kV p.1) from⟨by rw[Aa];exact z,acc.toList,c',rv,by rw[Array.toArray_toList];exact hS⟩),rfl,q _<|I.aE.fresh<|An _⟩
def Z4{d:Addr}{kvs:List (Key×V)}(I:Inv X pins σ H s)(e:H d=some (.dK kvs)):∃ o,s.heap.get? d=some o/\Inv X pins σ (upd H d<|.bI o<|.dK kvs) s:=by
 obtain⟨z,hd,vs,rel,dd⟩:=uf I.aE e;obtain⟨o,es,ep,ho,rest⟩:=id dd;refine⟨o,ho,?_⟩;exact lW (t':=s.toks) I (by rw[e];exact True.intro) ⟨rfl,λ_ _=>rfl⟩ ⟨o,ho⟩ (show aB X.prog X.w _ s.heap d (.bI o<|.dK kvs) from⟨ho,z,hd,vs,rel,dd⟩)
def F3(d:Addr)(o:Obj)(kvs:List<|Key×V):It:=
 ⟨λi H=>H d=some (.bI o<|.dK kvs)/\i < kvs.length,λi H x H'=>H'=H/\∃ p,kvs[i]?=some p/\x=kV p.1,λi H=>H d=some (.bI o<|.dK kvs)/\kvs.length<=i⟩
def Pk{P:Program}{w:World}{h:Heap}{d:Addr}{o:Obj}{es:Array DictEntry}{ep:Nat}{kvs:List (Key×V)}(aE:b7 P w H h)(e:H d=some (.bI o<|.dK kvs))(hd:o.data = .dict es ep):∃ vs,KV kvs vs/\h.DictAt (dj P w) d vs ep:=by
 obtain⟨ho,z,_,vs,rel,dd⟩:=(show aB P w H h d (.bI o<|.dK kvs)from aE d _ e);obtain⟨nB,o',fm,cJ,r1,r2,r3⟩:=dd.dictAt;have:o=o':=Option.some.inj<|ho.symm.trans cJ;subst this;rw[hd]at r2
 injection r2 with e1 e2
 subst e1;subst e2;exact⟨vs,rel,o,es,cJ,r1,hd,r3⟩
def Z5{P:Program}{w:World}{K:PySem.W.Frag}{tg:Expr}(d it:Addr)(o:Obj)(es:Array DictEntry)(ep:Nat)(kvs:List<|Key×V)(mI:o.data = .dict es ep):Turn P w K tg (F3 d o kvs) [it] it (λi h=>h.IsKeyIter it d i kvs.length ep) where
 mem:=by simp
 obj:=λi h st b hb=>by
  have e:b=it:=by simpa using hb
  subst e;obtain⟨o,e,c,d⟩:=st;exact⟨o,e,λv z=>by rw[d]at z;cases z⟩
 keep:=λi h h' st k=>let ⟨o,ho,r⟩:=st;⟨o,k it (by simp) o ho,r⟩
 item:=by
  intro X hP hw hK hc i pins s σ H E I hf st hg;subst hP hw hK;obtain⟨f0,f1,f2,f3,f4,f5⟩:=hf it (by simp);obtain⟨hd,hi⟩:=hg;obtain⟨vs,rel,da⟩:=Pk I.aE hd mI;have hl:=rel.length;have rM:i < vs.length:=by omega
  have hx:vs[i]?=some vs[i]:=Ab rM;rw[hl]at st;refine wpAny_pyNext_dict_item (k:=vs[i].1) (v:=vs[i].2) st da hx λkey h' hk dC i8=>?_;have I1:Inv X pins σ H {s with heap:=h'}:=I.turned (t':=s.toks) (λb o hb e=>i8.extBut b o hb e) f0 f1 f3 f4 f5;obtain⟨o2,e2,c2,d2⟩:=id dC;refine⟨_,rfl,AW (s:={s with heap:=h'}) e2 c2 d2 (by decide) ⟨kV vs[i].1,H,I1,Pj hk,⟨rfl,kvs[i],Ab hi,?_⟩,by rw[hl];exact dC,λb hb=>(hf b hb).1⟩⟩;have ek:=rel.keys;have e3:(kvs.map (·.1))[i]?=(vs.map (·.1))[i]?:=by rw[ek]
  rw[Ai,Ai,Ab hi,hx]at e3;have e4:kvs[i].1=vs[i].1:=Option.some.inj e3;rw[e4]
 done:=by
  intro X hP hw hK hc i pins s σ H E I hf st hg;subst hP hw hK;obtain⟨f0,f1,f2,f3,f4,f5⟩:=hf it (by simp);obtain⟨hd,hi⟩:=hg;obtain⟨vs,rel,da⟩:=Pk I.aE hd mI;have hl:=rel.length;rw[hl]at st;exact wpAny_pyNext_dict_end (I.ok.hd hc) st da (by rw[Bf];omega) λh' eb=>⟨rfl,I.turned (t':=s.toks) (λb o hb e=>eb b o hb e) f0 f1 f3 f4 f5⟩
 self:=λ_ _ _ _ _ st h=>wpAny_pyIter_keyiter st h
def Z6(tl:TE):TI:=λσ H R=>tl σ H λx H1=>∃ d kvs,x = .ref d/\H1 d=some (.dK kvs)/\∀ o,R (F3 d o kvs)<|upd H1 d<|.bI o<|.dK kvs
def Z7{tg l:Expr}{tl:TE}(hl:PE X l tl):PI X tg l (Z6 tl):=by
 intro pins s σ H R I h;refine aN (hl pins s σ H _ I h) λv s1 ⟨x,H1,I1,r1,q1⟩=>?_;obtain⟨d,kvs,e,hH,q⟩:=q1;subst e;cases (show v=Value.ref d from r1);obtain⟨o,ho,I2⟩:=Z4 I1 hH;obtain⟨z,pY,vs,rel,dd⟩:=uf I1.aE hH;obtain⟨ep,o',es,cJ,r1,r2,r3⟩:=dd.dictAt;have:o=o':=Option.some.inj<|ho.symm.trans cJ;subst this;refine wpAny_pyIter_dict pY ⟨o,es,cJ,r1,r2,r3⟩ ?_;refine⟨s1.heap.objs.size,[s1.heap.objs.size],_,_,_,rfl,I2.kept (t':=s1.toks) λb o e=>Ag _ e,Z5 d _ o es ep kvs r2,⟨_,At _ rfl,rfl,by rw[rel.length];rfl⟩,λb hb=>?_,q o⟩;have e:b=s1.heap.objs.size:=by simpa using hb
 subst e;exact I2.jM (An _)<|I2.aE.fresh<|An _
end
section
variable{X:Cx}{elt tg:Expr}{ifs:Õ}{scope:Scope}{σ:St}{H:Hp}{N':Ò}{A a d:Addr}{xs:List V}{kvs:List (Key×V)}{after:Hp->Prop}
def pZ(Pv:Nat->St->Hp->Prop)(h0:Pv 0 σ H)(hl:∀ i σ' H',i<=xs.length->Pv i σ' H'->aq X.K H' a xs)
  (hs : ∀ i x σ' H', xs[i]? = some x → Pv i σ' H' → xS X N' scope tg x σ' H' λσ2 H3 => xT X N' scope ifs σ2 H3 λb H4 =>
   if b=true then xR X N' scope elt σ2 H4 λv H5=>∃ ys,H5 A=some (.lst ys)/\ys.length < sizeLine/\Pv (i+1) σ2 (upd H5 A<|.lst<|ys++[v])else Pv (i+1) σ2 H4)
  (hd:∀ σ' H',Pv xs.length σ' H'->after H'):l9 X N' scope tg ifs elt (oW X.K a) A after σ H:=by
 refine⟨λi m σ' H'=>m=xs.length - i/\i<=xs.length/\Pv i σ' H',⟨_,rfl,Bz _,h0⟩,?_⟩;rintro i m σ' H' ⟨rfl,hi,p⟩;have q:=hl i σ' H' hi p
 by_cases aY:i < xs.length
 ·refine .inr ⟨⟨xs,xs[i],q,by simp[aY]⟩,Pv<|i+1,λσ' H' p'=>⟨xs.length - (i+1),by omega,rfl,aY,p'⟩,λx H2 y=>?_⟩;obtain⟨e,y⟩:=y;subst e;exact hs i x σ' _ (y xs q) p
 ·have e:i=xs.length:=by omega
  subst e;exact .inl ⟨⟨xs,q,An _⟩,hd σ' H' p⟩
def Z8{o:Obj}(Pv:Nat->St->Hp->Prop)(h0:Pv 0 σ H)(hl:∀ i σ' H',i<=kvs.length->Pv i σ' H'->H' d=some (.bI o<|.dK kvs))
  (hs : ∀ i p σ' H', kvs[i]? = some p → Pv i σ' H' → xS X N' scope tg (kV p.1) σ' H' λσ2 H3 => xT X N' scope ifs σ2 H3 λb H4 =>
   if b=true then xR X N' scope elt σ2 H4 λv H5=>∃ ys,H5 A=some (.lst ys)/\ys.length < sizeLine/\Pv (i+1) σ2 (upd H5 A<|.lst<|ys++[v])else Pv (i+1) σ2 H4)
  (hd:∀ σ' H',Pv kvs.length σ' H'->after H'):l9 X N' scope tg ifs elt (F3 d o kvs) A after σ H:=by
 refine⟨λi m σ' H'=>m=kvs.length - i/\i<=kvs.length/\Pv i σ' H',⟨_,rfl,Bz _,h0⟩,?_⟩;rintro i m σ' H' ⟨rfl,hi,p⟩;have q:=hl i σ' H' hi p
 by_cases aY:i < kvs.length
 ·refine .inr ⟨⟨q,aY⟩,Pv<|i+1,λσ' H' p'=>⟨kvs.length - (i+1),by omega,rfl,aY,p'⟩,λx H2 y=>?_⟩;obtain⟨e,p',ep,y⟩:=y;subst e y;exact hs i p' σ' _ ep p
 ·have e:i=kvs.length:=by omega
  subst e;exact .inl ⟨⟨q,An _⟩,hd σ' H' p⟩
def uG{zs:Ò}(f:Str->Bool)(hz:zs.length < sizeLine)(ha:H a=some (.lst<|zs.map V.str))(hA:H A=none)
  (hg:∀ cl C s₀ H₀ ex v v0 H' R,R (σ++[some v]) H'->Eg (fq X N' scope cl C s₀ H₀ ex) tg v (σ++[v0]) H' R)
  (hi:∀ cl C s₀ H₀ ex z ys T,T (f z) (upd H A<|.lst ys)->Ei (fq X N' scope cl C s₀ H₀ ex) ifs (σ++[some<|.str z]) (upd H A<|.lst ys) T)
  (he:∀ cl C s₀ H₀ ex z H' R,R (V.str z) H'->Ev (fq X N' scope cl C s₀ H₀ ex) elt (σ++[some<|.str z]) H' R) (q:after<|upd H A<|.lst<|(zs.filter f).map V.str) :
  l9 X N' scope tg ifs elt (oW X.K a) A after (σ++List.replicate 1 none) (upd H A<|.lst []):=by
 have ne:a≠A:=bq ha hA;refine pZ (xs:=zs.map V.str) (λk σ' H'=>(∃ v,σ'=σ++[v])/\H'=upd H A (.lst<|((zs.take k).filter f).map V.str)) ⟨⟨none,rfl⟩,by simp⟩ ?_ ?_ ?_
 ·rintro i σ' H' _ ⟨_,rfl⟩;exact aq.of<|by rw[av ne];exact ha
 ·rintro i x σ' H' hx ⟨⟨v,rfl⟩,rfl⟩;rw[Ai,Ay]at hx;obtain⟨z,Z9,rfl⟩:=hx;intro cl C s₀ H₀ ex;refine hg cl C s₀ H₀ ex _ _ _ _ ?_;intro cl C s₀ H₀ ex;refine hi cl C s₀ H₀ ex z _ _ ?_;have e:(zs.take<|i+1).filter f=(zs.take i).filter f++(if f z=true then [z]else []):=by
   rw[Ck,Z9,Cr]
   congr 1
   cases hf:f z <;> simp[hf]
  have hlen:((zs.take i).filter f).length<=zs.length:=By (Dl _ _)<|by rw[Bk];omega
  by_cases hf:f z=true
  ·rw[BP hf];intro cl C s₀ H₀ ex;refine he cl C s₀ H₀ ex z _ _ ⟨_,aA,by rw[Aa];omega,⟨_,rfl⟩,?_⟩;rw[tE,e,BP hf,Ak];rfl
  ·rw[BL hf];refine⟨⟨_,rfl⟩,?_⟩;rw[e,BL hf,Bg]
 ·rintro σ' H' ⟨_,rfl⟩;have e2:zs.take (zs.map V.str).length=zs:=Cq (by simp);rw[e2];exact q
theorem ka(z:Str)(zs:Ò):rq (.str z) (zs.map V.str)=zs.contains z:=by
 unfold rq
 induction zs with
 | nil=>rfl
 | cons y r ih=>
  rw[Bi,Fq,ih,List.contains_cons]
  congr 1
  show cM (.str y) (.str z)=(z == y)
  by_cases h:y=z
  ·subst h;simp[cM]
  ·have h':z≠y:=λq=>h q.symm;show(y == z)=(z == y);rw[beq_eq_false_iff_ne.mpr h,beq_eq_false_iff_ne.mpr h']
def jz(zs:Ò):(zs.map V.str).all jP=true:=by
 rw[Dw];intro x hx;obtain⟨z,_,rfl⟩:=Al.mp hx;rfl
def jd{e1 e2:Expr}{k:Nat}{pos:Pos}{t:Addr}{x y:V}{R:St->Hp->Prop}(hc:X.calm=true)(ht:aJ X.K H t [x,y])(h:Eg X e1 x σ H λσ1 H1=>Eg X e2 y σ1 H1 R)
  (hn:(assignEach [e1,e2] X.env).length=2:=by rfl) (cn:(assignEach [e1,e2] X.env).findIdx? (·.1)=none:=by rfl)
  (jx:(assignEach [e1,e2] X.env).map (·.2)=assign e1 X.env :: (assignEach [e2] X.env).map (·.2):=by rfl) (sf:(assignEach [e2] X.env).map (·.2)=assign e2 X.env :: (assignEach [] X.env).map (·.2):=by rfl) :
  Eg X (.Tuple [e1,e2] k pos) (.ref t) σ H R:=
 CL (Mp (t:=rk (λv σ H Q=>Eg X e1 v σ H Q)<|rk (λv σ H Q=>Eg X e2 v σ H Q) oV) hc (tL ph (tL ph Mm sf) jx) hn cn) ⟨t,_,rfl,ht,rfl,_,_,rfl,h.mono λσ1 H1 h1=>⟨_,_,rfl,h1.mono λσ2 H2 q=>⟨rfl,q⟩⟩⟩
end
end L2
namespace PySem
def getAttr?_miss_list{prog:Program}{w:World}{A:Around}{E:Ï}{s:Shared}{a:Addr}{o:Obj}{xs:Array Value}{k:Nat}{name:Str}{Q:Option Value->Shared->Prop}
  (hx:s.heap.get? a=some o) (hc:o.cls = .type "list") (i4:o.data = .seq xs k) (hd:o.dict=none) (uH:typeLookup (.type "list") name=pure none) (uI:(["__module__","__name__","__qualname__","__doc__","__annotations__"]:Ò).contains name=false) (hA:A.handled=none)
  (h:∀ h' tk e,Heap.NewExcOf s.heap h' e "AttributeError"->Q none {s with heap:=h',toks:=tk}) (hsz:name.length+100<=sizeLine:=by size_fits) :
  wpAny (model prog w) A (getAttr? (.ref a) name) Q E s:=by
 obtain⟨c,dct,dat,sl⟩:=o;simp only at hc i4 hd;subst hc i4 hd;obtain⟨hp,g,d,tk,os⟩:=s;have hT:∀ x8,(⟨hp,g,d,x8,os⟩:Shared).TypeIs (.ref a) "list":=λ_=>⟨_,hx,rfl⟩;have f1:=sub_AttributeError;have f3:=F.slot_list_getattribute.lookup;have f4:=F.slot_list_getattribute.bind<|.ref a;have f5:=am_list_getattr_none;unfold getAttr? getAttrBy? getAttrBy
 repeat (any_goals (first | assumption | exact hT _ | ((with_reducible show wpAny _ _ (call (Value.builtin "list.__getattribute__") _ _) _ _ _);refine OD F.slot_list_getattribute (hT _) am_entry_list_getattribute (F.args_list_getattribute_2 _ _) (meets_getattribute_miss_list a xs k sl name _ uH uI hsz) ⟨hx,hA,λh' x8 e gg=>?_⟩) | wp_step))
 obtain⟨t',u',he⟩:=gg.there;show wpAny _ _ (getattributeRaised _ _ _ _ _ _ _) _ _ _;unfold getattributeRaised
 repeat (any_goals (first | assumption | wp_step))
 exact h _ _ _ gg.of
namespace F
def bp:entryFor table "dict.update.loop" = some Builtin.«dict.update.loop»:=entryFor_of_tree<|by kernel_rfl
def aM:plainId "dict.update.loop" = true:=by decide +kernel
def fB:typeLookup (.type "list") "keys" = pure none:=by rw[SJ,MK];kernel_rfl
end F
section
variable{prog:Program}{w:World}{K:Type} [DecidableEq K] {knd:KeyKind prog w K} {A:Around} {R:Result->Shared->Prop}
def F4(knd:KeyKind prog w K)(h:Heap)(items:Ô)(gB:List<|K×Value):Prop:=
 items.length=gB.length/\∀(j:Nat) it,items[j]?=some it->∃ T key k v o n,it = .ref T/\gB[j]?=some (k,v)/\knd.is k key=true/\h.get? T=some o/\o.cls = .type "tuple"/\o.data = .seq #[key,v] n
def Z'(kvs:List<|K×Value)(k:K)(v:Value):(stored kvs k v).length<=kvs.length+1:=by
 unfold stored
 split
 ·rw[Aa];omega
 ·rw[Af];simp
theorem k4z{hB:Heap}{d I l:Addr}{items:Ô}{gB:List (K×Value)}(hd:hB.objs.size<=d)(hI:hB.objs.size<=I)(F5:d≠I)(hl:hB.IsList l items.toArray)(hp:F4 knd hB items gB)(hn:items.length < sizeLine)(hh:A.handled=none) :
  ∀(k i:Nat) (s:Shared) (acc:List<|K×Value),items.length - i=k->i<=items.length->(∀ b o,hB.get? b=some o->s.heap.get? b=some o)->s.heap.IsListIter I l i->s.heap.DictOf knd d acc->acc.length<=i ->
   (∀ h' tk,(∀ b o,b≠I->b≠d->s.heap.get? b=some o->h'.get? b=some o)->h'.DictOf knd d ((gB.drop i).foldl (λa p=>stored a p.1 p.2) acc)->R (.ok<|.ret .none) {s with heap:=h',toks:=tk}) ->
   codeAny (model prog w) A (.builtin "dict.update.loop" ⟨[.ref d,.ref I,rawInt i,.none],[]⟩) R s:=by
 have nb:∀ b o,hB.get? b=some o->b≠I/\b≠d:=λb o e=>⟨Bm<|Be (Aq e) hI,Bm<|Be (Aq e) hd⟩;intro k
 induction k with
 | zero=>
  intro i s acc hk hi gC cn hD bU hR;have xV:i=items.length:=by omega
  refine FQ F.bp ?_;rw[FN F.aM _];show wpAny _ A.in1 (pyNext (.ref I) >>= _) _ _ s;have nR:s.heap.IsList l items.toArray:=let ⟨o,ho,r⟩:=hl;⟨o,gC _ _ ho,r⟩
  refine BJ (wpAny_pyNext_list_end hh cn nR (by simp;omega) λh' eb=>?_);show wpAny _ A.in1 (Builtin.Dict.addKeywords d [] >>= _) _ _ _;refine BJ<|BK<|BK ?_;refine hR h' s.toks (λb o hb _ e=>eb b o hb e) ?_;rw[List.drop_eq_nil_of_le<|by have:=hp.1;omega];exact hD.extBut eb F5
 | succ k ih=>
  intro i s acc hk hi gC cn hD bU hR;have aY:i < items.length:=by omega
  have hx:items[i]?=some items[i]:=Ab aY;obtain⟨T,key,kk,v,o,n,e1,e2,e3,e4,e5,e6⟩:=hp.2 i _ hx;rw[e1]at hx;refine FQ F.bp ?_;rw[FN F.aM _];show wpAny _ A.in1 (pyNext (.ref I) >>= _) _ _ s;have nR:s.heap.IsList l items.toArray:=let ⟨o,ho,r⟩:=hl;⟨o,gC _ _ ho,r⟩
  refine BJ (wpAny_pyNext_list_item cn nR (x:= .ref T) (by simpa using hx) λh' dC sb=>?_);have eT:h'.get? T=some o:=(sb.2 T (nb T o e4).1).trans<|gC _ _ e4;refine BJ<|CJ<|BJ<|wpAny_tryCatch ?_;unfold Builtin.Dict.pairItems;refine BJ<|KH (T:= "tuple") ⟨o,eT,e5⟩ ?_;rw[BP<|by decide];refine BJ<|wpAny_seqItems (s:={s with heap:=h'}) eT e6<|BK ?_;show wpAny _ _ (holding [key,v]<|dictSet d key v) _ _ _;refine CJ (wpAny_dictSet_pairs (knd:=knd) (s:={s with heap:=h'}) (k:=kk) e3 (hD.extBut sb.extBut F5) (λh2 D2 Pn=>?_)<|by omega);refine BK ⟨JD F.aM _,?_⟩;have Pp:∀ b o,b≠I->b≠d->s.heap.get? b=some o->h2.get? b=some o:=λb o h1 h3 e=>(Pn.2 b h3).trans<|(sb.2 b h1).trans e;refine ih (i+1) {s with heap:=h2,toks:=s.toks+1} (stored acc kk v) (by omega) aY (λb o e=>Pp b o (nb b o e).1 (nb b o e).2<|gC _ _ e) (dC.extBut Pn.extBut<|CG F5) D2 (by have:=Z' acc kk v;omega) λh3 tk k3 D3=>?_;refine hR h3 tk (λb o h1 mh e=>k3 b o h1 mh<|Pp b o h1 mh e) ?_;have e7:gB.drop i=(kk,v) :: gB.drop (i+1):=by
   obtain⟨hj,e8⟩:=Ac.mp e2;rw[RG hj,e8]
  rw[e7];exact D3
def j63{E:Ï}{s:Shared}{Q:Ï}{l:Addr}{ol:Obj}{nl:Nat}{items:Ô}{gB:List (K×Value)}(ho:s.heap.get? l=some ol)(hc:ol.cls = .type "list")(mI:ol.dict=none)(F6:ol.data = .seq items.toArray nl)(hp:F4 knd s.heap items gB)(hn:items.length < sizeLine)(hh:A.handled=none)
  (h:∀ h' tk,(∀ b o,s.heap.get? b=some o->h'.get? b=some o)->h'.DictOf knd s.heap.objs.size (gB.foldl (λa p=>stored a p.1 p.2) [])->Q (.ref s.heap.objs.size) {s with heap:=h',toks:=tk}) :
  wpAny (model prog w) A (call (.type "dict") [.ref l]) Q E s:=by
 refine callType_codes (Q₁:=λobj À=>obj = .ref s.heap.objs.size/\À={s with heap:=s.heap.push {cls:= .type "dict",data:= .dict #[]}}) F.kt_called_dict (F.kt_typeCall_dict_1 _) F.entry_dict_init (kt_code_dict_new _ ⟨rfl,rfl⟩) ?_;rintro obj À ⟨rfl,rfl⟩;have eQ:(s.heap.push {cls:= .type "dict",data:= .dict #[]}).DictOf knd s.heap.objs.size []:=Heap.DictOf.new s.heap;have cJ:(s.heap.push {cls:= .type "dict",data:= .dict #[]}).get? l=some ol:=Ag _ ho;refine⟨eQ.typeIs,F.args_dict_init_2 _ _,?_⟩;unfold Builtin.«dict.__init__»;refine BJ ?_;unfold Builtin.Dict.selfAndRest;refine BJ<|wpAny_notOrdered_dict eQ.typeIs ?_;show wpAny _ _ (pure (s.heap.objs.size,[Value.ref l])) _ _ _;refine BK ?_;show wpAny _ _ (Builtin.Dict.updateFrom "dict.__init__" s.heap.objs.size (.ref l) [] .none) _ _ _;unfold Builtin.Dict.updateFrom;refine BJ<|KH (T:= "list") ⟨ol,cJ,hc⟩ ?_;rw[BP<|by decide];refine BJ (getAttr?_miss_list cJ hc F6 mI F.fB (by decide) (by exact hh) λh' tk e ne=>?_);rw[BP (show(none:Option Value).isNone=true from rfl)];have kp:∀ b o,s.heap.get? b=some o->h'.get? b=some o:=λb o e=>ne.keeps b o<|Ag _ e;refine BJ<|HD ?_;have hL:h'.IsList l items.toArray:=⟨ol,kp _ _ ho,hc,nl,F6⟩;refine BJ<|QV hL ?_;refine BK ⟨JD F.aM _,?_⟩;have Pq:h'.DictOf knd s.heap.objs.size []:=let ⟨o,es,ep,ho,r⟩:=eQ;⟨o,es,ep,ne.keeps _ _ ho,r⟩
 have aY:s.heap.objs.size < h'.objs.size:=let ⟨o,es,ep,ho,r⟩:=Pq;Aq ho
 refine k4z (hB:=s.heap) (d:=s.heap.objs.size) (I:=h'.objs.size) (l:=l) (An _) (Co aY) (Bm aY) ⟨ol,ho,hc,nl,F6⟩ hp hn (by exact hh) _ 0 _ [] rfl (Bz _) (λb o e=>Ag _<|kp b o e) ⟨_,At _ rfl,rfl,rfl⟩ (Pq.push _) (Bz _) λh2 tk2 k2 D2=>?_;refine⟨rfl,h h2 tk2 (λb o e=>k2 b o (Bm<|Aq<|kp b o e) (Bm<|Aq e)<|Ag _<|kp b o e) D2⟩
end
end PySem
namespace L2
open PySem PySem.Spec PyProof.Rows
section
variable{X:Cx}{pins:Ñ}{σ:St}{H:Hp}{s:Shared}
theorem k2k{kvs:List (Key×V)}:∀{ps:List (Key×V)} {acc:List (Key×Value)} {rs:List (Key×Value)},KV ps acc->KV kvs rs->KV (kvs.foldl (λa p=>putK a p.1 p.2) ps) (rs.foldl (λa p=>stored a p.1 p.2) acc):=by
 induction kvs with
 | nil=>intro ps acc rs h g;cases g;exact h
 | cons p r ih=>
  intro ps acc rs h g;cases g with
  | @cons _ q _ r' hq hr=>
   obtain⟨e1,e2⟩:=hq;rw[Dg,Dg];refine ih ?_ hr;rw[<- e1];exact h.put p.1 e2
theorem Pt{P:Program}{w:World}{h:Heap}:∀{kvs:List (Key×V)} {ts:List Addr},ts.length=kvs.length->(∀(j:Nat) t kv,ts[j]?=some t->kvs[j]?=some kv->∃ key v o m,(dj P w).is kv.1 key=true/\RelV kv.2 v/\h.get? t=some o/\o.cls = .type "tuple"/\o.data = .seq #[key,v] m) ->
  ∃ rs:List<|Key×Value,KV kvs rs/\∀(j:Nat) t,ts[j]?=some t->∃ key k v o m,rs[j]?=some (k,v)/\(dj P w).is k key=true/\h.get? t=some o/\o.cls = .type "tuple"/\o.data = .seq #[key,v] m
 | [],ts,hl,_=>by
  have:ts=[]:=Bj.mp hl;subst this;exact⟨[],.nil,λj t h=>by simp at h⟩
 | kv :: r,[],hl,_=>by simp at hl
 | kv :: r,t :: ts,hl,hp=>by
  obtain⟨key,v,o,m,q1,q2,q3,q4,q5⟩:=hp 0 t kv rfl rfl;obtain⟨rs,hk,hr⟩:=Pt (kvs:=r) (ts:=ts) (by simpa using hl) λj t kv h1 h2=>hp (j+1) t kv (by simpa using h1) (by simpa using h2);refine⟨(kv.1,v) :: rs,.cons ⟨rfl,q2⟩ hk,λj t' ht=>?_⟩;cases j with
  | zero=>
   cases ht;exact⟨key,kv.1,v,o,m,rfl,q1,q3,q4,q5⟩
  | succ j=>
   obtain⟨key,k,v,o,m,e,z⟩:=hr j t' (by simpa using ht);exact⟨key,k,v,o,m,by simpa using e,z⟩
def Pu(hc:X.calm=true):eZ X (.type "dict") (λxs H Q=>∃(a:Addr) (ts:List Addr) (kvs:List<|Key×V),xs=[.ref a]/\H a=some (.lst<|ts.map V.ref)/\ts.length=kvs.length/\ts.length < sizeLine/\(∀(j:Nat) t kv,ts[j]?=some t->kvs[j]?=some kv->H t=some (.tup [kV kv.1,kv.2])) /\
  ∀ d,H d=none->Q (.ref d) (upd H d<|.dK<|kvs.foldl (λa p=>putK a p.1 p.2) [])):=by
 intro pins s σ H xs us Q I r h;obtain⟨a,ts,kvs,rfl,hH,hl,hz,ht,q⟩:=h;obtain⟨u,rfl,ru⟩:=vals1 r;cases (show u=Value.ref a from ru);obtain⟨z,its,n,rv,e⟩:=(show aB X.prog X.w H s.heap a (.lst<|ts.map V.ref)from I.aE a _ hH);have my:=rv.length;rw[Aa]at my;have p7:∀(j:Nat) t,ts[j]?=some t->its[j]?=some (.ref t):=λj t hj=>by
  obtain⟨u,hu,ru⟩:=rv.get (i:=j) (x:= .ref t) (by rw[Ai,hj];rfl);cases (show u=Value.ref t from ru);exact hu
 have pair:∀(j:Nat) t kv,ts[j]?=some t->kvs[j]?=some kv->∃ key v o m,(dj X.prog X.w).is kv.1 key=true/\RelV kv.2 v/\s.heap.get? t=some o/\o.cls = .type "tuple"/\o.data = .seq #[key,v] m:=λj t kv h1 h2=>by
  obtain⟨z2,dQ,gQ,o,eo,co,m,dm⟩:=(show aB X.prog X.w H s.heap t (.tup [kV kv.1,kv.2])from I.aE t _<|ht j t kv h1 h2);obtain⟨key,v,e3,r1,r2⟩:=gQ.two;refine⟨key,v,o,m,nI r1,r2,eo,co,?_⟩;rw[dm,e3]
 obtain⟨rs,hk,hr⟩:=Pt hl pair;have sg:=hk.length;have hP:F4 (dj X.prog X.w) s.heap its rs:=by
  refine⟨by omega,λj it hj=>?_⟩;have lh:j < ts.length:=by have:=(Ac.mp hj).1;omega
  have Pw:ts[j]?=some ts[j]:=Ab lh;have e2:=p7 j _ Pw;rw[hj]at e2;obtain⟨key,k,v,o,m,q1,q2,q3,q4,q5⟩:=hr j _ Pw;exact⟨ts[j],key,k,v,o,m,Option.some.inj e2,q1,q2,q3,q4,q5⟩
 refine j63 (knd:=dj X.prog X.w) e rfl rfl rfl hP (by omega) (I.ok.hd hc) λh' tk kp D=>?_;have hlen:∀(l:List<|Key×V) (a:List<|Key×V),(l.foldl (λa p=>putK a p.1 p.2) a).length<=a.length+l.length:=by
  intro l
  induction l with
  | nil=>intro a;exact An _
  | cons p r ih=>
   intro a;rw[Dg,Ap];have h1:=ih<|putK a p.1 p.2;have h2:=iB a p.1 p.2;omega
 have hb:=I.big;refine⟨.ref s.heap.objs.size,_,I.laid (t':=tk) kp (An _) (show aB X.prog X.w _ h' _ (.dK<|kvs.foldl (λa p=>putK a p.1 p.2) []) from⟨?_,?_,_,k2k (kvs:=kvs) (ps:=[]) (acc:=[]) .nil hk,D⟩),rfl,q _<|I.aE.fresh<|An _⟩
 ·have:=hlen kvs [];rw[Ej]at this;omega
 ·exact beq_eq_false_iff_ne.mpr<|Cp hb
end
section
variable{X:Cx}{pins:Ñ}{σ:St}{H:Hp}{s:Shared}{h':Heap}
def Inv.cq{t':Nat}{ch:List Addr}(I:Inv X pins σ H s)(hf:∀ b∈ch,cf X pins H b)(k:∀ b o,b∉ch->s.heap.get? b=some o->h'.get? b=some o):Inv X pins σ H {s with heap:=h',toks:=t'}:=by
 have tI:∀ b u,H b=some u->b∉ch:=λb u e z=>by rw[(hf b z).1]at e;cases e
 refine I.step (g':=s.gens) (d':=s.drawn) (ch:=ch) (λb hb=>?_) (λb o _ _ hc e _=>k b o hc e) (λb o _ _ hc e _=>⟨o.slots,k b o hc e⟩) (λ_ _ _ _ n=>n)
  (λb o hc e=>⟨o,k b o hc e⟩) (λ_ _ e=>e) (λ_ _ _ e=>e) (λb ps e=>⟨#[],by rw[e];simp⟩) (λm hm=>?_) (λb u e=>?_) I.bare
 ·obtain⟨f0,f1,f2,f3,f4,f5⟩:=hf b hb;exact⟨f3,f1,f4,f5⟩
 ·obtain⟨o,es,ep,ho,r⟩:=hm;exact⟨o,es,ep,k _ o (λz=>(hf _ z).2.1 rfl) ho,r⟩
 ·refine(I.aE b u e).fh (λc v hc q=>k c v ?_ q) (λ_ q=>q) λ_ _ q=>q
  rcases hc with z | z
  ·rw[z];exact tI b u e
  ·exact tI c _ z
def yE(K:PySem.W.Frag)(a b:Addr):It:=
  ⟨λi H => ∃ xs ys x y, aq K H a xs ∧ aq K H b ys ∧ xs[i]? = some x ∧ ys[i]? = some y,
   λi H v H'=>∃ T x y,H T=none/\v = .ref T/\H'=upd H T (.tup [x,y])/\(∀ xs,aq K H a xs->xs[i]?=some x)/\∀ ys,aq K H b ys->ys[i]?=some y,
   λi H=>∃ xs ys,aq K H a xs/\aq K H b ys/\(xs.length<=i\/ys.length<=i)⟩
def Px(m a b:Addr)(i:Nat)(h:Heap):Prop:=
 IsZip h (m+4) (m+2) (m+3) .none/\IsPair h (m+2) (.ref m) (.ref<|m+1)/\(∃ x y,IsPair h (m+3) x y)/\h.IsListIter m a i/\h.IsListIter (m+1) b i
def Py{h:Heap}{m a b:Addr}{i:Nat}{xs ys:Array Value}(z:Px m a b i h)(ha:h.IsList a xs)(hb:h.IsList b ys):ZipApart (m+4) (m+2) (m+3) m (m+1) a b:=by
  obtain⟨z1,z2,⟨x,y,z3⟩,⟨o4,e4,c4,_⟩,⟨o5,e5,c5,_⟩⟩:=z;have cls:∀{l:Addr} {vs:Array Value} {c:Addr} {o:Obj},h.IsList l vs->h.get? c=some o->o.cls ≠ .type "list"->l≠c:=λhl hc hn e=>by
    obtain⟨ol,uo,jb,_⟩:=hl;rw[e,hc]at uo;cases uo;exact hn jb
  exact { TIz := by simp, TOz := by simp, i1z := by simp, i2z := by simp, TITO := by simp, TIi1 := by simp, TIi2 := by simp, TOi1 := by simp, TOi2 := by simp, i12 := by simp
          l1z:=cls ha z1 (by show Value.type "zip"≠Value.type "list";decide),l1TO:=cls ha z3 (by show Value.type "tuple"≠Value.type "list";decide),l1i1:=cls ha e4 (by rw[c4];decide),l1i2:=cls ha e5<|by rw[c5];decide
          l2z:=cls hb z1 (by show Value.type "zip"≠Value.type "list";decide),l2TO:=cls hb z3 (by show Value.type "tuple"≠Value.type "list";decide),l2i1:=cls hb e4 (by rw[c4];decide),l2i2:=cls hb e5 (by rw[c5];decide)}
def q2j{P:Program}{w:World}{K:PySem.W.Frag}{elts:Õ}{k:Nat}{tp:Pos}(m a b:Addr):Turn P w K (.Tuple elts k tp) (yE K a b) [m,m+1,m+2,m+3,m+4] (m+4) (Px m a b) where
 mem:=by simp
 obj:=λi h st c hc=>by
  obtain⟨z1,z2,⟨x,y,z3⟩,⟨o4,e4,c4,d4⟩,⟨o5,e5,c5,d5⟩⟩:=st;simp only[Aj,Cm,HY]at hc
  rcases hc with rfl | rfl | rfl | rfl | rfl
  ·exact⟨_,e4,λv z=>by rw[d4]at z;cases z⟩
  ·exact⟨_,e5,λv z=>by rw[d5]at z;cases z⟩
  ·exact⟨_,z2,λv z=>by cases z⟩
  ·exact⟨_,z3,λv z=>by cases z⟩
  ·exact⟨_,z1,λv z=>by cases z⟩
 keep:=λi h h' st kp=>by
  obtain⟨z1,z2,⟨x,y,z3⟩,⟨o4,e4,r4⟩,⟨o5,e5,r5⟩⟩:=st;exact⟨kp _ (by simp) _ z1,kp _ (by simp) _ z2,⟨x,y,kp _ (by simp) _ z3⟩,⟨o4,kp _ (by simp) _ e4,r4⟩,⟨o5,kp _ (by simp) _ e5,r5⟩⟩
 item:=by
  intro X hP hw hK hc i pins s σ H E I hf st hg;subst hP hw hK;obtain⟨xs,ys,x,y,gT,yF,hx,hy⟩:=hg;obtain⟨uJ,yG,p1,si⟩:=I.list gT;obtain⟨dQ,gQ,p2,sj⟩:=I.list yF;obtain⟨u1,fc,ru1⟩:=yG.get hx;obtain⟨u2,nW,ru2⟩:=gQ.get hy;have D:=Py st p1.isList p2.isList;obtain⟨z1,z2,⟨x0,y0,z3⟩,z4,z5⟩:=id st;refine wpAny_pyNext_zip_item D z1 z2 z3 z4 z5 p1.isList p2.isList (x:=u1) (y:=u2) (by simpa using fc) (by simpa using nW) λh' a1 a2 a3 a4 a5 a6 kp=>?_;have hT:H s.heap.objs.size=none:=I.aE.fresh<|An _;have nT:∀ c∈[m,m+1,m+2,m+3,m+4],c≠s.heap.objs.size:=λc bS=>by
   have:∃ o,s.heap.get? c=some o:=by
    obtain⟨o4,e4,_⟩:=z4;obtain⟨o5,e5,_⟩:=z5;simp only[Aj,Cm,HY]at bS
    rcases bS with rfl | rfl | rfl | rfl | rfl
    ·exact⟨_,e4⟩
    ·exact⟨_,e5⟩
    ·exact⟨_,z2⟩
    ·exact⟨_,z3⟩
    ·exact⟨_,z1⟩
   obtain⟨o,e⟩:=this;exact Bm<|Aq e
  have I1:Inv X pins σ (upd H s.heap.objs.size<|.tup [x,y]) {s with heap:=s.heap.push {cls:= .type "tuple",data:= .seq #[u1,u2]}}:=
   I.laid (t':=s.toks) (λb o e=>Ag _ e) (An _) (show aB X.prog X.w _ _ _ (.tup [x,y]) from⟨Z2,[u1,u2],.cons ru1<|.cons ru2 .nil,⟨_,At _ rfl,rfl,_,rfl⟩⟩)
  have f1:∀ c∈[m,m+1,m+2,m+3,m+4],cf X pins (upd H s.heap.objs.size<|.tup [x,y]) c:=λc bS=>⟨by rw[av<|nT c bS];exact(hf c bS).1,(hf c bS).2⟩;have uv:∀ c o,c∉[m,m+1,m+2,m+3,m+4]->(s.heap.push {cls:= .type "tuple",data:= .seq #[u1,u2]}).get? c=some o->h'.get? c=some o:=λc o bS e=>by
   rcases Heap.get?_push_cases e with ⟨ec,eo⟩ | e'
   ·rw[ec,eo];exact a5
   ·simp only[Aj,Cm,HY,not_or]at bS;exact kp c o bS.2.2.2.2 bS.2.2.2.1 bS.1 bS.2.1 e'
  have I2:=Inv.cq (h':=h') (t':=s.toks) I1 f1 uv;refine⟨_,rfl,wpAny_letOwnedTupleGo_zip (s:={s with heap:=h'}) a1 λh2 b1 sb=>?_⟩;have z2':IsPair h' (m+2) (.ref m) (.ref<|m+1):=kp _ _ (by simp) (by simp) (by simp) (by simp) z2;have kp3:∀ c o,c∉[m+4]->h'.get? c=some o->h2.get? c=some o:=λc o bS e=>(sb.2 c<|by simpa using bS).trans e;have I3:=Inv.cq (h':=h2) (t':=s.toks) I2 (ch:=[m+4]) (λc bS=>f1 c<|by simp at bS;simp[bS]) kp3;refine⟨.ref s.heap.objs.size,_,I3,rfl,⟨_,x,y,hT,rfl,rfl,λzs hz=>by rw[I.dM hz gT];exact hx,λzs hz=>by rw[I.dM hz yF];exact hy⟩,?_,λc bS=>(f1 c bS).1⟩;have sx:∀ c o,c≠m+4->h'.get? c=some o->h2.get? c=some o:=λc o bS e=>(sb.2 c bS).trans e;obtain⟨o3,e3,r3⟩:=a3;obtain⟨o4,e4,r4⟩:=a4;exact⟨b1,sx _ _ (by simp) z2',⟨u1,u2,sx _ _ (by simp) a2⟩,⟨o3,sx _ _ (by simp) e3,r3⟩,⟨o4,sx _ _ (by simp) e4,r4⟩⟩
 done:=by
  intro X hP hw hK hc i pins s σ H E I hf st hg;subst hP hw hK;obtain⟨xs,ys,gT,yF,F7⟩:=hg;obtain⟨uJ,yG,p1,si⟩:=I.list gT;obtain⟨dQ,gQ,p2,sj⟩:=I.list yF;have l1:=yG.length;have l2:=gQ.length;have D:=Py st p1.isList p2.isList;obtain⟨z1,z2,⟨x0,y0,z3⟩,z4,z5⟩:=id st;refine wpAny_pyNext_zip_end (I.ok.hd hc) D z1 z2 z3 z4 z5 p1.isList p2.isList ?_ λh' kp=>⟨rfl,I.cq (t':=s.toks) (ch:=[m,m+1,m+2,m+3,m+4]) hf λc o bS e=>?_⟩
  ·rcases F7 with h | h
   ·exact .inl<|by simp;omega
   ·exact .inr<|by simp;omega
  ·simp only[Aj,Cm,HY,not_or]at bS;exact kp c o bS.2.2.2.2 bS.2.2.2.1 bS.1 bS.2.1 e
 self:=λ_ _ _ _ _ st h=>wpAny_pyIter_zip st.1 h
end
section
variable{X:Cx}
def F8(K:PySem.W.Frag)(ta:TA):TI:=λσ H R=>ta σ H λvs H1=>∃ a b,vs=[.ref a,.ref b]/\(∃ xs,aq K H1 a xs)/\(∃ ys,aq K H1 b ys)/\R (yE K a b) H1
def Pz{elts:Õ}{k:Nat}{tp:Pos}{a b:Expr}{ta:TA}{p pos:Pos}(hg:Gl X "zip")(hm:X.mg "zip" = none)(ha:PA X [a,b] ta)(hs:starEach [a,b] X.env=[(false,eval a X.env),(false,eval b X.env)]:=by rfl)(sf:starEach [b] X.env=[(false,eval b X.env)]:=by rfl) :
  PI X (.Tuple elts k tp) (.Call (.Name "zip" p) [a,b] [] pos) (F8 X.K ta):=by
 intro pins s σ H R I h;refine Call_ (oR I hg hm boot_zip<|JQ (aN (ha pos pins s σ H _ I h) λus s1 ⟨vs,H1,I1,r1,q1⟩=>?_) (by rw[hs,sf])<|by rw[sf];rfl);obtain⟨x,y,e,⟨xs,hx⟩,⟨ys,hy⟩,q⟩:=q1;subst e;obtain⟨u,v,rfl,ru,rv⟩:=r1.two;cases (show u=Value.ref x from ru);cases (show v=Value.ref y from rv);obtain⟨uJ,yG,p1,si⟩:=I1.list hx;obtain⟨dQ,gQ,p2,sj⟩:=I1.list hy;refine call_zip_2 p1.isList p2.isList λh' a1 a2 a3 a4 a5 a6 kp=>?_;refine wpAny_pyIter_zip (s:={s1 with heap:=h'}) a1 ?_;refine⟨s1.heap.objs.size+4,[s1.heap.objs.size,s1.heap.objs.size+1,s1.heap.objs.size+2,s1.heap.objs.size+3,s1.heap.objs.size+4],_,_,H1,rfl,I1.kept (t':=s1.toks) kp,q2j s1.heap.objs.size x y,⟨a1,a2,⟨_,_,a3⟩,a4,a5⟩,λb hb=>?_,q⟩;have hle:s1.heap.objs.size<=b:=by
  simp only[Aj,Cm,HY]at hb
  rcases hb with rfl | rfl | rfl | rfl | rfl <;> omega
 exact I1.jM hle<|I1.aE.fresh hle
end
def sk(elt t1 i1:Expr)(f1:Õ)(t2 i2:Expr)(f2:Õ)(scope:Scope)(pos:Pos)(acc:Value)(env:Env):Sem Unit:=do
 let x <- eval i2 env
 standAt i2.pos
 let x <- foldedSetIterable i2 env x
 let _ <- runOwn (.compStart (.ListComp elt [⟨t1,i1,f1,0⟩,⟨t2,i2,f2,0⟩] scope pos) 1 (<- holding [x]<|pyIter x) acc env) env
section
variable{X:Cx}{elt t1 i1 t2 i2:Expr}{f1 f2:Õ}{scope:Scope}{pos:Pos}{σ:St}{H:Hp}{acc:Value}{env:Env}
def q6i:Clause (.ListComp elt [⟨t1,i1,f1,0⟩,⟨t2,i2,f2,0⟩] scope pos) 0 t1 i1 f1 acc env (sk elt t1 i1 f1 t2 i2 f2 scope pos acc env):=⟨rfl,λ_=>rfl,λ_ _ _=>rfl,λ_ _=>rfl,λ_ _ _=>rfl,λ_ _=>rfl,λit=>by
 unfold sk;simp only[bind_assoc,pure_bind];rfl⟩
def q6e:Clause (.ListComp elt [⟨t1,i1,f1,0⟩,⟨t2,i2,f2,0⟩] scope pos) 1 t2 i2 f2 acc env (emit elt acc env):=⟨rfl,λ_=>rfl,λ_ _ _=>rfl,λ_ _=>rfl,λ_ _ _=>rfl,λ_ _=>rfl,λ_=>rfl⟩
def q0c{wi:TI}{Q:St->Hp->Prop}(i5:X.xe=λ_ _=>False)(hc:X.calm=true)(hi:PI X t2 i2 wi)(h:wi σ H λJ H1=>hG X t2 f2 (emit elt acc X.env) J Q σ H1)
  (hs:∀ x,foldedSetIterable i2 X.env x=pure x:=by intro _;rfl):kW X (sk elt t1 i1 f1 t2 i2 f2 scope pos acc X.env) σ H Q:=by
 refine⟨λpins s I=>?_⟩;unfold sk;refine BJ<|aN (hi pins s σ H _ I h) λx s1 h1=>?_;refine BJ<|FW<|BJ<|IV (hs x)<|BJ<|CJ<|CP h1 (λnF s2 h2=>?_) λ_ _ e=>e;obtain⟨it,fp,tn,J,H2,e,I2,T,fJ,uK,q⟩:=h2;subst e;refine BJ<|wpAny_runOwn (Q:=λ_ s'=>wpAny (model X.prog X.w) X.A (pure ()) (λ_ s'=>∃ σ' H',Inv X pins σ' H' s'/\Q σ' H') X.xe s') ?_;exact xW i5 hc q6e I2 T fJ uK q λσ' H' s' I' q'=>BK ⟨σ',H',I',q'⟩
def q1v{wi:TI}{Q:VK}(sc:Scope)(N N':Ò)(n:Nat)(hi:PI X t1 i1 wi)
  (h:wi σ H λJ H1=>∀ D,H1 D=none->∀ cl C s₀ H₀ ex,hG (fq X N' scope cl C s₀ H₀ ex) t1 f1 (sk elt t1 i1 f1 t2 i2 f2 scope pos (.ref D)<|compEnvC scope cl C X.env) J (λ_ H'=>Q (.ref D) H') (σ++List.replicate n none)<|upd H1 D<|.lst [])
  (hc:X.calm=true:=by rfl) (i7:X.env.scope=sc:=by rfl) (hN:X.N=N:=by rfl) (hk:me sc scope N N'=true:=by decide +kernel) (hl:N'.length=N.length+n:=by rfl)
  (hs:∀ x,foldedSetIterable i1 X.env x=pure x:=by intro _;rfl):Ev X (.ListComp elt [⟨t1,i1,f1,0⟩,⟨t2,i2,f2,0⟩] scope pos) σ H Q:=
 yD (e:= .ListComp elt [⟨t1,i1,f1,0⟩,⟨t2,i2,f2,0⟩] scope pos) (newAcc:=newList []) (o0:={cls:= .type "list",dict:=none,data:= .seq ([]:Ô).toArray}) (u0:=λ_=> .lst []) (λ_ _ _ h=>CZ h<|by show(0:Nat)<=sizeLine;exact Bz _) (λ_ _ _=>⟨Bz _,[],0,.nil,At _ rfl⟩) (inner:=sk elt t1 i1 f1 t2 i2 f2 scope pos) (λ_ _=>q6i) rfl rfl sc N N' n hi h hc i7 hN hk hl hs
end
section
variable{X:Cx}{pins:Ñ}{σ:St}{H:Hp}{s:Shared}{a:Addr}{y v:V}{u r:Value}{A:Around}{E:Ï}
def PD{H':Hp}{Q:Unit->Shared->Prop}(hu:A.units+1 < cLine)(I:Inv X pins σ H s)(g:bZ H a y v H')(ry:RelV y u)(rv:RelV v r)(h:∀ s',Inv X pins σ H' s'->Q () s') :
  wpAny (model X.prog X.w) A (dictSet a u r) Q E s:=by
 rcases g with ⟨kvs,k,e,ey,l,eH⟩ | ⟨kvs,k,b,e,ey,eb,l,eH⟩
 ·subst ey eH;obtain⟨z,hd,vs,rel,dd⟩:=uf I.aE e;have hz:vs.length<=sizeLine:=by rw[<- rel.length];exact z
  have hl:(putK kvs k v).length<=sizeLine:=by have:=iB kvs k v;omega
  refine wpAny_dictSet_pairs (hsz:=hz) (nI ry) dd λh' iY hs=>h _ ?_;have he:∃ q,h'.get? a=some q:=let ⟨q,_,_,hq,_⟩:=iY;⟨q,hq⟩
  exact lW I (by rw[e];exact True.intro) hs he<|B4 hl hd (rel.put k rv) iY
 ·subst ey eH;cases (show u=Value.ref b from ry);obtain⟨z,hd,xs,rel,dd⟩:=Nh I.aE e;have hz:xs.length<=sizeLine:=by rw[<- Paired.length rel];exact z
  have hl:(putK kvs k v).length<=sizeLine:=by have:=iB kvs k v;omega
  have room:(tupleKind<|dj X.prog X.w).room A:=by first | exact hu | exact Nat.lt_of_succ_lt hu | exact QK (Ek _) hu
  refine wpAny_dictSet_heap (hsz:=hz) room (rB I.aE eb) dd λh' iY hs=>h _ ?_;obtain⟨q,es,ep,hq,h2,h3,h4,_,h5⟩:=iY;refine lW I (by rw[e];exact True.intro) hs ⟨q,hq⟩ ⟨hl,hd,_,(rel.put k eb rv).keeps λc ys ec=>?_,q,es,ep,hq,h2,h3,h4,h5⟩;rw[av<|ce ec e λz=>nomatch z];exact ec
end
def mJ(k v:Expr)(acc:Value)(env:Env):Sem Unit:=do
 let kv <- eval k env
 let vv <- holding [kv]<|eval v env
 match acc with
 | .ref d=>do
  standAt {k.pos with endLine:=v.pos.endLine,endCol:=v.pos.endCol}
  holding [kv,vv] (dictSet d kv vv)
 | _=>unsupported "internal:dictcomp"
def sq(k v t1 i1:Expr)(f1:Õ)(t2 i2:Expr)(f2:Õ)(scope:Scope)(pos:Pos)(acc:Value)(env:Env):Sem Unit:=do
 let x <- eval i2 env
 standAt i2.pos
 let x <- foldedSetIterable i2 env x
 let _ <- runOwn (.compStart (.DictComp k v [⟨t1,i1,f1,0⟩,⟨t2,i2,f2,0⟩] scope pos) 1 (<- holding [x]<|pyIter x) acc env) env
section
variable{X:Cx}{k v t1 i1 t2 i2:Expr}{f1 f2:Õ}{scope:Scope}{pos:Pos}{σ:St}{H:Hp}{acc:Value}{env:Env}
def q5w:Clause (.DictComp k v [⟨t1,i1,f1,0⟩] scope pos) 0 t1 i1 f1 acc env (mJ k v acc env):=⟨rfl,λ_=>rfl,λ_ _ _=>rfl,λ_ _=>rfl,λ_ _ _=>rfl,λ_ _=>rfl,λit=>by
 unfold mJ;cases acc <;> first | rfl | (simp only[bind_assoc,pure_bind];rfl)⟩
def q22:Clause (.DictComp k v [⟨t1,i1,f1,0⟩,⟨t2,i2,f2,0⟩] scope pos) 0 t1 i1 f1 acc env (sq k v t1 i1 f1 t2 i2 f2 scope pos acc env):=⟨rfl,λ_=>rfl,λ_ _ _=>rfl,λ_ _=>rfl,λ_ _ _=>rfl,λ_ _=>rfl,λit=>by
 unfold sq;simp only[bind_assoc,pure_bind];rfl⟩
def q09:Clause (.DictComp k v [⟨t1,i1,f1,0⟩,⟨t2,i2,f2,0⟩] scope pos) 1 t2 i2 f2 acc env (mJ k v acc env):=⟨rfl,λ_=>rfl,λ_ _ _=>rfl,λ_ _=>rfl,λ_ _ _=>rfl,λ_ _=>rfl,λit=>by
 unfold mJ;cases acc <;> first | rfl | (simp only[bind_assoc,pure_bind];rfl)⟩
def F9{D:Addr}{Q:St->Hp->Prop}(hu:X.A.units+1 < cLine)(h:Ev X k σ H λy H1=>Ev X v σ H1 λx H2=>∃ H3,bZ H2 D y x H3/\Q σ H3):kW X (mJ k v (.ref D) X.env) σ H Q:=by
 refine⟨λpins s I=>?_⟩;unfold mJ;refine BJ<|aN (h.run pins s I) λkv s1 ⟨y,H1,I1,r1,h1⟩=>?_;refine BJ<|CJ<|aN (h1.run pins s1 I1) λvv s2 ⟨x,H2,I2,r2,H3,dp,q⟩=>?_;show wpAny _ _ (standAt _ >>= λ_=>holding [kv,vv]<|dictSet D kv vv) _ _ _;exact BJ<|FW<|CJ<|PD hu I2 dp r1 r2 λs' I'=>⟨σ,H3,I',q⟩
def k6g{wi:TI}{Q:St->Hp->Prop}(i5:X.xe=λ_ _=>False)(hc:X.calm=true)(hi:PI X t2 i2 wi)(h:wi σ H λJ H1=>hG X t2 f2 (mJ k v acc X.env) J Q σ H1)
  (hs:∀ x,foldedSetIterable i2 X.env x=pure x:=by intro _;rfl):kW X (sq k v t1 i1 f1 t2 i2 f2 scope pos acc X.env) σ H Q:=by
 refine⟨λpins s I=>?_⟩;unfold sq;refine BJ<|aN (hi pins s σ H _ I h) λx s1 h1=>?_;refine BJ<|FW<|BJ<|IV (hs x)<|BJ<|CJ<|CP h1 (λnF s2 h2=>?_) λ_ _ e=>e;obtain⟨it,fp,tn,J,H2,e,I2,T,fJ,uK,q⟩:=h2;subst e;refine BJ<|wpAny_runOwn (Q:=λ_ s'=>wpAny (model X.prog X.w) X.A (pure ()) (λ_ s'=>∃ σ' H',Inv X pins σ' H' s'/\Q σ' H') X.xe s') ?_;exact xW i5 hc q09 I2 T fJ uK q λσ' H' s' I' q'=>BK ⟨σ',H',I',q'⟩
def PF{wi:TI}{Q:VK}(sc:Scope)(N N':Ò)(n:Nat)(hi:PI X t1 i1 wi)
  (h:wi σ H λJ H1=>∀ D,H1 D=none->∀ cl C s₀ H₀ ex,hG (fq X N' scope cl C s₀ H₀ ex) t1 f1 (mJ k v (.ref D)<|compEnvC scope cl C X.env) J (λ_ H'=>Q (.ref D) H') (σ++List.replicate n none)<|upd H1 D<|.dT [])
  (hc:X.calm=true:=by rfl) (i7:X.env.scope=sc:=by rfl) (hN:X.N=N:=by rfl) (hk:me sc scope N N'=true:=by decide +kernel) (hl:N'.length=N.length+n:=by rfl)
  (hs:∀ x,foldedSetIterable i1 X.env x=pure x:=by intro _;rfl):Ev X (.DictComp k v [⟨t1,i1,f1,0⟩] scope pos) σ H Q:=
 yD (e:= .DictComp k v [⟨t1,i1,f1,0⟩] scope pos) (newAcc:=newDict) (o0:={cls:= .type "dict",data:= .dict #[]}) (u0:=λ_=> .dT []) (λ_ _ _ h=>CZ h) (λ_ h hb=>B6 h hb) (inner:=mJ k v) (λ_ _=>q5w) rfl rfl sc N N' n hi h hc i7 hN hk hl hs
def k4y{wi:TI}{Q:VK}(sc:Scope)(N N':Ò)(n:Nat)(hi:PI X t1 i1 wi)
  (h:wi σ H λJ H1=>∀ D,H1 D=none->∀ cl C s₀ H₀ ex,hG (fq X N' scope cl C s₀ H₀ ex) t1 f1 (sq k v t1 i1 f1 t2 i2 f2 scope pos (.ref D)<|compEnvC scope cl C X.env) J (λ_ H'=>Q (.ref D) H') (σ++List.replicate n none)<|upd H1 D<|.dT [])
  (hc:X.calm=true:=by rfl) (i7:X.env.scope=sc:=by rfl) (hN:X.N=N:=by rfl) (hk:me sc scope N N'=true:=by decide +kernel) (hl:N'.length=N.length+n:=by rfl)
  (hs:∀ x,foldedSetIterable i1 X.env x=pure x:=by intro _;rfl):Ev X (.DictComp k v [⟨t1,i1,f1,0⟩,⟨t2,i2,f2,0⟩] scope pos) σ H Q:=
 yD (e:= .DictComp k v [⟨t1,i1,f1,0⟩,⟨t2,i2,f2,0⟩] scope pos) (newAcc:=newDict) (o0:={cls:= .type "dict",data:= .dict #[]}) (u0:=λ_=> .dT []) (λ_ _ _ h=>CZ h) (λ_ h hb=>B6 h hb) (inner:=sq k v t1 i1 f1 t2 i2 f2 scope pos) (λ_ _=>q22) rfl rfl sc N N' n hi h hc i7 hN hk hl hs
end
open bF
def PH{prog:Program}{w:World}{A:Around}{E:Ï}{s:Shared}{a:Addr}{zs:Ò}{z:Str}{tk:Tok}{Q:Ï}(S:az prog w s.heap a zs)(hb:zs.length+1 < 1000)
  (h:∀ h',Heap.SameBut a s.heap h'->az prog w h' a (added zs z)->Q .none {s with heap:=h',toks:=s.toks+1}) :
  wpAny (model prog w) A (call (.builtin "set.add") [.ref a,.str z tk]) Q E s:=by
 have hT:s.TypeIs (.ref a) "set":=let ⟨o,_,_,_,ho,hx,_⟩:=S;⟨o,ho,hx.1⟩
 refine DG F.slot_set_add hT F.entry_set_add ?_<|F.args_set_add_2 _ _;unfold Builtin.«set.add» Builtin.Frozenset.oneOther;simp only[Gh,bind_assoc];unfold Builtin.Frozenset.addrOf setAdd;refine BJ<|BK ?_
 try dsimp only
 refine BJ<|BK ?_
 try dsimp only
 refine BJ ?_;refine CJ ?_;refine BJ ((PySem.strKind prog w).pyHash (k:=z) (v:= .str z tk) (by simp[PySem.strKind,Value.isStrOf]) ?_);refine DJ (s:={s with toks:=s.toks+1}) S hb λb h' sb S'=>?_;show wpAny _ _ (ret Value.none) _ _ _;exact BK ⟨_,rfl,h h' sb S'⟩
def q4q{prog:Program}{w:World}{A:Around}{E:Ï}{s:Shared}{Q:Ï}(k:Q (.ref s.heap.objs.size) {s with heap:=s.heap.push (gq w)}):wpAny (model prog w) A (newSet<|.type "set") Q E s:=by
 unfold newSet;refine BJ<|wp_text ?_
 dsimp only
 simp only[newObj];exact BJ<|QF<|BK k
def uL(elt:Expr)(acc:Value)(env:Env):Sem Unit:=do let v <- eval elt env;standAt elt.pos;let _ <- call (.builtin "set.add") [acc,v]
def sr(elt t1 i1:Expr)(f1:Õ)(t2 i2:Expr)(f2:Õ)(scope:Scope)(pos:Pos)(acc:Value)(env:Env):Sem Unit:=do
 let x <- eval i2 env
 standAt i2.pos
 let x <- foldedSetIterable i2 env x
 let _ <- runOwn (.compStart (.SetComp elt [⟨t1,i1,f1,0⟩,⟨t2,i2,f2,0⟩] scope pos) 1 (<- holding [x]<|pyIter x) acc env) env
section
variable{X:Cx}{elt t1 i1 t2 i2:Expr}{f1 f2:Õ}{scope:Scope}{pos:Pos}{σ:St}{H:Hp}{acc:Value}{env:Env}
def q0n:Clause (.SetComp elt [⟨t1,i1,f1,0⟩,⟨t2,i2,f2,0⟩] scope pos) 0 t1 i1 f1 acc env (sr elt t1 i1 f1 t2 i2 f2 scope pos acc env):=⟨rfl,λ_=>rfl,λ_ _ _=>rfl,λ_ _=>rfl,λ_ _ _=>rfl,λ_ _=>rfl,λit=>by
 unfold sr;simp only[bind_assoc,pure_bind];rfl⟩
def q2s:Clause (.SetComp elt [⟨t1,i1,f1,0⟩,⟨t2,i2,f2,0⟩] scope pos) 1 t2 i2 f2 acc env (uL elt acc env):=⟨rfl,λ_=>rfl,λ_ _ _=>rfl,λ_ _=>rfl,λ_ _ _=>rfl,λ_ _=>rfl,λit=>by
 unfold uL
 first | rfl | (simp only[bind_assoc,pure_bind];rfl)⟩
def k9c{D:Addr}{Q:St->Hp->Prop} (h:Ev X elt σ H λv H1=>∃ z zs,v = .str z/\H1 D=some (bb X.prog X.w D zs)/\zs.length+1 < 1000/\Q σ (upd H1 D<|bb X.prog X.w D<|added zs z)):kW X (uL elt (.ref D) X.env) σ H Q:=by
 refine⟨λpins s I=>?_⟩;unfold uL;refine BJ<|aN (h.run pins s I) λv s1 ⟨x,H1,I1,r1,z,zs,e,hD,hl,q⟩=>?_;subst e;obtain⟨tk,rfl⟩:=r1;refine BJ (FW<|BJ<|PH (I1.set hD) hl λh' sb S'=>BK ⟨σ,_,lW (t':=s1.toks+1) I1 (by rw[hD];exact True.intro) sb ?_<|rS S',q⟩);obtain⟨o,_,_,_,ho,_⟩:=S';exact⟨o,ho⟩
def k73{wi:TI}{Q:St->Hp->Prop}(i5:X.xe=λ_ _=>False)(hc:X.calm=true)(hi:PI X t2 i2 wi)(h:wi σ H λJ H1=>hG X t2 f2 (uL elt acc X.env) J Q σ H1)
  (hs:∀ x,foldedSetIterable i2 X.env x=pure x:=by intro _;rfl):kW X (sr elt t1 i1 f1 t2 i2 f2 scope pos acc X.env) σ H Q:=by
 refine⟨λpins s I=>?_⟩;unfold sr;refine BJ<|aN (hi pins s σ H _ I h) λx s1 h1=>?_;refine BJ<|FW<|BJ<|IV (hs x)<|BJ<|CJ<|CP h1 (λnF s2 h2=>?_) λ_ _ e=>e;obtain⟨it,fp,tn,J,H2,e,I2,T,fJ,uK,q⟩:=h2;subst e;refine BJ<|wpAny_runOwn (Q:=λ_ s'=>wpAny (model X.prog X.w) X.A (pure ()) (λ_ s'=>∃ σ' H',Inv X pins σ' H' s'/\Q σ' H') X.xe s') ?_;exact xW i5 hc q2s I2 T fJ uK q λσ' H' s' I' q'=>BK ⟨σ',H',I',q'⟩
def k8g{wi:TI}{Q:VK}(sc:Scope)(N N':Ò)(n:Nat)(hi:PI X t1 i1 wi)
  (h:wi σ H λJ H1=>∀ D,H1 D=none->∀ cl C s₀ H₀ ex,hG (fq X N' scope cl C s₀ H₀ ex) t1 f1 (sr elt t1 i1 f1 t2 i2 f2 scope pos (.ref D)<|compEnvC scope cl C X.env) J (λ_ H'=>Q (.ref D) H') (σ++List.replicate n none)<|upd H1 D<|bb X.prog X.w D [])
  (hc:X.calm=true:=by rfl) (i7:X.env.scope=sc:=by rfl) (hN:X.N=N:=by rfl) (hk:me sc scope N N'=true:=by decide +kernel) (hl:N'.length=N.length+n:=by rfl)
  (hs:∀ x,foldedSetIterable i1 X.env x=pure x:=by intro _;rfl):Ev X (.SetComp elt [⟨t1,i1,f1,0⟩,⟨t2,i2,f2,0⟩] scope pos) σ H Q:=
 yD (e:= .SetComp elt [⟨t1,i1,f1,0⟩,⟨t2,i2,f2,0⟩] scope pos) (newAcc:=newSet<|.type "set") (o0:=gq X.w) (u0:=λD=>bb X.prog X.w D []) (λ_ _ _ h=>q4q h) (λ_ h _=>rS<|D1<|At _ rfl) (inner:=sr elt t1 i1 f1 t2 i2 f2 scope pos) (λ_ _=>q0n) rfl rfl sc N N' n hi h hc i7 hN hk hl hs
end
end L2
namespace L2
open PySem PySem.Builtin PySem.Builtin.Str
section
variable{X:Cx}{σ:St}{H:Hp}{Q:VK}
end
end L2
namespace PySem
def Plain(h:Heap)(d:Addr)(es:Array DictEntry)(ep:Nat):Prop:=∃ o,h.get? d=some o/\o.ExactDict/\o.data = .dict es ep
section
variable{P:Program}{w:World}{A:Around}{E:Ï}{s:Shared}
def k5b(d:Addr)(hd:(d == sysModules)=false):MeetsIn P w (Builtin.«dict.items» ⟨[.ref d],[]⟩) (λ_ R u=>u.TypeIs (.ref d) "dict" /\
  R (.ok<|.ret<|.ref u.heap.objs.size) {u with heap:=u.heap.push {cls:= .type "dict_items",data:= .fields #[.ref d]}}):=by
 refine .of_wp λB R u ⟨hT,k⟩=>?_;unfold Builtin.«dict.items» Builtin.Dict.noArgs;refine BJ<|BJ<|wpAny_notOrdered_dict hT ?_;show wpAny _ _ (pure d) _ _ u;refine BK ?_;show wpAny _ _ (Builtin.Dict.showsAll d >>= _) _ _ u;unfold Builtin.Dict.showsAll;rw[BL<|by rw[hd];exact Av];exact BJ<|BK<|BJ<|CZ<|BK ⟨_,rfl,k⟩
def k4x{v d:Addr}{es:Array DictEntry}{ep:Nat}{Q:Ï}(hv:s.heap.IsItemsView v d)(hm:Plain s.heap d es ep)
  (k:Q (.ref s.heap.objs.size) {s with heap:=s.heap.push {cls:= .type "dict_itemiterator",data:= .fields #[.none,.bool false,.ref d,.int 0 0,.int es.size 0,.int ep 0,.none,.none]}}) :
  wpAny (model P w) A (pyIter<|.ref v) Q E s:=by
 obtain⟨vo,e1,e2,e3⟩:=id hv;obtain⟨o,f1,f2,f3⟩:=hm;refine KR hv.typeIs F.slot_dict_items_iter<|DG F.slot_dict_items_iter hv.typeIs F.entry_dict_items_iter ?_<|F.args_dict_items_iter_1 _;unfold Builtin.«dict_items.__iter__» Builtin.Dict_items.dictOf Builtin.Dict_items.newIterator;refine BJ<|BK<|BJ<|BJ<|IW e1 e3 (x:= .ref d) rfl (BK ?_);refine BJ<|BJ<|QZ f1 f3<|BJ<|SM f1 f3 ?_;have ow:Builtin.Dict_items.ownsTuple "dict_itemiterator" = true:=by decide
 simp only[ow,DN];refine CZ (BK ⟨_,rfl,"dict_itemiterator",_,⟨_,At _ rfl,rfl⟩,F.slot_dict_itemiterator_next.lookup,?_⟩) ?_
 ·simpa[rawInt,Builtin.Dict_items.ownedTupleFields]using k
 ·simp only[sizeOk,Builtin.Dict_items.ownedTupleFields,Aw,Af,Ap,Ej,EY];omega
def k45{it d:Addr}{i ep:Nat}{es:Array DictEntry}{en:DictEntry}{y z:Value}{Q:Option Value->Shared->Prop}(hit:IsItemIter s.heap it d i es.size ep y z)(hm:Plain s.heap d es ep)(hx:es[i]?=some en)
  (k : ∀ h', IsItemIterOut h' it d (i + 1) es.size ep en.key en.val s.heap.objs.size → h'.get? s.heap.objs.size = some { cls := .type "tuple", data := .seq #[en.key, en.val] } →
   (∀ b o,b≠it->s.heap.get? b=some o->h'.get? b=some o)->Q (some<|.ref s.heap.objs.size) {s with heap:=h'}):wpAny (model P w) A (pyNext<|.ref it) Q E s:=by
 obtain⟨hp,g,dr,tk,os⟩:=s;obtain⟨o,f1,f2,f3⟩:=hm;have ty:Shared.TypeIs ⟨hp,g,dr,tk,os⟩ (.ref it) "dict_itemiterator":=⟨_,hit,rfl⟩;have lt:i < es.size:=by
  rcases Di i es.size with h | h
  ·exact h
  ·rw[Ee h]at hx;cases hx
 have ow:Builtin.Dict_items.ownsTuple "dict_itemiterator" = true:=by decide
 unfold pyNext;refine BJ<|JF<|JC (name:=Str.ofString "__next__") ty GX<|DG GX ty PN ?_<|NQ _;refine BJ<|BK<|BJ<|BJ ?_
 first | refine BJ (GJ ty<|BK ?_) | refine BJ<|IK ty<|BK ?_
 refine BJ<|QC hit rfl ?_;simp only[ow,DN];show wpAny _ _ (if(Value.ref d == Value.none)=true then _ else _) _ _ _;rw[BL (show ¬((Value.ref d == Value.none)=true)from Av)];refine BJ<|BK<|BJ<|QZ f1 f3 ?_;rw[BL<|by simp];refine BJ<|BK<|BJ<|SM f1 f3 ?_;rw[BL<|by simp];refine BK ?_;have ee:es[i]=en:=Option.some.inj<|(Dj lt).symm.trans hx;simp only[show ¬((i:Int) < 0)from by omega,CV,Bd,hx];refine BJ ?_
 first | refine BJ (GJ ty<|BK ?_) | refine BJ<|IK ty<|BK ?_
 refine BJ<|KZ ty ?_;show wpAny _ _ (setField (.ref it) 3 (rawInt<|(i:Int)+1) >>= _) _ _ ⟨hp,g,dr,tk,os⟩;refine BJ (JH hit (by simp) λha ea sa=>?_);replace sa:Heap.SameBut it hp ha:=sa;replace ea:IsItemIter ha it d (i+1) es.size ep y z:=by
  have e:((i+1:Nat):Int)=(i:Int)+1:=by omega
  unfold IsItemIter;rw[e]
  simpa[rawInt]using ea
 have PQ:Shared.TypeIs ⟨ha,g,dr,tk,os⟩ (.ref it) "dict_itemiterator":=⟨_,ea,rfl⟩;refine BJ<|CJ<|BJ<|KZ PQ<|BJ<|KZ PQ ?_;show wpAny _ _ (Builtin.Dict_items.pairFromOwner (.ref it) 6 en.key en.val) _ _ ⟨ha,g,dr,tk,os⟩;unfold Builtin.Dict_items.pairFromOwner Builtin.Dict_items.ownedTupleIsFree;refine BJ<|QD ?_;have eb:IsItemIter (ha.push {cls:= .type "tuple",data:= .seq #[en.key,en.val]}) it d (i+1) es.size ep y z:=Ag _ ea;have za:ha.objs.size=hp.objs.size:=sa.1;have il:it < hp.objs.size:=Aq hit;have tb:(ha.push {cls:= .type "tuple",data:= .seq #[en.key,en.val]}).get? hp.objs.size=some {cls:= .type "tuple",data:= .seq #[en.key,en.val]}:=by rw[<- za];exact At _ rfl
 have kb:∀ b u,b≠it->hp.get? b=some u->(ha.push {cls:= .type "tuple",data:= .seq #[en.key,en.val]}).get? b=some u:=λb u hb e=>Ag _<|sa.extBut b u hb e;rw[za];generalize ha.push {cls:= .type "tuple",data:= .seq #[en.key,en.val]}=hb at eb tb kb;refine BJ<|BJ<|IW (s:=⟨hb,g,dr,tk,os⟩) eb rfl (x:= .none) rfl (BK ?_);simp only[DN];refine BJ<|IW (s:=⟨hb,g,dr,tk,os⟩) eb rfl (x:=y) rfl (BJ<|IW (s:=⟨hb,g,dr,tk,os⟩) eb rfl (x:=z) rfl ?_);refine BJ (JH eb (by simp) λh3 e3 s3=>?_);replace s3:Heap.SameBut it hb h3:=s3;replace e3:IsItemIter h3 it d (i+1) es.size ep en.key z:=e3;refine BJ (JH e3 (by simp) λh4 e4 s4=>?_);replace s4:Heap.SameBut it h3 h4:=s4;replace e4:IsItemIter h4 it d (i+1) es.size ep en.key en.val:=e4;refine BJ (JH e4 (by simp) λh5 e5 s5=>?_);replace s5:Heap.SameBut it h4 h5:=s5;replace e5:IsItemIterOut h5 it d (i+1) es.size ep en.key en.val hp.objs.size:=e5;refine BJ (JH e5 (by simp) λh6 e6 s6=>?_);replace s6:Heap.SameBut it h5 h6:=s6;replace e6:IsItemIterOut h6 it d (i+1) es.size ep en.key en.val hp.objs.size:=e6;have all:=((s3.trans s4).trans s5).trans s6;exact BJ<|wpAny_letGo<|BK<|BK ⟨_,rfl,BK<|k h6 e6 (all.extBut _ _ (Cp il) tb) λb u iK e=>all.extBut b u iK<|kb b u iK e⟩
def k64{it d:Addr}{i ep:Nat}{es:Array DictEntry}{y z:Value}{Q:Option Value->Shared->Prop}(hh:A.handled=none)(hit:IsItemIter s.heap it d i es.size ep y z)(hm:Plain s.heap d es ep)(hx:es.size<=i)
  (k:∀ h',Heap.ExtBut it s.heap h'->Q none {s with heap:=h'}):wpAny (model P w) A (pyNext<|.ref it) Q E s:=by
 obtain⟨o,f1,f2,f3⟩:=hm;have ty:s.TypeIs (.ref it) "dict_itemiterator":=⟨_,hit,rfl⟩;have ow:Builtin.Dict_items.ownsTuple "dict_itemiterator" = true:=by decide
 unfold pyNext;refine BJ<|JF<|JC (name:=Str.ofString "__next__") ty GX<|DG GX ty PN ?_<|NQ _;refine BJ<|BK<|BJ<|BJ ?_
 first | refine BJ (GJ ty<|BK ?_) | refine BJ<|IK ty<|BK ?_
 refine BJ<|QC hit rfl ?_;simp only[ow,DN];show wpAny _ _ (if(Value.ref d == Value.none)=true then _ else _) _ _ s;rw[BL (show ¬((Value.ref d == Value.none)=true)from Av)];refine BJ<|BK<|BJ<|QZ f1 f3 ?_;rw[BL<|by simp];refine BJ<|BK<|BJ<|SM f1 f3 ?_;rw[BL<|by simp];refine BK ?_;simp only[show ¬((i:Int) < 0)from by omega,CV,Bd,Ee hx];refine BJ ?_
 first | refine BJ (GJ ty<|BK ?_) | refine BJ<|IK ty<|BK ?_
 show wpAny _ _ (setField (.ref it) 2 .none >>= _) _ _ s;refine BJ (DP hit rfl (by simp) ?_);show wpAny _ _ (newExc (.type "StopIteration") [] >>= _) _ _ _;refine BJ ?_;simp only[newExc,newTuple];refine BJ (CZ ?_<|by size_fits);refine BJ (m:=firstArgMember _ _) (IV (a:=Value.none) (by first | rfl | (simp only[firstArgMember];rfl)) ?_);refine CZ ?_ (by size_fits);simp only[raiseNew];refine BJ<|wpAny_handled ?_;rw[show A.in1.handled=none from hh];refine BJ<|BK<|wpAny_throw ?_;exact BJ<|JT (T:= "StopIteration") (b:=true) ⟨_,At _ rfl,rfl⟩ isSubtype_stop<|BK<|k _<|((CT ..).extBut.push _).push _
def j7x:entryFor table "dict_itemiterator.__iter__" = some Builtin.«dict_keyiterator.__iter__»:=
 QB (id':= "dict_keyiterator.__iter__") (by kernel_rfl) rfl (by decide +kernel) (by kernel_rfl)
def k5o{it d:Addr}{i n ep:Nat}{y z:Value}{Q:Ï}(e:IsItemIter s.heap it d i n ep y z)(h:Q (.ref it) s):wpAny (model P w) A (pyIter<|.ref it) Q E s:=by
 have ty:s.TypeIs (.ref it) "dict_itemiterator":=⟨_,e,rfl⟩;refine KR ty PX<|DG PX ty j7x ?_<|F.args_dict_itemiterator_iter_1 _;show wpAny _ _ (ret<|.ref it) _ _ s;exact BK ⟨_,rfl,"dict_itemiterator",_,ty,F.slot_dict_itemiterator_next.lookup,h⟩
end
end PySem
namespace L2
open PySem PySem.Spec PyProof.Rows
section
variable{X:Cx}{pins:Ñ}{σ:St}{H:Hp}{s:Shared}
def k26{d:Addr}{kvs:List (List Key×V)}(I:Inv X pins σ H s)(e:H d=some (.dT kvs)):∃ o,s.heap.get? d=some o/\Inv X pins σ (upd H d<|.bI o<|.dT kvs) s:=by
 obtain⟨z,hd,xs,r,o,es,ep,ho,h2,h3,h4,h5⟩:=(show aB X.prog X.w H s.heap d (.dT kvs)from I.aE d _ e);refine⟨o,ho,?_⟩;have r':KT (upd H d<|.bI o<|.dT kvs) kvs xs:=KT.keeps r λb ys q=>by
  rw[av<|ce q e λz=>nomatch z];exact q
 exact lW (t':=s.toks) I (by rw[e];exact True.intro) ⟨rfl,λ_ _=>rfl⟩ ⟨o,ho⟩ (show aB X.prog X.w _ s.heap d (.bI o<|.dT kvs) from⟨ho,z,hd,xs,r',o,es,ep,ho,h2,h3,h4,h5⟩)
def Itm(d:Addr)(o:Obj)(kvs:List<|List Key×V):It:=
  ⟨λi H => H d = some (.bI o<|.dT kvs) ∧ i < kvs.length,
   λi H v H'=>∃ T b k x,kvs[i]?=some (k,x)/\H b=some (.tup<|k.map kV)/\H T=none/\v = .ref T/\H'=upd H T (.tup [.ref b,x]),
   λi H=>H d=some (.bI o<|.dT kvs)/\kvs.length<=i⟩
def PR{P:Program}{w:World}{h:Heap}{d:Addr}{o:Obj}{es:Array DictEntry}{ep:Nat}{kvs:List (List Key×V)}(aE:b7 P w H h)(e:H d=some (.bI o<|.dT kvs))(hd:o.data = .dict es ep) :
  Plain h d es ep/\∃ xs,KT H kvs xs/\es.toList=xs.map (entryOfKey<|tupleKind<|dj P w):=by
 obtain⟨ho,z,_,xs,r,o',fm,nB,cJ,h2,h3,h4,h5⟩:=(show aB P w H h d (.bI o<|.dT kvs)from aE d _ e);have:o=o':=Option.some.inj<|ho.symm.trans cJ;subst this;rw[hd]at h3
 injection h3 with e1 e2
 subst e1;subst e2;exact⟨⟨o,ho,h2,hd⟩,xs,r,h4⟩
theorem kt_len{H:Hp}:∀{kvs:List (List Key×V)} {xs:List (List Key×Addr×Value)},KT H kvs xs->kvs.length=xs.length:=λr=>by
 induction r with
 | nil=>rfl
 | cons _ _ ih=>simp only[Ap,ih]
theorem kt_at{H:Hp}:∀{kvs:List (List Key×V)} {xs:List (List Key×Addr×Value)},KT H kvs xs->∀{i:Nat} {k:List Key} {x:V},kvs[i]?=some (k,x)->∃ b u,xs[i]?=some (k,b,u)/\H b=some (.tup<|k.map kV)/\RelV x u:=λr=>by
 induction r with
 | nil=>intro i k x h;simp at h
 | @cons p q ps qs hq t ih=>
  intro i k x h;cases i with
  | zero=>
   simp only[RT,Option.some.injEq]at h;subst h;obtain⟨a,b,c⟩:=q;obtain⟨q1,q2,q3⟩:=hq;have q1:k=a:=q1;subst q1;exact⟨b,c,rfl,q2,q3⟩
  | succ i=>exact ih<|by simpa using h
def k5k{P:Program}{w:World}{K:PySem.W.Frag}{elts:Õ}{kk:Nat}{tp:Pos}(d it:Addr)(o:Obj)(es:Array DictEntry)(ep:Nat)(kvs:List<|List Key×V)(mI:o.data = .dict es ep) :
  Turn P w K (.Tuple elts kk tp) (Itm d o kvs) [it] it (λi h=>∃ y z,IsItemIter h it d i es.size ep y z) where
 mem:=by simp
 obj:=λi h st b hb=>by
  have e:b=it:=by simpa using hb
  subst e;obtain⟨y,z,e⟩:=st;exact⟨_,e,λv z=>by cases z⟩
 keep:=λi h h' st k=>let ⟨y,z,e⟩:=st;⟨y,z,k it (by simp) _ e⟩
 item:=by
  intro X hP hw hK hc i pins s σ H E I hf st hg;subst hP hw hK;obtain⟨f0,f1,f2,f3,f4,f5⟩:=hf it (by simp);obtain⟨hd,hi⟩:=hg;obtain⟨pd,xs,r,uM⟩:=PR I.aE hd mI;obtain⟨y,z,st⟩:=st;have hx:kvs[i]?=some (kvs[i].1,kvs[i].2):=Ab hi;obtain⟨b,u,gT,hb,ru⟩:=kt_at r hx;have yH:=entry_at uM i;rw[gT]at yH;refine k45 st pd (en:=entryOfKey (tupleKind<|dj X.prog X.w) (kvs[i].1,b,u)) yH λh' q1 q2 kp=>?_;have hT:H s.heap.objs.size=none:=I.aE.fresh<|An _;have nT:it≠s.heap.objs.size:=Bm<|Aq st;have I1:Inv X pins σ (upd H s.heap.objs.size<|.tup [.ref b,kvs[i].2]) {s with heap:=s.heap.push {cls:= .type "tuple",data:= .seq #[Value.ref b,u]}}:=
   I.laid (t':=s.toks) (λb o e=>Ag _ e) (An _) (show aB X.prog X.w _ _ _ (.tup [.ref b,kvs[i].2]) from⟨Z2,[Value.ref b,u],.cons rfl (.cons ru .nil),⟨_,At _ rfl,rfl,_,rfl⟩⟩)
  have fp:∀ c∈[it],cf X pins (upd H s.heap.objs.size<|.tup [.ref b,kvs[i].2]) c:=λc bS=>by
   have e:c=it:=by simpa using bS
   subst e;exact⟨by rw[av nT];exact f0,f1,f2,f3,f4,f5⟩
  have I2:=Inv.cq (h':=h') (t':=s.toks) I1 fp λc v bS e=>by
   have nc:c≠it:=by simpa using bS
   rcases Heap.get?_push_cases e with ⟨ec,eo⟩ | e'
   ·rw[ec,eo];exact q2
   ·exact kp c v nc e'
  refine⟨_,rfl,wpAny_letOwnedTupleGo_items (s:={s with heap:=h'}) q1 λh2 b1 sb=>?_⟩;have I3:=Inv.cq (h':=h2) (t':=s.toks) I2 fp λc v bS e=>(sb.2 c<|by simpa using bS).trans e;exact⟨.ref s.heap.objs.size,_,I3,rfl,⟨_,b,kvs[i].1,kvs[i].2,hx,hb,hT,rfl,rfl⟩,⟨_,_,b1⟩,λc bS=>(fp c bS).1⟩
 done:=by
  intro X hP hw hK hc i pins s σ H E I hf st hg;subst hP hw hK;obtain⟨hd,hi⟩:=hg;obtain⟨pd,xs,r,uM⟩:=PR I.aE hd mI;obtain⟨y,z,st⟩:=st;have hl:es.size=kvs.length:=by rw[kt_len r,<- Bq,uM,Aa]
  exact k64 (I.ok.hd hc) st pd (by omega) λh' eb=>⟨rfl,I.cq (t':=s.toks) hf λc v bS e=>eb c v (by simpa using bS) e⟩
 self:=λ_ _ _ _ _ st h=>let ⟨y,z,e⟩:=st;k5o e h
end
section
variable{X:Cx}
def q94(to:TE):TI:=λσ H R=>to σ H λx H1=>∃ d kvs,x = .ref d/\H1 d=some (.dT kvs)/\∀ o,R (Itm d o kvs)<|upd H1 d<|.bI o<|.dT kvs
def PU{elts:Õ}{kk:Nat}{tp ap cp:Pos}{l:Expr}{to:TE}(ho:PE X l to)(bP:attributeBase l "items" X.env (eval l X.env)=eval l X.env:=by rfl)(hline:(ap.endLine == cp.line)=true:=by rfl) :
  PI X (.Tuple elts kk tp) (.Call (.Attribute l "items" ap) [] [] cp) (q94 to):=by
 intro pins s σ H R I h;refine wpAny_Call_method0_late bP hline<|aN (ho pins s σ H _ I h) λv s1 ⟨x,H1,I1,r1,q1⟩=>?_;obtain⟨d,kvs,e,hd,q⟩:=q1;subst e;cases (show v=Value.ref d from r1);obtain⟨_,hsy,_,_,o,es,ep,e1,e2,e3,_⟩:=(show aB X.prog X.w H1 s1.heap d (.dT kvs)from I1.aE d _ hd);have ty:s1.TypeIs (.ref d) "dict":=⟨o,e1,e2.1⟩;refine⟨"dict","dict.items",F.plainAttrs_dict,F.slot_dict_items,F.type_dict_items,ty,λa ea=>?_,JL rfl (PySem.evalArgs_none ?_)⟩
 ·cases ea;exact⟨o,e1,e2.2.1⟩
 refine call_meetsIn F.slot_dict_items ty F.entry_dict_items (F.args_dict_items_1 _) (k5b d hsy) ⟨ty,?_⟩;obtain⟨o',eo,I2⟩:=k26 I1 hd;have:o=o':=Option.some.inj<|e1.symm.trans eo;subst this;have I3:=I2.kept (t':=s1.toks) (h':=s1.heap.push {cls:= .type "dict_items",data:= .fields #[.ref d]}) λb u e=>Ag _ e;refine k4x (s:={s1 with heap:=s1.heap.push {cls:= .type "dict_items",data:= .fields #[.ref d]}}) (d:=d) (es:=es) (ep:=ep) ⟨_,At _ rfl,rfl,rfl⟩ ⟨o,Ag _ e1,e2,e3⟩ ?_;refine⟨_,[(s1.heap.push {cls:= .type "dict_items",data:= .fields #[.ref d]}).objs.size],_,_,_,rfl,I3.kept (t':=s1.toks) λb u e=>Ag _ e,k5k d _ o es ep kvs e3,⟨_,_,At _ rfl⟩,λb hb=>?_,q o⟩;have e:b=(s1.heap.push {cls:= .type "dict_items",data:= .fields #[.ref d]}).objs.size:=by simpa using hb
 subst e;exact I3.jM (An _)<|I3.aE.fresh<|An _
end
section
variable{X:Cx}{tg:Expr}{ifs:Õ}{inner:Sem Unit}{σ:St}{H:Hp}{d:Addr}{o:Obj}{kvs:List (List Key×V)}{after:St->Hp->Prop}
def PV(Pv:Nat->St->Hp->Prop)(h0:Pv 0 σ H)(hl:∀ i σ' H',i<=kvs.length->Pv i σ' H'->H' d=some (.bI o<|.dT kvs))
  (hs:∀ i k x b T σ' H',kvs[i]?=some (k,x)->Pv i σ' H'->H' b=some (.tup<|k.map kV)->H' T=none->Eg X tg (.ref T) σ' (upd H' T<|.tup [.ref b,x]) λσ2 H3=>Ei X ifs σ2 H3 λc H4=>if c=true then kW X inner σ2 H4 (Pv<|i+1)else Pv (i+1) σ2 H4)
  (hd:∀ σ' H',Pv kvs.length σ' H'->after σ' H'):hG X tg ifs inner (Itm d o kvs) after σ H:=by
 refine⟨λi m σ' H'=>m=kvs.length - i/\i<=kvs.length/\Pv i σ' H',⟨_,rfl,Bz _,h0⟩,?_⟩;rintro i m σ' H' ⟨rfl,hi,p⟩;have q:=hl i σ' H' hi p
 by_cases aY:i < kvs.length
 ·refine .inr ⟨⟨q,aY⟩,Pv<|i+1,λσ' H' p'=>⟨kvs.length - (i+1),by omega,rfl,aY,p'⟩,λv H2 y=>?_⟩;obtain⟨T,b,k,x,hx,hb,hT,rfl,rfl⟩:=y;exact hs i k x b T σ' _ hx p hb hT
 ·have e:i=kvs.length:=by omega
  subst e;exact .inl ⟨⟨q,An _⟩,hd σ' H' p⟩
end
open bF
def au{α:Type}:List α->List α
 | []=>[]
 | [a]=>[a]
 | a :: _ :: r=>a :: au r
theorem p8{α:Type}:∀(xs:List α) (k:Nat),(au xs)[k]?=xs[2 * k]?
 | [],k=>by simp[au]
 | [a],0=>rfl
 | [a],k+1=>by
  show([]:List α)[k]?=[a][2 * (k+1)]?;rw[Bf<|Bz _,Bf<|by show 1<=_;omega]
 | a :: b :: r,0=>rfl
 | a :: b :: r,k+1=>by
  show(au r)[k]?=(a :: b :: r)[2 * (k+1)]?;rw[p8 r k,show 2 * (k+1)=2 * k+1+1 by omega];rfl
theorem uN{α:Type}:∀(xs:List α),(au xs).length=(xs.length+1) / 2
 | []=>by
  show 0=(0+1) / 2;omega
 | [a]=>by
  show 1=(1+1) / 2;omega
 | a :: b :: r=>by
  show(au r).length+1=(r.length+1+1+1) / 2;rw[uN r];omega
def q2d{α:Type}(xs:List α):(au xs).length<=xs.length:=by
 rw[uN];omega
theorem PY:∀{xs:List V} {us:Ô},ay xs us->ay (au xs) (au us)
 | [],us,r=>by
  have:=r.zero;subst this;exact .nil
 | [a],us,r=>by
  obtain⟨u,rfl,ru⟩:=r.one;exact .cons ru .nil
 | a :: b :: r,us,h=>by
  cases h with
  | cons h1 h2=>
   cases h2 with
   | cons h3 h4=>exact .cons h1<|PY h4
theorem PZ{α:Type}(g:Nat->Option α):∀(c:Nat),(∀ k,k < c->∃ v,g k=some v)->((List.range c).filterMap g).length=c/\∀ k,k < c->((List.range c).filterMap g)[k]?=g k
 | 0,_=>⟨rfl,λk h=>absurd h<|Eb _⟩
 | c+1,h=>by
  obtain⟨h1,h2⟩:=PZ g c λk hk=>h k (by omega);obtain⟨v,hv⟩:=h c (by omega);have e:(List.range<|c+1).filterMap g=(List.range c).filterMap g++[v]:=by
   rw[Do,List.filterMap_append,Ec,hv];rfl
  rw[e];refine⟨by rw[Af,h1];rfl,λk hk=>?_⟩
  by_cases mj:k < c
  ·rw[As<|by omega];exact h2 k mj
  ·have:k=c:=by omega
   subst this;rw[Az (by omega),h1,VD,hv];rfl
def k5r(its:Ô):slicePick its.toArray none none (some 2)=(au its).toArray:=by
 unfold slicePick;have hb:sliceBounds none none (some 2) its.toArray.size=(0,(its.length:Int),2):=rfl;rw[hb]
 congr 1
 show((sliceRange 0 (its.length:Int) 2).filterMap (its.toArray[·]?))=au its;have hr:sliceRange 0 (its.length:Int) 2=(List.range<|(its.length+1) / 2).map λk=>2 * k:=by
  unfold sliceRange;have e1:(if(2:Int) > 0 then(if(0:Int) < (its.length:Int) then((its.length:Int) - 0+2 - 1) / 2 else 0) else(if(0:Int) > (its.length:Int) then(0 - (its.length:Int) - 2 - 1) / (-2)else 0)).toNat=(its.length+1) / 2:=by
   rw[BP<|by decide]
   split <;> omega
  show(List.range _).map _=_;rw[e1];exact Ao λk _=>by omega
 rw[hr,List.filterMap_map];obtain⟨h1,h2⟩:=PZ (λk=>its.toArray[2 * k]?) ((its.length+1) / 2) λk hk=>⟨its[2 * k]'(by omega),by rw[<- Bs];exact Ab (l:=its)<|by omega⟩;apply Ds;intro k;show((List.range<|(its.length+1) / 2).filterMap λk=>its.toArray[2 * k]?)[k]?=_
 by_cases hk:k < (its.length+1) / 2
 ·rw[h2 k hk,p8,<- Bs]
 ·rw[Bf (by omega),Bf<|by rw[uN];omega]
section
variable{X:Cx}{σ:St}{H:Hp}{Q:VK}
def q18{e:Expr}{j:Nat}{p1 p2 pos:Pos} (h:Ev X e σ H λx H1=>∃ a xs,x = .ref a/\aq X.K H1 a xs/\∀ p,H1 p=none->Q (.ref p) (upd H1 p<|.lst<|au xs)) :
  Ev X (.Subscript e (.Slice none none (some<|.Constant (.int 2) j p1) p2) pos) σ H Q:=by
 refine⟨λpins s I=>Subscript_<|aN (h.run pins s I) λv s1 ⟨x,H1,I1,r1,a,xs,ex,hx,q⟩=>?_⟩;subst ex;cases (show v=Value.ref a from r1);refine wpAny_Slice ?_;rw[evalPart_none];refine BK<|BK ?_;rw[evalPart_some];refine aN ((aC (X:=X) (i:=2) (j:=j) (p:=p1) (σ:=σ) (H:=H1) (Q:=λy H2=>y = .int 2/\H2=H1) ⟨rfl,rfl⟩).run pins s1 I1) λv2 s2 ⟨y,H2,I2,r2,ey,eh⟩=>?_;subst ey eh;obtain⟨t,rfl⟩:=r2;obtain⟨its,r,pl,hz⟩:=I2.list hx;have hlen:=r.length;have I3:Inv X pins σ H2 {s2 with heap:=s2.heap.push {cls:= .type "slice",data:= .fields #[.none,.none,.int 2 t]}}:=I2.kept (t':=s2.toks) λb ob q=>Ag _ q;have P0:=pl.isList.push {cls:= .type "slice",data:= .fields #[.none,.none,.int 2 t]};show wpAny (model X.prog X.w) X.A (subscriptTail e _ (.ref a)<|.ref s2.heap.objs.size) (EP X pins σ Q) X.xe {s2 with heap:=s2.heap.push {cls:= .type "slice",data:= .fields #[.none,.none,.int 2 t]}};refine tail_any (ops:=[.ref a,.ref s2.heap.objs.size]) (T:= "list") (Heap.IsList.typeIs (s:={s2 with heap:=s2.heap.push {cls:= .type "slice",data:= .fields #[.none,.none,.int 2 t]}}) P0) slot_list_getitem.lookup ?_ (by with_unfolding_all rfl);refine wpAny_getItem_list_slice (s:={s2 with heap:=s2.heap.push {cls:= .type "slice",data:= .fields #[.none,.none,.int 2 t]}}) P0 (Heap.IsSliceOf.new ..) .none .none (.int 2 t) (by decide) ?_ (by rw[Aw];omega);rw[k5r];exact⟨.ref _,_,I3.ua (t':=s2.toks) (PY r)<|By (q2d _) hz,rfl,q _ I3.fresh⟩
end
section
variable{prog:Program}{w:World}{A:Around}{E:Ï}{s:Shared}
def k7i{Q:Ï}(k:Q (.ref s.heap.objs.size) {s with heap:=s.heap.push (gq w)}):codeAny (model prog w) A (.call (.builtin "set.__new__") ⟨[.type "set"],[]⟩) (wants Q E) s:=by
 refine JX ?_;show wpAny _ A.in1 (checkBuiltinCall "set.__new__" ⟨[.type "set"],[]⟩ >>= λ_=>again<|.builtin "set.__new__" ⟨[.type "set"],[]⟩) _ _ s;refine BJ<|IV PySem.F.newCall_set_0<|BK ⟨JD TY _,FQ PySem.F.entry_set_new ?_⟩;rw[FN TY _];unfold Builtin.«set.__new__» Builtin.Frozenset.newClass
 dsimp only
 refine BJ<|BJ<|IV (show isType (.type "set")=pure true from rfl)<|BK ?_;simp only[Dx,Bb,CV];unfold newSet;refine BJ<|BJ<|wp_text ?_
 dsimp only
 simp only[newObj];exact BJ<|QF<|BK<|BK k
theorem k6q{Q:Ï}(k:Q (.ref s.heap.objs.size) {s with heap:=s.heap.push (gq w)}):wpAny (model prog w) A (call (.type "set") []) Q E s:=by
 obtain⟨c,tl,jZ⟩:=PySem.F.called_set.mro;have um:=PySem.F.called_set.made;have mw:=PySem.F.called_set.sub;refine RD<|JX ?_;show wpAny _ _ (callAny (.type "set") _) _ _ _;refine BK ⟨Code.quiet_builtin _ (by decide +kernel),FQ PySem.F.entry_type_call ?_⟩;rw[Around.under_plain (weight_type_call_type "set" [] []) rfl];have h1:=PySem.F.called_set.notType;have h2:=PySem.F.called_set.canCreate;have h3:=PySem.F.typeCall_set_0
 repeat (any_goals (first | assumption | wp_step))
 refine JB (k7i (E:=E) (Q:=λv u=>v = .ref s.heap.objs.size/\u={s with heap:=s.heap.push (gq w)}) ⟨rfl,rfl⟩) λr u hr=>?_;cases r with
 | error e=>exact hr
 | ok fl=>
  cases fl with
  | ret v=>
   obtain⟨rfl,rfl⟩:=hr;have hT:Shared.TypeIs {s with heap:=s.heap.push (gq w)} (.ref s.heap.objs.size) "set":=⟨_,At _ rfl,rfl⟩;have rO:=PySem.F.called_set.init.lookup;have D4:=PySem.F.called_set.init.bind<|.ref s.heap.objs.size
   repeat (any_goals (first | assumption | wp_step))
   refine JB (PJ (R:=wants (λr u=>r = .none/\Q (.ref s.heap.objs.size) u) E) PySem.F.called_set.init.plain PySem.F.entry_set_init<|check_set_init hT ?_) λr2 u2 pE=>?_
   ·unfold Builtin.«set.__init__» noKeywords
    wp_walk
    exact⟨rfl,k⟩
   ·cases r2 with
    | error e=>exact pE
    | ok f2=>
     cases f2 with
     | ret r=>
      obtain⟨rfl,hq⟩:=pE
      repeat (any_goals (first | assumption | wp_step))
     | _=>exact pE.elim
  | _=>exact hr.elim
def k6x{a:Addr}{zs:Ò}{z:Str}{tk:Tok}{Q:Ï}(S:az prog w s.heap a zs) (h:Q (.bool<|decide (z∉zs)) {s with toks:=s.toks+1}):wpAny (model prog w) A (compareOp .NotIn (.str z tk)<|.ref a) Q E s:=by
 have hT:=S.typeIs;show wpAny _ _ (do return .bool (!(<- contains (.ref a)<|.str z tk))) Q E s;refine BJ ?_;unfold contains
 try with_reducible refine CJ ?_
 refine BJ<|RZ hT PySem.F.slot_set_contains.lookup ?_;show wpAny _ _ (if(some (Value.builtin "set.__contains__") == some Value.none)=true then _ else _) _ E s;rw[BL<|by rw[beq_builtin_none];exact Av];refine BJ<|wpAny_callSpecialUnlessNone?_slot (name:=Str.ofString "__contains__") hT RJ<|DG RJ hT entry_set_contains ?_<|PySem.F.args_set_contains_2 _ _;unfold Builtin.«frozenset.__contains__» Builtin.Frozenset.oneOther;simp only[Gh,bind_assoc];unfold Builtin.Frozenset.addrOf Builtin.Frozenset.withSetAsKey setContains;refine BJ<|BK ?_
 try dsimp only
 refine BJ<|BK ?_
 try dsimp only
 refine BJ<|wpAny_tryCatch<|CJ ?_;refine BJ<|(strKind prog w).pyHash (k:=z) (PB _ _ _ _) ?_;obtain⟨o,es,ep,t,ho,hx,hd,T⟩:=S;refine BJ<|Oc (s:={s with toks:=s.toks+1}) ho hd T (λhz=>?_) λj hj e=>?_
 ·refine BK ?_;show wpAny _ _ (ret<|Value.bool false) _ _ _;rw[BW hz]at h;exact BK ⟨_,rfl,FP<|BK h⟩
 ·refine BK ?_;show wpAny _ _ (ret<|Value.bool true) _ _ _;have hz:z∈zs:=T.keys.mem_iff.mp (by rw[<- e];exact Al.mpr ⟨_,Bu hj,rfl⟩);rw[BR<|not_not_intro hz]at h;exact BK ⟨_,rfl,FP<|BK h⟩
end
section
variable{X:Cx}{σ:St}{H:Hp}{Q:VK}
def q5z{p pos:Pos}(hm:X.mg "set" = none)(h:∀ D,H D=none->Q (.ref D) (upd H D<|bb X.prog X.w D []))(hg:Gl X "set":=by rfl):Ev X (.Call (.Name "set" p) [] [] pos) σ H Q:=by
 refine⟨λpins s I=>Call_<|oR I hg hm MN<|PyProof.Rows.callWith_type0<|k6q ?_⟩;exact⟨.ref s.heap.objs.size,_,I.laid (t':=s.toks) (λb o e=>Ag _ e) (An _)<|rS<|D1<|At _ rfl,rfl,h _ I.fresh⟩
def j99:cK X (compareOp .NotIn) (λx y H Q=>∃ z a zs,x = .str z/\y = .ref a/\H a=some (bb X.prog X.w a zs)/\Q (.bl<|decide (z∉zs)) H):=by
 intro pins s σ H x y v u Q I rx ry h;obtain⟨z,a,zs,rfl,rfl,hA,q⟩:=h;obtain⟨t,rfl⟩:=rx;cases (show u=Value.ref a from ry);exact k6x (I.set hA) ⟨.bl _,H,I.tok _,rfl,q⟩
def q6f{o e:Expr}{ap cp:Pos} (h:Ev X o σ H λx H1=>∃ a,x = .ref a/\(∃ zs,H1 a=some (bb X.prog X.w a zs))/\Ev X e σ H1 λy H2=>∃ z zs,y = .str z/\H2 a=some (bb X.prog X.w a zs)/\zs.length+1 < 1000/\Q .non (upd H2 a<|bb X.prog X.w a<|added zs z))
  (bP:attributeBase o "add" X.env (eval o X.env)=eval o X.env:=by rfl)
  (cG:((backTo cp<|starEach [e] X.env).all (λx=>!x.1) && (backToKw cp<|keywordEach [] X.env).all (λx=>x.1.isSome) && decide ([e].length+([]:List Keyword).length+(if([]:List Keyword).isEmpty then 0 else 1) < 30))=true:=by rfl)
  (hline:(ap.endLine == cp.line)=true:=by rfl) (hs:starEach [e] X.env=(false,eval e X.env) :: starEach [] X.env:=by rfl) (cn:isStar e=false:=by rfl):Ev X (.Call (.Attribute o "add" ap) [e] [] cp) σ H Q:=by
 refine⟨λpins s I=>wpAny_Call_method_late bP cG hline rfl (aN (h.run pins s I) λv s1 ⟨x,H1,I1,r1,a,ex,⟨zs,hA⟩,h2⟩=>?_)⟩;subst ex;cases (show v=Value.ref a from r1);have S:=I1.set hA;refine⟨"set","set.add",PySem.F.plainAttrs_set,PySem.F.slot_set_add,PySem.F.type_set_add,S.typeIs,λb eb=>?_,?_⟩
 ·cases eb;obtain⟨o,_,_,_,ho,hx,_⟩:=S;exact⟨o,ho,hx.2.1⟩
 have hE:Ea X [e] σ H1 (λys H2=>∃ z zs,ys=[.str z]/\H2 a=some (bb X.prog X.w a zs)/\zs.length+1 < 1000/\Q .non (upd H2 a<|bb X.prog X.w a<|added zs z)):=ah (h2.mono λy H2 ⟨z,zs,ey,q⟩=>ax ⟨z,zs,by rw[ey],q⟩) cn;have P1:=hE.run cp pins s1 I1;rw[hs]at P1 ⊢;refine JL rfl (NZ ?_);refine aN P1 λus s2 ⟨vs,H2,I2,r2,z,ys,ev,P2,hl,q⟩=>?_;subst ev;obtain⟨u,rfl,ru⟩:=vals1 r2;obtain⟨tk,rfl⟩:=ru;refine PH (I2.set P2) hl λh' sb S'=>⟨.non,_,lW (t':=s2.toks+1) I2 (by rw[P2];exact True.intro) sb ?_<|rS S',rfl,q⟩;obtain⟨o,_,_,_,ho,_⟩:=S';exact⟨o,ho⟩
end
end L2
namespace Nt
open PySem L2
def dW(c:Int)(n:Net)(e:End):End:=(e.1,(((e.2:Int)+c) % ((row n e.1).length:Int)).toNat)
def sv{c:Int}{n:Net}{e:End}(h:e∈ends n):(((dW c n e).2:Nat):Int)=((e.2:Int)+c) % ((row n e.1).length:Int):=by
 obtain⟨z,hz⟩:=af.mp h;have:=gy hz;exact Int.toNat_of_nonneg<|Bp _<|by omega
def P4{c:Int}{n:Net}{e:End}(h:e∈ends n):dW c n e∈ends n:=by
 obtain⟨z,hz⟩:=af.mp h;have h1:=gy hz;have h2:=sv (c:=c) h;have h3:((e.2:Int)+c) % ((row n e.1).length:Int) < ((row n e.1).length:Int):=Bv _ (by omega);exact af.mpr<|ye (e:=dW c n e)<|by show(dW c n e).2 < (row n e.1).length;omega
def p9{c:Int}{n:Net}{e:End}(h:e∈ends n):dW (-c) n (dW c n e)=e:=by
 have h2:=sv (c:=c) h;have h3:=sv (c:=-c)<|P4 (c:=c) h;obtain⟨z,hz⟩:=af.mp h;have h1:=gy hz;have hr:(dW c n e).1=e.1:=rfl;rw[hr,h2]at h3;have e1:(((e.2:Int)+c) % ((row n e.1).length:Int)+-c) % ((row n e.1).length:Int)=(e.2:Int):=by
  have:(((e.2:Int)+c) % ((row n e.1).length:Int)+-c) % ((row n e.1).length:Int)=((e.2:Int)+c+-c) % ((row n e.1).length:Int):=by
   rw[Int.add_emod,Int.emod_emod,<- Int.add_emod]
  rw[this,show(e.2:Int)+c+-c=(e.2:Int) by omega];exact Int.emod_eq_of_lt (by omega)<|by omega
 rw[e1]at h3;have h4:(dW (-c) n<|dW c n e).2=e.2:=by omega
 exact HX rfl h4
def P5{c:Int}{n:Net}{a b:End}(ha:a∈ends n)(hb:b∈ends n)(h:dW c n a=dW c n b):a=b:=by
 rw[<- p9 (c:=c) ha,<- p9 (c:=c) hb,h]
def P6{n:Net}{e:End}(h:e∈ends n):left n e=dW 1 n e:=by
 have h2:=sv (c:=1) h;refine HX rfl ?_;show(e.2+1) % (row n e.1).length=(dW 1 n e).2;have:(((e.2+1) % (row n e.1).length:Nat):Int)=((e.2:Int)+1) % ((row n e.1).length:Int):=by simp
 omega
def go(c:Int)(n:Net)(e:End):End:=dW c n<|other n e
def gD{c:Int}{n:Net}(T:aw n){e:End}(h:e∈ends n):go c n e∈ends n:=P4<|db T h
def go_inj{c:Int}{n:Net}(T:aw n){a b:End}(ha:a∈ends n)(hb:b∈ends n)(h:go c n a=go c n b):a=b:=O3 T ha hb<|P5 (db T ha) (db T hb) h
def P7{n:Net}(T:aw n){e:End}(h:e∈ends n):step n e=go 1 n e:=P6<|db T h
def two(n:Net)(e:End):End:=go (-1) n<|go 1 n e
def mK{n:Net}(T:aw n){e:End}(h:e∈ends n):two n e∈ends n:=gD T<|gD T h
def uO{n:Net}(T:aw n){a b:End}(ha:a∈ends n)(hb:b∈ends n)(h:two n a=two n b):a=b:=go_inj T ha hb<|go_inj T (gD T ha) (gD T hb) h
def wk(n:Net)(e:End):Nat->List End
 | 0=>[]
 | k+1=>wk n e k++[it (two n) k e,go 1 n<|it (two n) k e]
theorem qb(n:Net)(e:End):∀ k,(wk n e k).length=2 * k
 | 0=>rfl
 | k+1=>by
  show(wk n e k++_).length=_;rw[Af,qb n e k];show 2 * k+2=_;omega
theorem qd(n:Net)(e:End):∀(k i:Nat),i < k->(wk n e k)[2 * i]?=some (it (two n) i e)
 | 0,i,h=>absurd h<|Eb _
 | k+1,i,h=>by
  show(wk n e k++[it (two n) k e,go 1 n<|it (two n) k e])[2 * i]?=_;have l:=qb n e k
  by_cases hk:i < k
  ·rw[As<|by omega];exact qd n e k i hk
  ·have:i=k:=by omega
   subst this;rw[Az (by omega),l,VD];rfl
theorem yI(n:Net)(e:End):∀(k i:Nat),i < k->(wk n e k)[2 * i+1]?=some (go 1 n<|it (two n) i e)
 | 0,i,h=>absurd h<|Eb _
 | k+1,i,h=>by
  show(wk n e k++[it (two n) k e,go 1 n<|it (two n) k e])[2 * i+1]?=_;have l:=qb n e k
  by_cases hk:i < k
  ·rw[As<|by omega];exact yI n e k i hk
  ·have:i=k:=by omega
   subst this;rw[Az (by omega),l,show 2 * i+1 - 2 * i=1 by omega];rfl
def q2i(n:Net)(e:End)(k:Nat):au (wk n e k)=(List.range k).map λi=>it (two n) i e:=by
 apply Ds;intro i;rw[p8,Ai]
 by_cases h:i < k
 ·rw[qd n e k i h,Ed h];rfl
 ·rw[Bf (by rw[qb];omega),Bf<|by rw[Em];omega];rfl
theorem F'{n:Net}(T:aw n){e:End}(h:e∈ends n):∀ k,∀ c∈wk n e k,c∈ends n
 | 0,c,hc=>by cases hc
 | k+1,c,hc=>by
  have hk:it (two n) k e∈ends n:=j6 (λa ha=>mK T ha) h k
  rcases Am.mp hc with hc | hc
  ·exact F' T h k c hc
  ·rcases Aj.mp hc with rfl | hc
   ·exact hk
   ·rw[Ad.mp hc];exact gD T hk
structure je(n:Net)(e:End)(k:Nat):Prop where
 pos:0 < k
 back:it (two n) k e=e
 first:∀ i,0 < i->i < k->it (two n) i e≠e
def je.unique{n:Net}{e:End}{k l:Nat}(a:je n e k)(b:je n e l):k=l:=by
 rcases RB k l with h | h | h
 ·exact absurd a.back<|b.first k a.pos h
 ·exact h
 ·exact absurd b.back<|a.first l b.pos h
noncomputable def uP(n:Net)(e:End):Nat:=by classical exact if h:∃ k,je n e k then h.choose else 0
def uQ{n:Net}{e:End}{k:Nat}(h:je n e k):uP n e=k:=by
 have hx:∃ k,je n e k:=⟨k,h⟩;unfold uP;rw[dif_pos hx];exact hx.choose_spec.unique h
noncomputable def walker(n:Net)(e:End):List End:=wk n e<|uP n e
structure kd(n:Net)(ws:List End):Prop where
 ends:∀ c∈ws,c∈Nt.ends n
 ne0:0 < ws.length
 even:ws.length % 2=0
 few:ws.length<=2 * (Nt.ends n).length
 at':∀ k,k < ws.length->∃ c,ws[k]?=some c/\ws[(k+1) % ws.length]?=some (go (1 - 2 * ((k:Int) % 2)) n c)
def q89{n:Net}(T:aw n){e:End}(h:e∈Nt.ends n){k:Nat}(p:je n e k)(hk:k<=(Nt.ends n).length):kd n (wk n e k):=by
 have l:=qb n e k;have p0:=p.pos;refine⟨F' T h k,by omega,by omega,by omega,λj hj=>?_⟩;rw[l]at hj ⊢
 rcases QT j with h2 | h2
 ·obtain⟨i,rfl⟩:∃ i,j=2 * i:=⟨j / 2,by omega⟩;refine⟨_,qd n e k i (by omega),?_⟩;rw[Cc (by omega),yI n e k i<|by omega];have:(1:Int) - 2 * (((2 * i:Nat):Int) % 2)=1:=by omega
  rw[this]
 ·obtain⟨i,rfl⟩:∃ i,j=2 * i+1:=⟨j / 2,by omega⟩;refine⟨_,yI n e k i (by omega),?_⟩;have e1:(1:Int) - 2 * (((2 * i+1:Nat):Int) % 2)=-1:=by omega
  rw[e1];show _=some (two n<|it (two n) i e)
  by_cases hl:i+1 < k
  ·rw[Cc (by omega),show 2 * i+1+1=2 * (i+1) by omega];exact qd n e k (i+1) hl
  ·have:i+1=k:=by omega
   rw[show 2 * i+1+1=2 * k by omega,Ef];have e2:two n (it (two n) i e)=it (two n) k e:=by rw[<- this];rfl
   rw[e2,p.back];exact qd n e k 0<|by omega
def aF(n:Net)(e:End):Str:=(aI n e).getD ⟨#[]⟩
def fD{n:Net}{e:End}{z:Str}(h:aI n e=some z):aF n e=z:=by unfold aF;rw[h];rfl
noncomputable def dX(n:Net):List End->Ò->List (List End)
 | [],_=>[]
 | e :: r,told=>if aF n e∈told then dX n r told else walker n e :: dX n r (told++(au<|walker n e).map (aF n))
def sw{n:Net}(T:aw n){e:End}(h:e∈ends n):∃ k,je n e k/\k<=(ends n).length:=by
 obtain⟨k,k0,k1,k2⟩:=EG (f:=two n) (S:=ends n) (λa ha=>mK T ha) (λa ha b hb=>uO T ha hb) h;have aux:∀ m,∀ k,k<=m->0 < k->it (two n) k e=e->∃ j,j<=k/\je n e j:=by
  intro m
  induction m with
  | zero=>intro k h1 h2;omega
  | succ m ih=>
   intro k h1 h2 h3
   by_cases c:∃ i,0 < i/\i < k/\it (two n) i e=e
   ·obtain⟨i,i1,i2,i3⟩:=c;obtain⟨j,j1,j2⟩:=ih i (by omega) i1 i3;exact⟨j,by omega,j2⟩
   ·exact⟨k,An _,h2,h3,λi i1 i2 i3=>c ⟨i,i1,i2,i3⟩⟩
 obtain⟨j,j1,j2⟩:=aux k k (An _) k0 k2;exact⟨j,j2,by omega⟩
def k8m{n:Net}(T:aw n){e:End}(h:e∈ends n):kd n (walker n e):=by
 obtain⟨k,p,hk⟩:=sw T h;unfold walker;rw[uQ p];exact q89 T h p hk
theorem nX{n:Net}(T:aw n):∀(es:List End) (told:Ò),(∀ e∈es,e∈ends n)->∀ w∈dX n es told,kd n w
 | [],_,_,w,hw=>by cases hw
 | e :: r,told,h,w,hw=>by
  unfold dX at hw
  split at hw
  ·exact nX T r told (λa ha=>h a<|Ah _ ha) w hw
  ·rcases Aj.mp hw with rfl | hw
   ·exact k8m T<|h e<|Ae ..
   ·exact nX T r _ (λa ha=>h a<|Ah _ ha) w hw
theorem yJ(n:Net):∀(es:List End) (told:Ò),(dX n es told).length<=es.length
 | [],_=>An _
 | e :: r,told=>by
  unfold dX
  split
  ·have:=yJ n r told;show _<=r.length+1;omega
  ·have:=yJ n r<|told++(au<|walker n e).map (aF n);show _+1<=r.length+1;omega
end Nt
namespace Nt
variable{α β:Type}
def gU(f:α->α):List α->α->α->Prop
 | [],a,b=>a=b
 | x :: l,a,b=>x=a/\gU f l (f x) b
theorem b6{f:α->α}:∀{l k:List α} {a b:α},gU f (l++k) a b↔∃ c,gU f l a c/\gU f k c b
 | [],k,a,b=>⟨λh=>⟨a,rfl,h⟩,λ⟨c,e,h⟩=>by cases e;exact h⟩
 | x :: l,k,a,b=>by
  show(x=a/\gU f (l++k) (f x) b)↔∃ c,(x=a/\gU f l (f x) c)/\gU f k c b;rw[b6];exact⟨λ⟨e,c,h1,h2⟩=>⟨c,⟨e,h1⟩,h2⟩,λ⟨c,⟨e,h1⟩,h2⟩=>⟨e,c,h1,h2⟩⟩
theorem Gz{f:α->α}{f':β->β}{g:α->β}:∀{l:List α} {a b:α},(∀ x∈l,f' (g x)=g (f x))->gU f l a b->gU f' (l.map g) (g a) (g b)
 | [],_,_,_,h=>BZ g h
 | x :: l,a,b,hg,h=>⟨BZ g h.1,by rw[hg x Ae];exact Gz (λy hy=>hg y<|Ah _ hy) h.2⟩
theorem yK{f:α->α}:∀{l:List α} {x a b y:α},gU f (x :: l) a b->y∈x :: l->f y∈l\/f y=b
 | [],x,a,b,y,h,hy=>by
  rw[Ad]at hy;subst hy;exact .inr h.2
 | z :: l,x,a,b,y,h,hy=>by
  rcases Aj.mp hy with rfl | hy
  ·exact .inl<|by rw[<- h.2.1];exact Ae
  ·rcases yK h.2 hy with q | q
   ·exact .inl<|Ah _ q
   ·exact .inr q
theorem GA{f:α->α}{l:List α}{a y:α}(h:gU f l a a)(ha:a∈l)(hy:y∈l):f y∈l:=by
 cases l with
 | nil=>cases hy
 | cons x l=>
  rcases yK h hy with q | q
  ·exact Ah _ q
  ·rw[q];exact ha
theorem yL{f:α->α}{f':β->β}{g:α->β}{c:α}{h:β}:∀{l:List α} {x:α},(∀ y∈x :: l,f y=c->f' (g y)=h)->(∀ y∈x :: l,f y≠c->f' (g y)=g (f y))->c∉l->gU f (x :: l) x c->gU f' ((x :: l).map g) (g x) h
 | [],x,h1,_,_,p=>⟨rfl,h1 x Ae p.2⟩
 | y :: l,x,h1,h2,hc,p=>by
  have e:y=f x:=p.2.1;have ne:f x≠c:=λq=>hc (by rw[<- q,<- e];exact Ae);refine⟨rfl,?_⟩;rw[h2 x Ae ne,<- e];refine yL (λz hz=>h1 z<|Ah _ hz) (λz hz=>h2 z<|Ah _ hz) (λq=>hc<|Ah _ q) ?_;exact⟨rfl,p.2.2⟩
structure Dec(f:α->α)(D:List α)(Ls:List<|List α):Prop where
 ke:∀ l∈Ls,∃ a,a∈l/\gU f l a a
 all:Ls.flatten.Perm D
 nd:D.Nodup
def Dec.sub{f:α->α}{D:List α}{Ls:List (List α)}(d:Dec f D Ls){l:List α}(hl:l∈Ls){x:α}(hx:x∈l):x∈D:=
 d.all.mem_iff.mp (Fn.mpr ⟨l,hl,hx⟩)
def Dec.pick{f:α->α}{D:List α}{Ls:List (List α)}(d:Dec f D Ls){c:α}(hc:c∈D):∃ l Ms,Ls.length=Ms.length+1/\Dec f D ((c :: l) :: Ms):=by
 obtain⟨l,hl,jb⟩:=Fn.mp<|d.all.mem_iff.mpr hc;obtain⟨A,B,rfl⟩:=Fv hl;obtain⟨p,q,rfl⟩:=Fv jb;obtain⟨a,ha,h⟩:=d.ke _ hl;obtain⟨m,h1,h2⟩:=b6.mp h;have e:c=m:=h2.1;subst e;refine⟨q++p,A++B,by simp[Nat.add_assoc],λk hk=>?_,?_,d.nd⟩
 ·rcases Aj.mp hk with rfl | hk
  ·exact⟨c,Ae,b6 (l:=c :: q).mpr ⟨a,h2,h1⟩⟩
  ·refine d.ke k ?_
   rcases Am.mp hk with q | q
   ·exact Ba _ q
   ·exact Ax _<|Ah _ q
 ·refine List.Perm.trans ?_ d.all;simp only[Dd,Fp,Fm];have e1:(c :: (q++p)).Perm (p++c :: q):=by
   rw[<- Fm];exact Ci
  refine((e1.append_right _).trans ?_);rw[<- Ar,<- Ar];exact(Ci).append_right _
def Dec.apart{f:α->α}{D:List α}{l:List α}{Ms:List (List α)}(d:Dec f D<|l :: Ms):l.Nodup/\∀ m∈Ms,∀ x∈l,x∉m:=by
 have h:=d.all.nodup_iff.mpr d.nd;rw[Dd,Cj]at h;exact⟨h.1,λm hm x hx GH=>h.2.2 x hx x (Fn.mpr ⟨m,hm,GH⟩) rfl⟩
theorem yM{g:α->β}:∀(Ls:List<|List α),(Ls.map<|List.map g).flatten=Ls.flatten.map g
 | []=>rfl
 | l :: Ls=>by rw[Bi,Dd,yM Ls,Dd,Ak]
def Dec.rest{f:α->α}{f':β->β}{g:α->β}{D:List α}{l:List α}{Ms:List (List α)}(d:Dec f D<|l :: Ms)(ho:∀ x∈D,f x∉l->f' (g x)=g (f x)):∀ m∈Ms.map (List.map g),∃ a,a∈m/\gU f' m a a:=by
 intro m hm;obtain⟨k,hk,rfl⟩:=Al.mp hm;obtain⟨a,ha,p⟩:=d.ke k<|Ah _ hk;refine⟨g a,Al.mpr ⟨a,ha,rfl⟩,Gz (λx hx=>ho x (d.sub (Ah _ hk) hx) λq=>?_) p⟩;exact d.apart.2 k hk _ q<|GA p ha hx
def Dec.grow{f:α->α}{f':β->β}{g:α->β}{D:List α}{c:α}{l:List α}{Ms:List (List α)}(d:Dec f D<|(c :: l) :: Ms){new:List β}{h:β}(hn:gU f' new h<|g c)(hh:∀ x∈D,f x=c->f' (g x)=h)(ho:∀ x∈D,f x≠c->f' (g x)=g (f x))(nd:(D.map g++new).Nodup) :
  Dec f' (D.map g++new) (((c :: l).map g++new) :: Ms.map (List.map g)):=by
 have ap:=d.apart;have jb:c∉l:=(Bc.mp ap.1).1;refine⟨λk hk=>?_,?_,nd⟩
 ·rcases Aj.mp hk with rfl | hk
  ·obtain⟨a,ha,p⟩:=d.ke _ Ae;have e:c=a:=p.1;subst e;exact⟨g c,Ba _ Ae,b6.mpr ⟨h,yL (λy hy=>hh y<|d.sub Ae hy) (λy hy=>ho y<|d.sub Ae hy) jb p,hn⟩⟩
  ·exact d.rest (λx hx q=>ho x hx λe=>q<|by rw[e];exact Ae) k hk
 ·rw[Dd,yM];have:=d.all.map g;rw[Dd,Ak]at this;refine List.Perm.trans ?_<|this.append_right new;rw[Ar,Ar];exact(Ci).append_left _
def Dec.split{f:α->α}{f':β->β}{g:α->β}{D:List α}{c d0:α}{l:List α}{Ms:List (List α)}(d:Dec f D<|(c :: l) :: Ms)(hd:d0∈l){e1 e2:β}(h1:f' e1=g d0)(h2:f' e2=g c)(hc:∀ x∈D,f x=c->f' (g x)=e1)(hc2:∀ x∈D,f x=d0->f' (g x)=e2)(ho:∀ x∈D,f x≠c->f x≠d0->f' (g x)=g (f x))(nd:(D.map g++[e1,e2]).Nodup) :
  ∃ Ls,Ls.length=Ms.length+2/\Dec f' (D.map g++[e1,e2]) Ls/\∃ l∈Ls,e2∈l/\e1∉l:=by
 have ap:=d.apart;obtain⟨p,q,rfl⟩:=Fv hd;have GU:=Bc.mp ap.1;have P8:=Cj.mp GU.2;have ap3:=Bc.mp P8.2.1;have hdp:d0∉p:=λx=>P8.2.2 d0 x d0 Ae rfl;have hcp:c∉p:=λx=>GU.1<|Ba _ x;have hcq:c∉q:=λx=>GU.1<|Ax _<|Ah _ x;obtain⟨a,ha,pp⟩:=d.ke _ Ae;have e:c=a:=pp.1;subst e;obtain⟨m,p1,p2⟩:=(b6 (l:=c :: p)).mp pp;have e:d0=m:=p2.1;subst e;have inD:∀ y∈c :: p,y∈D:=λy hy=>d.sub Ae (by
  rcases Aj.mp hy with rfl | hy
  ·exact Ae
  ·exact Ah _<|Ba _ hy)
 have uR:∀ y∈d0 :: q,y∈D:=λy hy=>d.sub Ae<|Ah _<|Ax _ hy;have GV:=Cj.mp nd;have e12:e1≠e2:=λe=>by
  have:=GV.2.1;rw[e]at this;simp at this
 refine⟨((c :: p).map g++[e2]) :: ((d0 :: q).map g++[e1]) :: Ms.map (List.map g),by simp,⟨λk hk=>?_,?_,nd⟩,_,Ae,Ax _<|Ad.mpr rfl,λh=>?_⟩
 ·rcases Aj.mp hk with rfl | hk
  ·refine⟨g c,Ba _ Ae,b6.mpr ⟨e2,yL (λy hy=>hc2 y<|inD y hy) (λy hy ne=>ho y (inD y hy) (λec=>?_) ne) hdp p1,rfl,h2⟩⟩
   rcases yK p1 hy with z | z
   ·exact hcp<|by rw[<- ec];exact z
   ·exact ne z
  ·rcases Aj.mp hk with rfl | hk
   ·refine⟨g d0,Ba _ Ae,b6.mpr ⟨e1,yL (λy hy=>hc y<|uR y hy) (λy hy ne=>ho y (uR y hy) ne λec=>?_) hcq p2,rfl,h1⟩⟩
    rcases yK p2 hy with z | z
    ·exact ap3.1<|by rw[<- ec];exact z
    ·exact ne z
   ·exact d.rest (λx hx q=>ho x hx (λe=>q<|by rw[e];exact Ae) λe=>q<|by rw[e];exact Ah _<|Ax _ Ae) k hk
 ·simp only[Dd,yM];have:=d.all.map g;rw[Dd,Ak,<- Fm,Ak]at this;refine List.Perm.trans ?_<|this.append_right [e1,e2];generalize (c :: p).map g=A;generalize (d0 :: q).map g=B;generalize Ms.flatten.map g=C
  letI:DecidableEq β:=λa b=>Classical.propDecidable<|a=b
  rw[List.perm_iff_count];intro z;simp only[Ep,Da,List.count_nil];omega
 ·rcases Am.mp h with h | h
  ·obtain⟨y,hy,e⟩:=Al.mp h;exact GV.2.2 e1 (Al.mpr ⟨y,inD y hy,e⟩) e1 Ae rfl
  ·exact e12<|Ad.mp h
def Dec.more{f:β->β}{D:List β}{Ls:List (List β)}(d:Dec f D Ls){b:β}(hb:f b=b)(nd:(D++[b]).Nodup):Dec f (D++[b]) (Ls++[[b]]):=by
 refine⟨λl hl=>?_,?_,nd⟩
 ·rcases Am.mp hl with h | h
  ·exact d.ke l h
  ·rw[Ad]at h;subst h;exact⟨b,Ae,rfl,hb⟩
 ·rw[Fp];exact d.all.append_right _
def Dec.carry{f:α->α}{f':β->β}{g:α->β}{D:List α}{D':List β}{Ls:List (List α)}(d:Dec f D Ls)(ho:∀ x∈D,f' (g x)=g (f x))(hD:(D.map g).Perm D')(nd:D'.Nodup):Dec f' D' (Ls.map<|List.map g):=by
 refine⟨λm hm=>?_,?_,nd⟩
 ·obtain⟨k,hk,rfl⟩:=Al.mp hm;obtain⟨a,ha,p⟩:=d.ke k hk;exact⟨g a,Al.mpr ⟨a,ha,rfl⟩,Gz (λx hx=>ho x<|d.sub hk hx) p⟩
 ·rw[yM];exact(d.all.map g).trans hD
open PySem
theorem uS{α:Type} [DecidableEq α]:∀{a b:List α},a.Nodup->(∀ z∈a,z∈b)->b.length<=a.length->a.Perm b
 | [],b,_,_,hl=>by
  have:b=[]:=Bj.mp<|Nat.le_zero.mp hl;rw[this]
 | x :: a,b,nd,sub,hl=>by
  have sy:=Bc.mp nd;have hx:=sub x Ae;have pb:=List.perm_cons_erase hx;refine List.Perm.trans ((uS sy.2 (λz hz=>?_) ?_).cons x) pb.symm
  ·exact(Fg λe=>sy.1<|by rw[<- e];exact hz).mpr<|sub z<|Ah _ hz
  ·have:=pb.length_eq;rw[Ap]at this hl;omega
def kg{n:Net}(T:aw n){a b:End}{z:Str}(ha:aI n a=some z)(hb:aI n b=some z)(ne:a≠b):other n a=b:=by
 obtain⟨h1,_,h3⟩:=dU T ha;obtain⟨p,q,e,_,_⟩:=pJ T ha;have m1:=aK.mpr ha;have m2:=aK.mpr hb;have m3:=aK.mpr h1;rw[e]at m1 m2 m3;simp only[Aj,Cm,HY]at m1 m2 m3
 rcases m1 with rfl | rfl <;> rcases m2 with rfl | rfl <;> rcases m3 with m3 | m3 <;> first | exact m3 | exact absurd rfl ne | exact absurd m3 h3
def sh(c e:End):End:=if e.1=c.1/\c.2<=e.2 then(e.1,e.2+1)else e
def mO(c e:End):(sh c e).1=e.1:=by unfold sh;split <;> rfl
def nY{c a b:End}(h:sh c a=sh c b):a=b:=by
 have h1:a.1=b.1:=by rw[<- mO c a,h,mO]
 have h2:=BZ Prod.snd h;unfold sh at h2;refine HX h1 ?_
 by_cases x:a.1=c.1/\c.2<=a.2
 ·rw[BP x]at h2
  by_cases y:b.1=c.1/\c.2<=b.2
  ·rw[BP y]at h2;exact Nat.succ.inj h2
  ·rw[BL y]at h2;have h2:a.2+1=b.2:=h2;exact absurd ⟨h1 ▸ x.1,by omega⟩ y
 ·rw[BL x]at h2
  by_cases y:b.1=c.1/\c.2<=b.2
  ·rw[BP y]at h2;have h2:a.2=b.2+1:=h2;exact absurd ⟨h1 ▸ y.1,by omega⟩ x
  ·rw[BL y]at h2;exact h2
def nZ(c e:End):sh c e≠c:=by
 intro h;have h1:e.1=c.1:=by rw[<- mO c e,h]
 have h2:=BZ Prod.snd h;unfold sh at h2
 by_cases x:e.1=c.1/\c.2<=e.2
 ·rw[BP x]at h2;have h2:e.2+1=c.2:=h2;omega
 ·rw[BL x]at h2;exact x ⟨h1,by omega⟩
section
variable{n:Net}{c:End}{z:Str}
def sD(hc:c.1 < n.length)(hp:c.2<=(row n c.1).length)(i:Nat):(row (ins n c z) i).length=if c.1=i then(row n i).length+1 else(row n i).length:=by
 rw[rZ n c z i hc]
 by_cases h:c.1=i
 ·subst h;rw[BP rfl,BP rfl,Af,Ap,Bk,Dh];omega
 ·rw[BL h,BL h]
def G0(hc:c.1 < n.length)(hp:c.2<=(row n c.1).length):aI (ins n c z) c=some z:=by
 unfold aI;rw[rZ n c z c.1 hc,BP rfl,Az (by rw[Bk];omega),Bk,show c.2 - min c.2 (row n c.1).length=0 by omega];rfl
def sG(hc:c.1 < n.length)(hp:c.2<=(row n c.1).length)(e:End):aI (ins n c z) (sh c e)=aI n e:=by
 unfold aI;rw[mO,rZ n c z e.1 hc];unfold sh
 by_cases h:c.1=e.1
 ·rw[BP h]
  by_cases k:c.2<=e.2
  ·rw[BP ⟨h.symm,k⟩,Az (by rw[Bk];show _<=e.2+1;omega),Bk];show(z :: (row n e.1).drop c.2)[e.2+1 - min c.2 (row n e.1).length]?=_;rw[<- h,show e.2+1 - min c.2 (row n c.1).length=(e.2 - c.2)+1 by omega,Fx,QM,show c.2+(e.2 - c.2)=e.2 by omega]
  ·rw[BL λq=>k q.2,As (by rw[Bk,<- h];omega),Dm<|by omega]
 ·rw[BL h,BL λq=>h q.1.symm]
def n8(hc:c.1 < n.length)(hp:c.2 < (row n c.1).length):left (ins n c z) c=sh c c:=by
 unfold left sh;rw[sD hc<|Co hp,BP rfl,BP ⟨rfl,An _⟩,Cc<|by omega]
def iL(hc:c.1 < n.length)(hp:c.2 < (row n c.1).length){e:End}(he:e.2 < (row n e.1).length):left (ins n c z) (sh c e)=if left n e=c then c else sh c (left n e):=by
 by_cases h:c.1=e.1
 ·have e1:(left n e).1=e.1:=rfl;have e2:(left n e).2=(e.2+1) % (row n e.1).length:=rfl;have q:(left n e=c)↔(e.2+1) % (row n e.1).length=c.2:=⟨λx=>by rw[<- e2,x],λx=>HX h.symm x⟩;have L:(left (ins n c z) (sh c e))=(e.1,((sh c e).2+1) % ((row n e.1).length+1)):=by
   unfold left;rw[mO,sD hc<|Co hp,BP h]
  rw[L];rw[h]at hp;have S:(sh c e).2=if c.2<=e.2 then e.2+1 else e.2:=by
   unfold sh
   by_cases k:c.2<=e.2
   ·rw[BP ⟨h.symm,k⟩,BP k]
   ·rw[BL λq=>k q.2,BL k]
  have S2:sh c (left n e)=(e.1,if c.2<=(e.2+1) % (row n e.1).length then(e.2+1) % (row n e.1).length+1 else(e.2+1) % (row n e.1).length):=by
   unfold sh
   by_cases k:c.2<=(e.2+1) % (row n e.1).length
   ·rw[BP ⟨h.symm,k⟩,BP k];rfl
   ·rw[BL λq=>k q.2,BL k];rfl
  rw[S,S2];generalize (row n e.1).length=m at *
  by_cases k:e.2+1 < m
  ·rw[Cc k]at q ⊢
   by_cases j:e.2+1=c.2
   ·rw[BP<|q.mpr j,BL (by omega),Cc<|by omega];exact HX h.symm j
   ·rw[BL λx=>j<|q.mp x]
    by_cases i:c.2<=e.2
    ·rw[BP i,BP (by omega),Cc<|by omega]
    ·rw[BL i,BL (by omega),Cc<|by omega]
  ·have em:e.2+1=m:=by omega
   rw[em,Ef]at q ⊢;rw[BP (by omega),Ef]
   by_cases j:0=c.2
   ·rw[BP<|q.mpr j];exact HX h.symm j
   ·rw[BL λx=>j<|q.mp x,BL<|by omega]
 ·have ne:left n e≠c:=λx=>h (by rw[<- x];rfl);rw[BL ne];have s1:sh c e=e:=by unfold sh;rw[BL λq=>h q.1.symm]
  have s2:sh c (left n e)=left n e:=by unfold sh;rw[BL λq=>h q.1.symm]
  rw[s1,s2];unfold left;rw[sD hc<|Co hp,BL h]
end
def Pl(n:Net):Prop:=(ag n=[]/\n.length=1)\/∃ Ls,Dec (step n) (ends n) Ls/\2 * (n.length+Ls.length)=(ag n).length+4
structure eF(n m:Net)(g:End->End)(e1 e2:End)(z:Str):Prop where
 de:∀ e∈ends n,aI m (g e)=aI n e
 t1:aI m e1=some z
 t2:aI m e2=some z
 inj:∀ a b,g a=g b->a=b
 n1:∀ a∈ends n,g a≠e1
 n2:∀ a∈ends n,g a≠e2
 ne:e1≠e2
 len:(ag m).length=(ag n).length+2
section
variable{n m:Net}{g:End->End}{e1 e2:End}{z:Str}
def eF.nd(p:eF n m g e1 e2 z):((ends n).map g++[e1,e2]).Nodup:=by
 rw[Cj];refine⟨?_,?_,?_⟩
 ·exact(Dz.mpr<|(rV n).imp λ{a b} h e=>h<|p.inj a b e)
 ·simp[p.ne]
 ·rintro a ha b hb rfl;obtain⟨x,hx,rfl⟩:=Al.mp ha;simp only[Aj,Cm,HY]at hb
  rcases hb with h | h
  ·exact p.n1 x hx h
  ·exact p.n2 x hx h
def eF.perm(p:eF n m g e1 e2 z):((ends n).map g++[e1,e2]).Perm (ends m):=by
 refine uS p.nd (λa ha=>?_)<|by rw[jy,p.len,Af,Aa,jy];exact An _
 rcases Am.mp ha with h | h
 ·obtain⟨x,hx,rfl⟩:=Al.mp h;obtain⟨y,hy⟩:=af.mp hx;exact af.mpr ⟨y,by rw[p.de x hx];exact hy⟩
 ·simp only[Aj,Cm,HY]at h
  rcases h with rfl | rfl
  ·exact af.mpr ⟨z,p.t1⟩
  ·exact af.mpr ⟨z,p.t2⟩
def eF.hV(p:eF n m g e1 e2 z)(T:aw n)(T':aw m){e:End}(he:e∈ends n):other m (g e)=g (other n e):=by
 obtain⟨y,hy⟩:=af.mp he;obtain⟨h1,_,h3⟩:=dU T hy;exact kg T' (by rw[p.de e he];exact hy) (by rw[p.de _<|af.mpr ⟨y,h1⟩];exact h1) λh=>h3 (p.inj _ _ h).symm
def eF.o1(p:eF n m g e1 e2 z)(T':aw m):other m e1=e2:=kg T' p.t1 p.t2 p.ne
def eF.o2(p:eF n m g e1 e2 z)(T':aw m):other m e2=e1:=kg T' p.t2 p.t1 p.ne.symm
def Dec.perm{α:Type}{f:α->α}{D D':List α}{Ls:List (List α)}(d:Dec f D Ls)(h:D.Perm D'):Dec f D' Ls:=⟨d.ke,d.all.trans h,h.nodup_iff.mp d.nd⟩
def P9{α:Type}{f:α->α}{l:List α}(h:∀ x∈l,f x∈l){a:α}(ha:a∈l):∀ k,it f k a∈l:=λk=>j6 h ha k
def Dec.one{α:Type}{f:α->α}{D:List α}{a b:α}{l:List α}{Ms:List (List α)}(d:Dec f D<|(a :: l) :: Ms)(hb:b∈D)(h:(∃ k,it f k a=b)\/∃ k,it f k b=a)(ne:b≠a):b∈l:=by
 have cl:∀ k∈(a :: l) :: Ms,∀ x∈k,f x∈k:=λk hk x hx=>by
  obtain⟨c,hc,p⟩:=d.ke k hk;exact GA p hc hx
 have hm:b∈a :: l:=by
  rcases h with ⟨k,rfl⟩ | ⟨k,e⟩
  ·exact P9 (cl _ Ae) Ae k
  ·obtain⟨j,hj,P'⟩:=Fn.mp<|d.all.mem_iff.mpr hb
   rcases Aj.mp hj with rfl | px
   ·exact P'
   ·have:=P9 (cl j hj) P' k;rw[e]at this;exact absurd this<|d.apart.2 j px a Ae
 rcases Aj.mp hm with h | h
 ·exact absurd h ne
 ·exact h
def q1i(p:eF n m g e1 e2 z)(T:aw n)(T':aw m)(hl:m.length=n.length){k1 k2:End}(h1:k1∈ends n)(h2:k2∈ends n)(ne:k2≠k1)(same:(∃ k,it (step n) k k1=k2)\/∃ k,it (step n) k k2=k1)
  (l1:left m e1=g k1) (l2:left m e2=g k2) (lf:∀ e∈ends n,left m (g e)=if left n e=k1 then e1 else if left n e=k2 then e2 else g (left n e)) (P:Pl n):Pl m:=by
 have st:∀ x∈ends n,step m (g x)=if step n x=k1 then e1 else if step n x=k2 then e2 else g (step n x):=λx hx=>by
  unfold step;rw[p.hV T T' hx];exact lf _<|db T hx
 rcases P with ⟨e,_⟩ | ⟨Ls,d,eu⟩
 ·obtain⟨y,hy⟩:=af.mp h1;have:=eU hy;rw[e]at this;cases this
 ·obtain⟨l,Ms,hL,d⟩:=d.pick h1;have hk:=d.one h2 same ne;obtain⟨Qa,hL',d',_⟩:=d.split (f':=step m) (g:=g) hk (e1:=e1) (e2:=e2) (by unfold step;rw[p.o1 T'];exact l2) (by unfold step;rw[p.o2 T'];exact l1)
   (λx hx e=>by rw[st x hx,BP e]) (λx hx e=>by rw[st x hx,BL (by rw[e];exact ne),BP e]) (λx hx a b=>by rw[st x hx,BL a,BL b]) p.nd
  refine .inr ⟨Qa,d'.perm p.perm,?_⟩;have:=p.len;omega
def q4l(p:eF n m g e1 e2 z)(T:aw n)(T':aw m)(hl:m.length=n.length){c:End}(h1:c∈ends n)
  (l1:left m e1=g c) (l2:left m e2=e1) (lf:∀ e∈ends n,left m (g e)=if left n e=c then e2 else g (left n e)) (P:Pl n):Pl m:=by
 have st:∀ x∈ends n,step m (g x)=if step n x=c then e2 else g (step n x):=λx hx=>by
  unfold step;rw[p.hV T T' hx];exact lf _<|db T hx
 rcases P with ⟨e,_⟩ | ⟨Ls,d,eu⟩
 ·obtain⟨y,hy⟩:=af.mp h1;have:=eU hy;rw[e]at this;cases this
 ·obtain⟨l,Ms,hL,d⟩:=d.pick h1;have nd:=p.nd;have n9:((ends n).map g++[e2]++[e1]).Nodup:=by
   rw[Ar];exact((List.Perm.swap e1 e2 []).append_left _).nodup_iff.mpr nd
  have d1:=d.grow (f':=step m) (g:=g) (new:=[e2]) (h:=e2) ⟨rfl,by unfold step;rw[p.o2 T'];exact l1⟩ (λx hx e=>by rw[st x hx,BP e]) (λx hx e=>by rw[st x hx,BL e]) (Cj.mp n9).1;have d2:=d1.more (b:=e1) (by unfold step;rw[p.o1 T'];exact l2) n9;have pm:((ends n).map g++[e2]++[e1]).Perm (ends m):=by
   refine List.Perm.trans ?_ p.perm;rw[Ar];exact(List.Perm.swap e1 e2 []).append_left _
  refine .inr ⟨_,d2.perm pm,?_⟩;have:=p.len;simp only[Af,Ap,Aa,Ej];omega
def k51(p:eF n m g e1 e2 z)(T:aw n)(T':aw m)(hl:m.length=n.length+1){c:End}(h1:c∈ends n)
  (l1:left m e1=g c) (l2:left m e2=e2) (lf:∀ e∈ends n,left m (g e)=if left n e=c then e1 else g (left n e)) (P:Pl n):Pl m:=by
 have st:∀ x∈ends n,step m (g x)=if step n x=c then e1 else g (step n x):=λx hx=>by
  unfold step;rw[p.hV T T' hx];exact lf _<|db T hx
 rcases P with ⟨e,_⟩ | ⟨Ls,d,eu⟩
 ·obtain⟨y,hy⟩:=af.mp h1;have:=eU hy;rw[e]at this;cases this
 ·obtain⟨l,Ms,hL,d⟩:=d.pick h1;have s1:step m e1=e2:=by unfold step;rw[p.o1 T'];exact l2
  have s2:step m e2=g c:=by unfold step;rw[p.o2 T'];exact l1
  have d1:=d.grow (f':=step m) (g:=g) (new:=[e1,e2]) (h:=e1) ⟨rfl,by rw[s1];exact⟨rfl,s2⟩⟩ (λx hx e=>by rw[st x hx,BP e]) (λx hx e=>by rw[st x hx,BL e]) p.nd;refine .inr ⟨_,d1.perm p.perm,?_⟩;have:=p.len;simp only[Ap,Aa];omega
end
def fe{n:Net}{e:End}(h:e∈ends n):e.1 < n.length/\e.2 < (row n e.1).length:=by
 obtain⟨z,hz⟩:=af.mp h;exact⟨cQ hz,gy hz⟩
section
variable{n:Net}{z:Str}
def Qb{k1 k2:End}(h1:k1.1 < n.length/\k1.2<=(row n k1.1).length)(h2:k2.1 < n.length/\k2.2<=(row n k2.1).length):eF n (ins (ins n k1 z) k2 z) (λe=>sh k2<|sh k1 e) (sh k2 k1) k2 z:=by
 have c2:k2.1 < (ins n k1 z).length:=by rw[gS];exact h2.1
 have p2:k2.2<=(row (ins n k1 z) k2.1).length:=by
  rw[sD h1.1 h1.2]
  split
  ·have:=h2.2;omega
  ·exact h2.2
 refine⟨λe _=>?_,?_,G0 c2 p2,λa b h=>nY<|nY h,λa _ h=>nZ k1 a<|nY h,λa _=>nZ k2 _,nZ k2 k1,?_⟩
 ·show aI _ (sh k2<|sh k1 e)=_;rw[sG c2 p2,sG h1.1 h1.2]
 ·rw[sG c2 p2];exact G0 h1.1 h1.2
 ·rw[(lg _ k2 z c2).length_eq,Ap,(lg _ k1 z h1.1).length_eq,Ap]
def q9b{k1 k2:End}(T:aw n)(T':aw<|ins (ins n k1 z) k2 z)(h1:k1∈ends n)(h2:k2∈ends n)(ord:k2=k1\/sh k1 k2=k2)(same:(∃ k,it (step n) k k1=k2)\/∃ k,it (step n) k k2=k1)(P:Pl n):Pl (ins (ins n k1 z) k2 z):=by
 have r1:=fe h1;have r2:=fe h2;have p:=Qb (z:=z) (k1:=k1) (k2:=k2) ⟨r1.1,Co r1.2⟩ ⟨r2.1,Co r2.2⟩;have c2:k2.1 < (ins n k1 z).length:=by rw[gS];exact r2.1
 have rl:∀ i,(row n i).length<=(row (ins n k1 z) i).length:=λi=>by
  rw[sD r1.1<|Co r1.2]
  split <;> omega
 have p2:k2.2 < (row (ins n k1 z) k2.1).length:=Be r2.2<|rl _;have p1:k1.2 < (row (ins n k1 z) k1.1).length:=Be r1.2<|rl _;have hl:(ins (ins n k1 z) k2 z).length=n.length:=by rw[gS,gS]
 have sl:∀ e∈ends n,(sh k1 e).2 < (row (ins n k1 z) (sh k1 e).1).length:=λe he=>by
  obtain⟨y,hy⟩:=af.mp he;exact gy (z:=y)<|by rw[sG r1.1<|Co r1.2];exact hy
 have l0:left (ins n k1 z) k1=sh k1 k1:=n8 r1.1 r1.2
 by_cases e:k2=k1
 ·subst e;refine q4l p T T' hl h1 ?_ (n8 c2 p2) (λe he=>?_) P
  ·rw[iL c2 p2 p1,l0,BL<|nZ _ _]
  ·show left _ (sh k2<|sh k2 e)=_;rw[iL c2 p2<|sl e he,iL r1.1 r1.2 (fe he).2]
   by_cases q:left n e=k2
   ·rw[BP q,BP rfl,BP q]
   ·rw[BL q,BL<|nZ _ _,BL q]
 ·have hs:sh k1 k2=k2:=ord.resolve_left e;refine q1i p T T' hl h1 h2 e same ?_ ?_ (λe' he=>?_) P
  ·rw[iL c2 p2 p1,l0,BL λq=>e<|nY (c:=k1)<|by rw[hs,q]]
  ·show left _ k2=sh k2 (sh k1 k2);rw[hs];exact n8 c2 p2
  ·show left _ (sh k2<|sh k1 e')=if left n e'=k1 then sh k2 k1 else if left n e'=k2 then k2 else sh k2 (sh k1<|left n e');rw[iL c2 p2<|sl e' he,iL r1.1 r1.2 (fe he).2]
   by_cases q:left n e'=k1
   ·rw[BP q,BP q,BL λx=>e x.symm]
   ·rw[BL q,BL q]
    by_cases q2:left n e'=k2
    ·rw[BP q2,q2,hs,BP rfl]
    ·rw[BL q2,BL λx=>q2<|nY (c:=k1)<|by rw[x,hs]]
def oa{a b:Net}{i:Nat}(h:i < a.length):row (a++b) i=row a i:=by
 unfold row;rw[As h]
def yN{a:Net}{x:Str×List Str}:row (a++[x]) a.length=x.2:=by
 unfold row;rw[Az<|An _];simp
def Qc{c:End}{pt:Str}(h1:c.1 < n.length/\c.2<=(row n c.1).length):eF n (ins n c z++[(pt,[z])]) (sh c) c (n.length,0) z:=by
 have la:∀ e:End,e.1 < n.length->aI (ins n c z++[(pt,[z])]) e=aI (ins n c z) e:=λe he=>by
  unfold aI;rw[oa<|by rw[gS];exact he]
 refine⟨λe he=>?_,?_,?_,λa b h=>nY h,λa _=>nZ c a,λa ha h=>?_,λh=>?_,?_⟩
 ·rw[la _ (by rw[mO];exact(fe he).1),sG h1.1 h1.2]
 ·rw[la _ h1.1,G0 h1.1 h1.2]
 ·unfold aI;have:=yN (a:=ins n c z) (x:=(pt,[z]));rw[gS]at this;show(row _ n.length)[0]?=_;rw[this];rfl
 ·have:=(fe ha).1;rw[<- mO c a,h]at this;exact absurd this<|Cv _
 ·have:=h1.1;rw[h]at this;exact absurd this<|Cv _
 ·unfold ag;rw[Dv,Af];have:=(lg _ c z h1.1).length_eq;unfold ag at this;rw[this];rfl
def q1j{c:End}{pt:Str}(T:aw n)(T':aw<|ins n c z++[(pt,[z])])(h1:c∈ends n)(P:Pl n):Pl (ins n c z++[(pt,[z])]):=by
 have r1:=fe h1;have p:=Qc (z:=z) (c:=c) (pt:=pt) ⟨r1.1,Co r1.2⟩;have la:∀ e:End,e.1 < n.length->left (ins n c z++[(pt,[z])]) e=left (ins n c z) e:=λe he=>by
  unfold left;rw[oa<|by rw[gS];exact he]
 refine k51 p T T' (by rw[Af,gS];rfl) h1 ?_ ?_ (λe he=>?_) P
 ·rw[la _ r1.1];exact n8 r1.1 r1.2
 ·unfold left;have:=yN (a:=ins n c z) (x:=(pt,[z]));rw[gS]at this;show(n.length,(0+1) % (row _ n.length).length)=_;rw[this];exact BZ (Prod.mk _)<|Ef 1
 ·rw[la _<|by rw[mO];exact(fe he).1];exact iL r1.1 r1.2 (fe he).2
end
def Qd{m:Net}{z:Str}{e1 e2:End}(T':aw m)(hE:ends m=[e1,e2])(t1:aI m e1=some z)(t2:aI m e2=some z)(ne:e1≠e2)
  (h:(m.length=2/\left m e1=e1/\left m e2=e2)\/(m.length=1/\left m e1=e2/\left m e2=e1)):Pl m:=by
 have o1:=kg T' t1 t2 ne;have o2:=kg T' t2 t1 ne.symm;have hl:(ag m).length=2:=by rw[<- jy,hE];rfl
 have nd:[e1,e2].Nodup:=by simp[ne]
 rcases h with ⟨hm,l1,l2⟩ | ⟨hm,l1,l2⟩
 ·refine .inr ⟨[[e1,e2]],?_,by rw[hm,hl];rfl⟩;rw[hE];refine⟨λl hl=>?_,List.Perm.refl _,nd⟩;rw[Ad]at hl;subst hl;refine⟨e1,Ae,rfl,?_⟩;unfold step;rw[o1,l2];exact⟨rfl,by show left m (other m e2)=e1;rw[o2,l1]⟩
 ·refine .inr ⟨[[e1],[e2]],?_,by rw[hm,hl];rfl⟩;rw[hE];refine⟨λl hl=>?_,List.Perm.refl _,nd⟩;simp only[Aj,Cm,HY]at hl
  rcases hl with rfl | rfl
  ·exact⟨e1,Ae,rfl,by show left m (other m e1)=e1;rw[o1,l2]⟩
  ·exact⟨e2,Ae,rfl,by show left m (other m e2)=e2;rw[o2,l1]⟩
def k7n{nm pt z:Str}(T':aw [(nm,[z]),(pt,[z])]):Pl [(nm,[z]),(pt,[z])]:=
 Qd (e1:=(0,0)) (e2:=(1,0)) (z:=z) T' rfl rfl rfl (by decide) (.inl ⟨rfl,by simp[left,row],by simp[left,row]⟩)
def q6x{nm z:Str}(T':aw [(nm,[z,z])]):Pl [(nm,[z,z])]:=
 Qd (e1:=(0,0)) (e2:=(0,1)) (z:=z) T' rfl rfl rfl (by decide) (.inr ⟨rfl,by simp[left,row],by simp[left,row]⟩)
def q1y{n m:Net}{g:End->End}(T:aw n)(T':aw m)(hl:m.length=n.length)(ht:(ag m).length=(ag n).length)(de:∀ e∈ends n,aI m (g e)=aI n e)(inj:∀ a∈ends n,∀ b∈ends n,g a=g b->a=b)
  (lf:∀ e∈ends n,left m (g e)=g (left n e)) (P:Pl n):Pl m:=by
 rcases P with ⟨e,h⟩ | ⟨Ls,d,eu⟩
 ·exact .inl ⟨Bj.mp (by rw[ht,e];rfl),by rw[hl,h]⟩
 ·have nd:((ends n).map g).Nodup:=by
   have:∀(l:List End),(∀ x∈l,x∈ends n)->l.Nodup->(l.map g).Nodup:=by
    intro l
    induction l with
    | nil=>intro _ _;exact Ch
    | cons x l ih=>
     intro hs h;have h:=Bc.mp h;rw[Bi];refine Bc.mpr ⟨λhx=>?_,ih (λy hy=>hs y<|Ah _ hy) h.2⟩;obtain⟨y,hy,e⟩:=Al.mp hx;have:=inj y (hs y<|Ah _ hy) x (hs x Ae) e;exact h.1<|this ▸ hy
   exact this _ (λx hx=>hx)<|rV n
  have pm:((ends n).map g).Perm (ends m):=by
   refine uS nd (λa ha=>?_) (by rw[Aa,jy,jy,ht];exact An _);obtain⟨x,hx,rfl⟩:=Al.mp ha;obtain⟨y,hy⟩:=af.mp hx;exact af.mpr ⟨y,by rw[de x hx];exact hy⟩
  refine .inr ⟨_,d.carry (f':=step m) (g:=g) (λx hx=>?_) pm<|rV m,by rw[Aa,hl,ht];exact eu⟩;obtain⟨y,hy⟩:=af.mp hx;obtain⟨h1,_,h3⟩:=dU T hy;have ho:other n x∈ends n:=af.mpr ⟨y,h1⟩;have:other m (g x)=g (other n x):=kg T' (by rw[de x hx];exact hy) (by rw[de _ ho];exact h1) λh=>h3 (inj _ hx _ ho h).symm;unfold step;rw[this];exact lf _ ho
def og(i len q:Nat):Nat:=if i<=q then q - i else q+len - i
def dY(N j i len:Nat)(e:End):End:=if e.1 < j then e else if e.1=j then(N - 1,og i len e.2) else(e.1 - 1,e.2)
def Qe{a:Net}{j:Nat}{x:Str×List Str}(hj:j < a.length)(r:Nat)(hr:r < a.length):row (a.eraseIdx j++[x]) (if r < j then r else if r=j then a.length - 1 else r - 1)=if r=j then x.2 else row a r:=by
 have le:(a.eraseIdx j).length=a.length - 1:=by rw[Cw,BP hj]
 by_cases h1:r < j
 ·rw[BP h1,BL (by omega),oa<|by rw[le];omega];unfold row;rw[Gb,BP h1]
 ·rw[BL h1]
  by_cases h2:r=j
  ·rw[BP h2,BP h2,<- le,yN]
  ·rw[BL h2,BL h2,oa<|by rw[le];omega];unfold row;rw[Gb,BL (by omega),show r - 1+1=r by omega]
def q11{i len q:Nat}(hi:i < len)(hq:q < len):(og i len q+1) % len=og i len ((q+1) % len):=by
 unfold og
 by_cases k:q+1 < len
 ·rw[Cc k]
  by_cases h:i<=q
  ·rw[BP h,BP (by omega),Cc<|by omega];omega
  ·rw[BL h]
   by_cases h2:q+1=i
   ·rw[BP (by omega),show q+len - i+1=len by omega,Ef];omega
   ·rw[BL (by omega),Cc<|by omega];omega
 ·have e:q+1=len:=by omega
  rw[e,Ef,BP<|by omega]
  by_cases h:i=0
  ·rw[BP (by omega),show q - i+1=len by omega,Ef];omega
  ·rw[BL (by omega),Cc<|by omega];omega
def q8h{l:Ò}{i q:Nat}(hi:i < l.length)(hq:q < l.length):(l.drop i++l.take i)[og i l.length q]?=l[q]?:=by
 unfold og
 by_cases h:i<=q
 ·rw[BP h,As (by rw[Dh];omega),QM,show i+(q - i)=q by omega]
 ·rw[BL h,Az (by rw[Dh];omega),Dh,Dm (by omega),show q+l.length - i - (l.length - i)=q by omega]
def Qf{a:Net}{j i:Nat}{x:Str}(hj:j < a.length)(hi:i < max 1 (row a j).length):∃ g:End->End,(∀ e∈ends a,aI (a.eraseIdx j++[(x,(row a j).drop i++(row a j).take i)]) (g e)=aI a e)/\(∀ b∈ends a,∀ c∈ends a,g b=g c->b=c) /\
  ∀ e∈ends a,left (a.eraseIdx j++[(x,(row a j).drop i++(row a j).take i)]) (g e)=g (left a e):=by
 have fst:∀ e:End,(dY a.length j i (row a j).length e).1=if e.1 < j then e.1 else if e.1=j then a.length - 1 else e.1 - 1:=λe=>by
  unfold dY
  by_cases h:e.1 < j
  ·rw[BP h,BP h]
  ·rw[BL h,BL h]
   by_cases h2:e.1=j
   ·rw[BP h2,BP h2]
   ·rw[BL h2,BL h2]
 have snd:∀ e:End,(dY a.length j i (row a j).length e).2=if e.1=j then og i (row a j).length e.2 else e.2:=λe=>by
  unfold dY
  by_cases h:e.1 < j
  ·rw[BP h,BL<|by omega]
  ·rw[BL h]
   by_cases h2:e.1=j
   ·rw[BP h2,BP h2]
   ·rw[BL h2,BL h2]
 have Qg:∀ e:End,e.1 < a.length->row (a.eraseIdx j++[(x,(row a j).drop i++(row a j).take i)]) (dY a.length j i (row a j).length e).1=if e.1=j then(row a j).drop i++(row a j).take i else row a e.1:=λe he=>by
  rw[fst,Qe hj e.1 he]
 refine⟨dY a.length j i (row a j).length,λe he=>?_,λb hb c hc h=>?_,λe he=>?_⟩
 ·have r:=fe he;unfold aI;rw[Qg e r.1,snd]
  by_cases h:e.1=j
  ·rw[BP h,BP h,<- h,q8h (by have:=hi;rw[<- h]at this;omega) r.2]
  ·rw[BL h,BL h]
 ·have rb:=fe hb;have rc:=fe hc;have h1:=BZ Prod.fst h;have h2:=BZ Prod.snd h;rw[fst,fst]at h1;rw[snd,snd]at h2
  by_cases p:b.1=j
  ·by_cases q:c.1=j
   ·rw[BP p,BP q]at h2;refine HX (by rw[p,q]) ?_;have rb:=rb.2;have rc:=rc.2;rw[p]at rb;rw[q]at rc;unfold og at h2
    by_cases u:i<=b.2
    ·rw[BP u]at h2
     by_cases v:i<=c.2
     ·rw[BP v]at h2;omega
     ·rw[BL v]at h2;omega
    ·rw[BL u]at h2
     by_cases v:i<=c.2
     ·rw[BP v]at h2;omega
     ·rw[BL v]at h2;omega
   ·exfalso
    rw[BL (by omega),BP p]at h1;have:=rc.1
    by_cases u:c.1 < j
    ·rw[BP u]at h1;omega
    ·rw[BL u,BL q]at h1;omega
  ·by_cases q:c.1=j
   ·exfalso
    have:=rb.1;rw[BL (show ¬ c.1 < j by omega),BP q]at h1
    by_cases u:b.1 < j
    ·rw[BP u]at h1;omega
    ·rw[BL u,BL p]at h1;omega
   ·rw[BL p,BL q]at h2;refine HX ?_ h2;rw[BL p,BL q]at h1
    by_cases u:b.1 < j
    ·rw[BP u]at h1
     by_cases v:c.1 < j
     ·rw[BP v]at h1;exact h1
     ·rw[BL v]at h1;omega
    ·rw[BL u]at h1
     by_cases v:c.1 < j
     ·rw[BP v]at h1;omega
     ·rw[BL v]at h1;omega
 ·have r:=fe he;have L1:(left a e).1=e.1:=rfl;have L2:(left a e).2=(e.2+1) % (row a e.1).length:=rfl;refine HX ?_ ?_
  ·show(dY a.length j i (row a j).length e).1=(dY a.length j i (row a j).length<|left a e).1;rw[fst,fst,L1]
  ·show((dY a.length j i (row a j).length e).2+1) % (row _ (dY a.length j i (row a j).length e).1).length=(dY a.length j i (row a j).length<|left a e).2;rw[Qg e r.1,snd,snd,L1,L2]
   by_cases h:e.1=j
   ·rw[BP h,BP h,BP h,Af,Dh,Bk];have r2:=r.2;rw[h]at r2 ⊢;rw[show(row a j).length - i+min i (row a j).length=(row a j).length by omega];exact q11 (by omega) r2
   ·rw[BL h,BL h,BL h]
def q83{a:Net}{j i:Nat}{x:Str}(hj:j < a.length)(hi:i < max 1 (row a j).length)(T:aw a) (T':aw<|a.eraseIdx j++[(x,(row a j).drop i++(row a j).take i)])
  (ht:(ag<|a.eraseIdx j++[(x,(row a j).drop i++(row a j).take i)]).length=(ag a).length) (P:Pl a):Pl (a.eraseIdx j++[(x,(row a j).drop i++(row a j).take i)]):=by
 obtain⟨g,h1,h2,h3⟩:=Qf (x:=x) hj hi;exact q1y (g:=g) T T' (by rw[Af,Cw,BP hj,Ct];omega) ht h1 h2 h3 P
def yO{n m:Net}{z:Str}(hp:(ag m).Perm<|z :: z :: ag n)(T:aw n)(hz:z∉ag n):aw m:=by
 intro y hy;rw[hp.count_eq,Da,Da]
 by_cases e:z=y
 ·subst e;rw[List.count_eq_zero.mpr hz];simp
 ·have hy:=hp.mem_iff.mp hy
  rcases Aj.mp hy with h | hy
  ·exact absurd h.symm e
  ·rcases Aj.mp hy with h | hy
   ·exact absurd h.symm e
   ·rw[T y hy];have:(z == y)=false:=by simpa using e
    rw[this];rfl
def sI{nm:Str}{c:End}(h:eW [(nm,[])] c):c=(0,0):=by
 obtain⟨h1,h2⟩:=h;have h1:c.1 < 1:=h1;have e:c.1=0:=by omega
 have h2:c.2 < max 1 (row [(nm,[])] c.1).length:=h2;rw[e]at h2;have h2:c.2 < 1:=h2;exact HX e<|by show c.2=0;omega
def yP{n:Net}(F:Full n):(∃ nm,n=[(nm,[])])\/row n 0≠[]:=by
 rcases F with h | ⟨h1,h2⟩
 ·exact .inl h
 ·exact .inr<|h2 0<|Dk.mpr h1
def k7j{n:Net}{c:End}{z pt:Str}(T:aw n)(F:Full n)(hz:z∉ag n)(hc:eW n c) (hp:(ag<|ins n c z++[(pt,[z])]).Perm<|z :: z :: ag n) (P:Pl n):Pl (ins n c z++[(pt,[z])]):=by
 have T':=yO hp T hz
 rcases yP F with ⟨nm,rfl⟩ | h0
 ·have:=sI hc;subst this;exact k7n T'
 ·exact q1j T T' (F.cI h0 hc) P
def q4z{n:Net}{k1 k2:End}{z:Str}(T:aw n)(F:Full n)(hz:z∉ag n)(h1:eW n k1)(h2:eW n k2) (hp:(ag<|ins (ins n k1 z) k2 z).Perm<|z :: z :: ag n) (ord:k2=k1\/sh k1 k2=k2) (same:(∃ k,it (step n) k k1=k2)\/∃ k,it (step n) k k2=k1) (P:Pl n):Pl (ins (ins n k1 z) k2 z):=by
 have T':=yO hp T hz
 rcases yP F with ⟨nm,rfl⟩ | h0
 ·have:=sI h1;subst this;have:=sI h2;subst this;exact q6x T'
 ·exact q9b T T' (F.cI h0 h1) (F.cI h0 h2) ord same P
def q2a{a b:End}(h:bA.lexLt ((a.1:Int),(a.2:Int)) ((b.1:Int),(b.2:Int))=true):sh b a=a:=by
 unfold bA.lexLt at h;unfold sh;refine BL λq=>?_;rw[BP<|by rw[q.1]]at h;have:=BX h;have q2:=q.2;omega
def k99{a b:End}(h:bA.lexLt ((a.1:Int),(a.2:Int)) ((b.1:Int),(b.2:Int))=false):b=a\/sh a b=b:=by
 unfold bA.lexLt at h
 by_cases e:(a.1:Int)=(b.1:Int)
 ·rw[BP e]at h;have h:=HS h
  by_cases e2:a.2=b.2
  ·exact .inl<|HX (by omega) e2.symm
  ·refine .inr<|BL λq=>?_;have q2:=q.2;have h:¬((a.2:Int) < (b.2:Int)):=h;omega
 ·exact .inr<|BL λq=>e<|by rw[q.1]
def Qh(a b:Net):ag (a++b)=ag a++ag b:=by
 unfold ag;rw[Dv]
def q4x{n n2 n0:Net}{j i:Nat}{x:Str}(hj:j < n.length)(hi:i < max 1 (row n j).length)(T0:aw n0)(pt:(ag n++ag n2).Perm<|ag n0)
  (gE:(ag (n.eraseIdx j)++ag (n2++[(x,(row n j).drop i++(row n j).take i)])).Perm<|ag n0) (P:Pl<|n++n2):Pl (n.eraseIdx j++(n2++[(x,(row n j).drop i++(row n j).take i)])):=by
 have tw:∀ m:Net,(ag m).Perm (ag n0)->aw m:=λm p y hy=>by rw[p.count_eq];exact T0 y<|p.mem_iff.mp hy
 rw[<- Qh]at pt gE;have er:row (n++n2) j=row n j:=oa hj;have ee:n.eraseIdx j++(n2++[(x,(row n j).drop i++(row n j).take i)])=(n++n2).eraseIdx j++[(x,(row (n++n2) j).drop i++(row (n++n2) j).take i)]:=by
  rw[LC hj,Ar,er]
 rw[ee]at gE ⊢;exact q83 (by rw[Af];omega) (by rw[er];exact hi) (tw _ pt) (tw _ gE) (by rw[gE.length_eq,pt.length_eq]) P
end Nt
namespace Nt
def q5y{n:Net}{e c:End}{fs:List End}(f:fA n e fs)(h:c∈fs):∃ k,it (step n) k e=c:=by
 obtain⟨i,hi,e1⟩:=Cy.mp h;have:=f.at' i hi;rw[Ab hi,e1]at this;exact⟨i,(Option.some.inj this).symm⟩
open PySem
def ao:List Bool->Bool
 | []=>false
 | b :: l=>b ^^ ao l
theorem mP:∀(a b:List Bool),ao (a++b)=(ao a ^^ ao b)
 | [],b=>by simp[ao]
 | x :: a,b=>by
  show(x ^^ ao (a++b))=((x ^^ ao a) ^^ ao b);rw[mP a b,Bool.xor_assoc]
theorem Qi{a b:List Bool}(h:a.Perm b):ao a=ao b:=by
 induction h with
 | nil=>rfl
 | cons x _ ih=>show(x ^^ _)=(x ^^ _);rw[ih]
 | swap x y l=>show(y ^^ (x ^^ ao l))=(x ^^ (y ^^ ao l));cases x <;> cases y <;> simp
 | trans _ _ h1 h2=>exact h1.trans h2
theorem ic{α:Type}(f g:α->Bool):∀ l:List α,ao (l.map λx=>f x ^^ g x)=(ao (l.map f) ^^ ao (l.map g))
 | []=>rfl
 | x :: l=>by
  show((f x ^^ g x) ^^ ao (l.map λx=>f x ^^ g x))=((f x ^^ ao (l.map f)) ^^ (g x ^^ ao (l.map g)));rw[ic f g l];cases f x <;> cases g x <;> cases ao (l.map f) <;> cases ao (l.map g) <;> rfl
def eG(n:Net)(s:Str->Bool):Prop:=∀ r,ao ((row n r).map s)=false
structure aZ(n:Net)(s:Str->Bool)(χ:End->Bool):Prop where
 go:∀ e∈ends n,χ (step n e)=χ e
 de:∀ e z,aI n e=some z->s z=(χ e ^^ χ (other n e))
def RS(n:Net):Prop:=∀ s:Str->Bool,eG n s->∃ χ,aZ n s χ
def Qj(n:Net)(r:Nat)(s:Str->Bool)(g:End->Bool)(h:∀ p z,(row n r)[p]?=some z->s z=g (r,p)):(row n r).map s=(List.range (row n r).length).map λp=>g (r,p):=by
 apply Ds;intro p;rw[Ai,Ai]
 by_cases hp:p < (row n r).length
 ·rw[Ab hp,Ed hp];exact BZ some<|h p _<|Ab hp
 ·rw[Bf (by omega),Bf<|by simp;omega];rfl
theorem G'(f:Nat->Bool)(m:Nat):ao ((List.range m).map λp=>f<|(p+1) % m)=ao ((List.range m).map f):=by
 cases m with
 | zero=>rfl
 | succ k=>
  have e:(List.range<|k+1).map (λp=>f<|(p+1) % (k+1))=((List.range k).map λp=>f<|p+1)++[f 0]:=by
   rw[Do,Ak]
   congr 1
   ·refine Ao λp hp=>?_;have:=Bt.mp hp;show f ((p+1) % (k+1))=f (p+1);rw[Cc<|by omega]
   ·simp
  rw[e,List.range_succ_eq_map,Bi,Cd,mP];show _=(f 0 ^^ ao ((List.range k).map<|f ∘ Nat.succ));show(ao ((List.range k).map λp=>f<|p+1) ^^ (f 0 ^^ false))=(f 0 ^^ ao ((List.range k).map λp=>f<|p+1));cases f 0 <;> cases ao ((List.range k).map λp=>f<|p+1) <;> rfl
def aZ.even{n:Net}(T:aw n){s:Str->Bool}{χ:End->Bool}(h:aZ n s χ):eG n s:=by
 intro r;rw[Qj n r s (λe=>χ e ^^ χ (other n e)) λp z hz=>h.de (r,p) z hz];rw[ic (λp=>χ (r,p)) λp=>χ<|other n (r,p)];have e:((List.range (row n r).length).map λp=>χ<|other n (r,p))=(List.range (row n r).length).map λp=>χ (r,(p+1) % (row n r).length):=by
  refine Ao λp hp=>?_;have hp:=Bt.mp hp;obtain⟨z,hz⟩:=ye (n:=n) (e:=(r,p)) hp;obtain⟨h1,h2,_⟩:=dU T hz;have:=h.go (other n (r,p))<|af.mpr ⟨z,h1⟩;rw[<- this];show χ (left n (other n<|other n (r,p)))=_;rw[h2];rfl
 rw[e,G' λp=>χ (r,p)];cases ao ((List.range (row n r).length).map λp=>χ (r,p)) <;> rfl
def aZ.xor{n:Net}{s t:Str->Bool}{χ ψ:End->Bool}(h:aZ n s χ)(g:aZ n t ψ):aZ n (λz=>s z ^^ t z) (λe=>χ e ^^ ψ e):=by
 refine⟨λe he=>?_,λe z hz=>?_⟩
 ·rw[h.go e he,g.go e he]
 ·show(s z ^^ t z)=((χ e ^^ ψ e) ^^ (χ (other n e) ^^ ψ (other n e)));rw[h.de e z hz,g.de e z hz];cases χ e <;> cases ψ e <;> cases χ (other n e) <;> cases ψ (other n e) <;> rfl
def eG.xor{n:Net}{s t:Str->Bool}(h:eG n s)(g:eG n t):eG n (λz=>s z ^^ t z):=λr=>by
 rw[ic s t,h r,g r];rfl
section
variable{n m:Net}{g:End->End}{e1 e2:End}{z:Str}
def eF.mark(p:eF n m g e1 e2 z)(χ:End->Bool)(a:Bool):∃ χ':End->Bool,(∀ e∈ends n,χ' (g e)=χ e)/\χ' e1=a/\χ' e2=a:=by
 refine⟨λx=>if x=e1 then a else if x=e2 then a else match (ends n).find? (λe=>decide (g e=x))with | some e=>χ e | none=>false,λe he=>?_,?_,?_⟩
 ·show(if g e=e1 then a else if g e=e2 then a else match (ends n).find? (λe'=>decide (g e'=g e))with | some e=>χ e | none=>false)=χ e;rw[BL<|p.n1 e he,BL<|p.n2 e he];cases hf:(ends n).find? (λe'=>decide (g e'=g e)) with
  | none=>exact absurd (BW (rfl:g e=g e))<|by simpa using Fu.mp hf e he
  | some e'=>
   have h5:=Gr hf;have h5:g e'=g e:=BX h5;rw[p.inj _ _ h5]
 ·simp
 ·simp
def eF.kh(p:eF n m g e1 e2 z)(T:aw n)(T':aw m){s:Str->Bool}{χ:End->Bool}(h:aZ n s χ)(hz:s z=false){a:Bool}
  (st:∀ x∈ends n,step m (g x)=g (step n x)\/((step m (g x)=e1\/step m (g x)=e2)/\χ (step n x)=a))
  (s1:step m e1=e1\/step m e1=e2\/∃ k∈ends n,step m e1=g k/\χ k=a) (s2:step m e2=e1\/step m e2=e2\/∃ k∈ends n,step m e2=g k/\χ k=a):∃ χ',aZ m s χ':=by
 obtain⟨χ',h1,h2,h3⟩:=p.mark χ a;have ki:∀ x∈ends m,(∃ e∈ends n,x=g e)\/x=e1\/x=e2:=λx hx=>by
  have:=p.perm.mem_iff.mpr hx
  rcases Am.mp this with q | q
  ·obtain⟨e,he,rfl⟩:=Al.mp q;exact .inl ⟨e,he,rfl⟩
  ·simp only[Aj,Cm,HY]at q;exact .inr q
 refine⟨χ',λx hx=>?_,λx y hy=>?_⟩
 ·rcases ki x hx with ⟨e,he,rfl⟩ | rfl | rfl
  ·rw[h1 e he]
   rcases st e he with q | ⟨q,qa⟩
   ·rw[q,h1 _<|rW T he,h.go e he]
   ·rw[h.go e he]at qa
    rcases q with q | q
    ·rw[q,h2,qa]
    ·rw[q,h3,qa]
  ·rcases s1 with q | q | ⟨k,hk,q,qa⟩
   ·rw[q]
   ·rw[q,h2,h3]
   ·rw[q,h1 k hk,h2,qa]
  ·rcases s2 with q | q | ⟨k,hk,q,qa⟩
   ·rw[q,h2,h3]
   ·rw[q]
   ·rw[q,h1 k hk,h3,qa]
 ·rcases ki x (af.mpr ⟨y,hy⟩)with ⟨e,he,rfl⟩ | rfl | rfl
  ·rw[p.de e he]at hy;obtain⟨o1,_,_⟩:=dU T hy;rw[p.hV T T' he,h1 e he,h1 _<|af.mpr ⟨y,o1⟩];exact h.de e y hy
  ·rw[p.t1]at hy;cases hy;rw[p.o1 T',h2,h3,hz];cases a <;> rfl
  ·rw[p.t2]at hy;cases hy;rw[p.o2 T',h2,h3,hz];cases a <;> rfl
def Qk(T':aw m){ψ:End->Bool}(hψ:∀ e∈ends m,ψ (step m e)=ψ e)(t1:aI m e1=some z)(ho:other m e1=e2)(ne:ψ e1≠ψ e2)(h0:∀ s,eG m s->s z=false->∃ χ,aZ m s χ):RS m:=by
 intro s hs
 by_cases hz:s z=false
 ·exact h0 s hs hz
 ·have hz:s z=true:=by cases h:s z with | true=>rfl | false=>exact absurd h hz
  let t:Str->Bool:=λy=>match (ends m).find? (λe=>decide (aI m e=some y))with | some e=>ψ e ^^ ψ (other m e) | none=>false
  have ht:aZ m t ψ:=by
   refine⟨hψ,λe y hy=>?_⟩;show(match (ends m).find? (λe=>decide (aI m e=some y))with | some e=>ψ e ^^ ψ (other m e) | none=>false)=_;cases hf:(ends m).find? (λe=>decide (aI m e=some y)) with
   | none=>exact absurd (BW hy)<|by simpa using Fu.mp hf e (af.mpr ⟨y,hy⟩)
   | some e'=>
    have h5:=Gr hf;have h':aI m e'=some y:=BX h5
    by_cases q:e'=e
    ·rw[q]
    ·have o1:=kg T' h' hy q;have o2:=kg T' hy h'<|CG q;show(ψ e' ^^ ψ (other m e'))=_;rw[o1,o2];cases ψ e <;> cases ψ e' <;> rfl
  have tz:t z=true:=by
   rw[ht.de e1 z t1,ho];cases h1:ψ e1 <;> cases h2:ψ e2 <;> simp_all
  obtain⟨χ,hχ⟩:=h0 (λy=>s y ^^ t y) (hs.xor<|ht.even T') (by show(s z ^^ t z)=false;rw[hz,tz];rfl);have:=hχ.xor ht;refine⟨λe=>χ e ^^ ψ e,this.go,λe y hy=>?_⟩;rw[<- this.de e y hy];show s y=((s y ^^ t y) ^^ t y);cases s y <;> cases t y <;> rfl
def Hc{n:Net}{c:End}{z:Str}(hc:c.1 < n.length){s:Str->Bool}(hz:s z=false)(r:Nat):ao ((row (ins n c z) r).map s)=ao ((row n r).map s):=by
 rw[rZ n c z r hc]
 by_cases h:c.1=r
 ·rw[BP h,Ak,Bi,mP];show(ao (((row n r).take c.2).map s) ^^ (s z ^^ ao (((row n r).drop c.2).map s)))=_;rw[hz,Fj,<- mP,<- Ak,Dc]
 ·rw[BL h]
def Dec.mark{α:Type} [DecidableEq α] {f:α->α} {D:List α} {Ls:List (List α)} (d:Dec f D Ls) {l:List α} (hl:l∈Ls):∀ x∈D,(f x∈l↔x∈l):=by
 intro x hx;obtain⟨A,B,rfl⟩:=Fv hl;have d':Dec f D (l :: (A++B)):=⟨λk hk=>d.ke k (by
  rcases Aj.mp hk with rfl | hk
  ·exact hl
  ·rcases Am.mp hk with q | q
   ·exact Ba _ q
   ·exact Ax _<|Ah _ q),by
  refine List.Perm.trans ?_ d.all;rw[Dd,Fp,Fp,Dd,<- Ar,<- Ar];exact(Ci).append_right _,d.nd⟩
 have cl:∀ k∈l :: (A++B),∀ x∈k,f x∈k:=λk hk x hx=>by
  obtain⟨c,hc,p⟩:=d'.ke k hk;exact GA p hc hx
 by_cases h:x∈l
 ·exact⟨λ_=>h,λ_=>cl l Ae x h⟩
 ·refine⟨λq=>?_,λq=>absurd q h⟩
  exfalso
  obtain⟨k,hk,Ql⟩:=Fn.mp<|d'.all.mem_iff.mpr hx
  rcases Aj.mp hk with rfl | mj
  ·exact h Ql
  ·exact d'.apart.2 k mj _ q<|cl k hk x Ql
theorem He{s:Str->Bool}{χ:End->Bool}(T:aw n)(h:aZ n s χ){a:End}(ha:a∈ends n):∀ k,χ (it (step n) k a)=χ a
 | 0=>rfl
 | k+1=>by
  show χ (step n<|it (step n) k a)=_;rw[h.go _<|j6 (λx hx=>rW T hx) ha k,He T h ha k]
def q2u(p:eF n m g e1 e2 z)(T:aw n)(T':aw m){k1 k2:End}(h1:k1∈ends n)(h2:k2∈ends n)(ne:k2≠k1)(same:(∃ k,it (step n) k k1=k2)\/∃ k,it (step n) k k2=k1)
  (l1:left m e1=g k1) (l2:left m e2=g k2) (lf:∀ e∈ends n,left m (g e)=if left n e=k1 then e1 else if left n e=k2 then e2 else g (left n e))
  {Ls:List (List End)} (d:Dec (step n) (ends n) Ls) (ev:∀ s,eG m s->s z=false->eG n s) (R:RS n):RS m:=by
 have st:∀ x∈ends n,step m (g x)=if step n x=k1 then e1 else if step n x=k2 then e2 else g (step n x):=λx hx=>by
  unfold step;rw[p.hV T T' hx];exact lf _<|db T hx
 have s1:step m e1=g k2:=by unfold step;rw[p.o1 T'];exact l2
 have s2:step m e2=g k1:=by unfold step;rw[p.o2 T'];exact l1
 obtain⟨l,Ms,hL,d⟩:=d.pick h1;have hk:=d.one h2 same ne;obtain⟨Qa,hL',d',w,hw,w2,w1⟩:=d.split (f':=step m) (g:=g) hk (e1:=e1) (e2:=e2) s1 s2
  (λx hx e=>by rw[st x hx,BP e]) (λx hx e=>by rw[st x hx,BL (by rw[e];exact ne),BP e]) (λx hx a b=>by rw[st x hx,BL a,BL b]) p.nd
 have dm:=d'.perm p.perm;refine Qk T' (ψ:=λx=>decide (x∈w)) (λx hx=>decide_eq_decide.mpr<|dm.mark hw x hx) p.t1 (p.o1 T') (by show decide (e1∈w)≠decide (e2∈w);rw[BR w1,BW w2];decide) λs hs hz=>?_;obtain⟨χ,hχ⟩:=R s<|ev s hs hz;have ek:χ k2=χ k1:=by
  rcases same with ⟨k,e⟩ | ⟨k,e⟩
  ·rw[<- e];exact He T hχ h1 k
  ·rw[<- e];exact(He T hχ h2 k).symm
 refine p.kh T T' hχ hz (a:=χ k1) (λx hx=>?_) (.inr<|.inr ⟨k2,h2,s1,ek⟩)<|.inr<|.inr ⟨k1,h1,s2,rfl⟩;rw[st x hx]
 by_cases c1:step n x=k1
 ·rw[BP c1];exact .inr ⟨.inl rfl,by rw[c1]⟩
 ·rw[BL c1]
  by_cases c2:step n x=k2
  ·rw[BP c2];exact .inr ⟨.inr rfl,by rw[c2,ek]⟩
  ·rw[BL c2];exact .inl rfl
def q43(p:eF n m g e1 e2 z)(T:aw n)(T':aw m){c:End}(h1:c∈ends n)(l1:left m e1=g c)(l2:left m e2=e1)(lf:∀ e∈ends n,left m (g e)=if left n e=c then e2 else g (left n e))
  (ev:∀ s,eG m s->s z=false->eG n s) (R:RS n):RS m:=by
 have st:∀ x∈ends n,step m (g x)=if step n x=c then e2 else g (step n x):=λx hx=>by
  unfold step;rw[p.hV T T' hx];exact lf _<|db T hx
 have s1:step m e1=e1:=by unfold step;rw[p.o1 T'];exact l2
 have s2:step m e2=g c:=by unfold step;rw[p.o2 T'];exact l1
 have yQ:e1∈ends m:=af.mpr ⟨z,p.t1⟩;refine Qk T' (ψ:=λx=>decide (x=e1)) (λx hx=>?_) p.t1 (p.o1 T') (by show decide (e1=e1)≠decide (e2=e1);rw[BW rfl,BR p.ne.symm];decide) λs hs hz=>?_
 ·by_cases q:x=e1
  ·rw[q,s1]
  ·show decide (step m x=e1)=decide (x=e1);rw[BR q];exact BR λe=>q<|O4 T' hx yQ<|by rw[e,s1]
 obtain⟨χ,hχ⟩:=R s<|ev s hs hz;refine p.kh T T' hχ hz (a:=χ c) (λx hx=>?_) (.inl s1)<|.inr<|.inr ⟨c,h1,s2,rfl⟩;rw[st x hx]
 by_cases c1:step n x=c
 ·rw[BP c1];exact .inr ⟨.inr rfl,by rw[c1]⟩
 ·rw[BL c1];exact .inl rfl
def q0k(p:eF n m g e1 e2 z)(T:aw n)(T':aw m){c:End}(h1:c∈ends n)(l1:left m e1=g c)(l2:left m e2=e2)(lf:∀ e∈ends n,left m (g e)=if left n e=c then e1 else g (left n e))
  (hz:∀ s,eG m s->s z=false) (ev:∀ s,eG m s->s z=false->eG n s) (R:RS n):RS m:=by
 have st:∀ x∈ends n,step m (g x)=if step n x=c then e1 else g (step n x):=λx hx=>by
  unfold step;rw[p.hV T T' hx];exact lf _<|db T hx
 have s1:step m e1=e2:=by unfold step;rw[p.o1 T'];exact l2
 have s2:step m e2=g c:=by unfold step;rw[p.o2 T'];exact l1
 intro s hs;have hz:=hz s hs;obtain⟨χ,hχ⟩:=R s<|ev s hs hz;refine p.kh T T' hχ hz (a:=χ c) (λx hx=>?_) (.inr<|.inl s1)<|.inr<|.inr ⟨c,h1,s2,rfl⟩;rw[st x hx]
 by_cases c1:step n x=c
 ·rw[BP c1];exact .inr ⟨.inl rfl,by rw[c1]⟩
 ·rw[BL c1];exact .inl rfl
end
section
variable{n:Net}{z:Str}
def q7d{k1 k2:End}(T:aw n)(T':aw<|ins (ins n k1 z) k2 z)(h1:k1∈ends n)(h2:k2∈ends n)(ord:k2=k1\/sh k1 k2=k2)(same:(∃ k,it (step n) k k1=k2)\/∃ k,it (step n) k k2=k1)(P:Pl n)(R:RS n):RS (ins (ins n k1 z) k2 z):=by
 have r1:=fe h1;have r2:=fe h2;have p:=Qb (z:=z) (k1:=k1) (k2:=k2) ⟨r1.1,Co r1.2⟩ ⟨r2.1,Co r2.2⟩;have c2:k2.1 < (ins n k1 z).length:=by rw[gS];exact r2.1
 have rl:∀ i,(row n i).length<=(row (ins n k1 z) i).length:=λi=>by
  rw[sD r1.1<|Co r1.2]
  split <;> omega
 have p2:k2.2 < (row (ins n k1 z) k2.1).length:=Be r2.2<|rl _;have p1:k1.2 < (row (ins n k1 z) k1.1).length:=Be r1.2<|rl _;have sl:∀ e∈ends n,(sh k1 e).2 < (row (ins n k1 z) (sh k1 e).1).length:=λe he=>by
  obtain⟨y,hy⟩:=af.mp he;exact gy (z:=y)<|by rw[sG r1.1<|Co r1.2];exact hy
 have l0:left (ins n k1 z) k1=sh k1 k1:=n8 r1.1 r1.2;have ev:∀ s,eG (ins (ins n k1 z) k2 z) s->s z=false->eG n s:=λs hs hz r=>by
  rw[<- Hc r1.1 hz r,<- Hc c2 hz r];exact hs r
 by_cases e:k2=k1
 ·subst e;refine q43 p T T' h1 ?_ (n8 c2 p2) (λe he=>?_) ev R
  ·rw[iL c2 p2 p1,l0,BL<|nZ _ _]
  ·show left _ (sh k2<|sh k2 e)=_;rw[iL c2 p2<|sl e he,iL r1.1 r1.2 (fe he).2]
   by_cases q:left n e=k2
   ·rw[BP q,BP rfl,BP q]
   ·rw[BL q,BL<|nZ _ _,BL q]
 ·have hs:sh k1 k2=k2:=ord.resolve_left e
  rcases P with ⟨t0,_⟩ | ⟨Ls,d,_⟩
  ·obtain⟨y,hy⟩:=af.mp h1;have:=eU hy;rw[t0]at this;cases this
  refine q2u p T T' h1 h2 e same ?_ ?_ (λe' he=>?_) d ev R
  ·rw[iL c2 p2 p1,l0,BL λq=>e<|nY (c:=k1)<|by rw[hs,q]]
  ·show left _ k2=sh k2 (sh k1 k2);rw[hs];exact n8 c2 p2
  ·show left _ (sh k2<|sh k1 e')=if left n e'=k1 then sh k2 k1 else if left n e'=k2 then k2 else sh k2 (sh k1<|left n e');rw[iL c2 p2<|sl e' he,iL r1.1 r1.2 (fe he).2]
   by_cases q:left n e'=k1
   ·rw[BP q,BP q,BL λx=>e x.symm]
   ·rw[BL q,BL q]
    by_cases q2:left n e'=k2
    ·rw[BP q2,q2,hs,BP rfl]
    ·rw[BL q2,BL λx=>q2<|nY (c:=k1)<|by rw[x,hs]]
def k82{c:End}{pt:Str}(T:aw n)(T':aw<|ins n c z++[(pt,[z])])(h1:c∈ends n)(R:RS n):RS (ins n c z++[(pt,[z])]):=by
 have r1:=fe h1;have p:=Qc (z:=z) (c:=c) (pt:=pt) ⟨r1.1,Co r1.2⟩;have la:∀ e:End,e.1 < n.length->left (ins n c z++[(pt,[z])]) e=left (ins n c z) e:=λe he=>by
  unfold left;rw[oa<|by rw[gS];exact he]
 have kj:=yN (a:=ins n c z) (x:=(pt,[z]));rw[gS]at kj;refine q0k p T T' h1 ?_ ?_ (λe he=>?_) (λs hs=>?_) (λs hs hz r=>?_) R
 ·rw[la _ r1.1];exact n8 r1.1 r1.2
 ·unfold left;show(n.length,(0+1) % (row _ n.length).length)=_;rw[kj];exact BZ (Prod.mk _)<|Ef 1
 ·rw[la _<|by rw[mO];exact(fe he).1];exact iL r1.1 r1.2 (fe he).2
 ·have:=hs n.length;rw[kj]at this;have:(s z ^^ false)=false:=this
  simpa using this
 ·by_cases h:r < n.length
  ·have:=hs r;rw[oa (by rw[gS];exact h),Hc r1.1 hz r]at this;exact this
  ·have:row n r=[]:=by
    unfold row;rw[Bf<|by omega];rfl
   rw[this];rfl
end
def q98{nm:Str}:RS [(nm,[])]:=λs _=>⟨λ_=>false,λe he=>rfl,λe y hy=>by
 have:=eU hy;cases this⟩
def k8b{nm pt z:Str}(T':aw [(nm,[z]),(pt,[z])]):RS [(nm,[z]),(pt,[z])]:=λs hs=>⟨λ_=>false,λe he=>rfl,λe y hy=>by
 have h:=eU hy;have:y=z:=by simpa[ag]using h
 rw[this];have:=hs 0;have:(s z ^^ false)=false:=this
 simpa using this⟩
def q6c{nm z:Str}(T':aw [(nm,[z,z])]):RS [(nm,[z,z])]:=λs _=>by
 have t1:aI [(nm,[z,z])] (0,0)=some z:=rfl;have t2:aI [(nm,[z,z])] (0,1)=some z:=rfl;have o1:=kg T' t1 t2 (by decide);have o2:=kg T' t2 t1 (by decide);have hE:ends [(nm,[z,z])]=[(0,0),(0,1)]:=rfl;refine⟨λe=>decide (e=(0,0)) && s z,λe he=>?_,λe y hy=>?_⟩
 ·rw[hE]at he;simp only[Aj,Cm,HY]at he
  rcases he with rfl | rfl
  ·show(decide (left [(nm,[z,z])] (other [(nm,[z,z])] (0,0))=(0,0)) && s z)=_;rw[o1];simp[left,row]
  ·show(decide (left [(nm,[z,z])] (other [(nm,[z,z])] (0,1))=(0,0)) && s z)=_;rw[o2];simp[left,row]
 ·have h:=eU hy;have e1:y=z:=by simpa[ag]using h
  have he:=af.mpr ⟨y,hy⟩;rw[hE]at he;simp only[Aj,Cm,HY]at he;rw[e1]
  rcases he with rfl | rfl
  ·rw[o1];simp
  ·rw[o2];simp
def Fl(n:Net):Prop:=Pl n/\RS n
def q90{nm:Str}:Fl [(nm,[])]:=⟨.inl ⟨rfl,rfl⟩,q98⟩
def k8e{n:Net}{c:End}{z pt:Str}(T:aw n)(F:Full n)(hz:z∉ag n)(hc:eW n c) (hp:(ag<|ins n c z++[(pt,[z])]).Perm<|z :: z :: ag n) (P:Fl n):Fl (ins n c z++[(pt,[z])]):=by
 refine⟨k7j T F hz hc hp P.1,?_⟩;have T':=yO hp T hz
 rcases yP F with ⟨nm,rfl⟩ | h0
 ·have:=sI hc;subst this;exact k8b T'
 ·exact k82 T T' (F.cI h0 hc) P.2
def q47{n:Net}{k1 k2:End}{z:Str}(T:aw n)(F:Full n)(hz:z∉ag n)(h1:eW n k1)(h2:eW n k2) (hp:(ag<|ins (ins n k1 z) k2 z).Perm<|z :: z :: ag n) (ord:k2=k1\/sh k1 k2=k2) (same:(∃ k,it (step n) k k1=k2)\/∃ k,it (step n) k k2=k1) (P:Fl n):Fl (ins (ins n k1 z) k2 z):=by
 refine⟨q4z T F hz h1 h2 hp ord same P.1,?_⟩;have T':=yO hp T hz
 rcases yP F with ⟨nm,rfl⟩ | h0
 ·have:=sI h1;subst this;have:=sI h2;subst this;exact q6c T'
 ·exact q7d T T' (F.cI h0 h1) (F.cI h0 h2) ord same P.1 P.2
def k98{n m:Net}{g:End->End}(T:aw n)(T':aw m)(ht:(ag m).length=(ag n).length)(de:∀ e∈ends n,aI m (g e)=aI n e)(inj:∀ a∈ends n,∀ b∈ends n,g a=g b->a=b)
  (lf:∀ e∈ends n,left m (g e)=g (left n e)) (ev:∀ s,eG m s->eG n s) (R:RS n):RS m:=by
 have uT:∀ x∈ends m,∃ e∈ends n,x=g e:=by
  have nd:((ends n).map g).Nodup:=by
   have:∀(l:List End),(∀ x∈l,x∈ends n)->l.Nodup->(l.map g).Nodup:=by
    intro l
    induction l with
    | nil=>intro _ _;exact Ch
    | cons x l ih=>
     intro hs h;have h:=Bc.mp h;rw[Bi];refine Bc.mpr ⟨λhx=>?_,ih (λy hy=>hs y<|Ah _ hy) h.2⟩;obtain⟨y,hy,e⟩:=Al.mp hx;have:=inj y (hs y<|Ah _ hy) x (hs x Ae) e;exact h.1<|this ▸ hy
   exact this _ (λx hx=>hx)<|rV n
  have pm:((ends n).map g).Perm (ends m):=by
   refine uS nd (λa ha=>?_) (by rw[Aa,jy,jy,ht];exact An _);obtain⟨x,hx,rfl⟩:=Al.mp ha;obtain⟨y,hy⟩:=af.mp hx;exact af.mpr ⟨y,by rw[de x hx];exact hy⟩
  intro x hx;obtain⟨e,he,q⟩:=Al.mp<|pm.mem_iff.mpr hx;exact⟨e,he,q.symm⟩
 intro s hs;obtain⟨χ,hχ⟩:=R s<|ev s hs
 let χ':End->Bool:=λx=>match (ends n).find? (λe=>decide (g e=x))with | some e=>χ e | none=>false
 have h1:∀ e∈ends n,χ' (g e)=χ e:=λe he=>by
  show(match (ends n).find? (λe'=>decide (g e'=g e))with | some e=>χ e | none=>false)=χ e;cases hf:(ends n).find? (λe'=>decide (g e'=g e)) with
  | none=>exact absurd (BW (rfl:g e=g e))<|by simpa using Fu.mp hf e he
  | some e'=>
   have h5:=Gr hf;have h5:g e'=g e:=BX h5;rw[inj _ (List.mem_of_find?_eq_some hf) _ he h5]
 have hV:∀ e∈ends n,other m (g e)=g (other n e):=λe he=>by
  obtain⟨y,hy⟩:=af.mp he;obtain⟨h1,_,h3⟩:=dU T hy;have ho:other n e∈ends n:=af.mpr ⟨y,h1⟩;exact kg T' (by rw[de e he];exact hy) (by rw[de _ ho];exact h1) λh=>h3 (inj _ he _ ho h).symm
 refine⟨χ',λx hx=>?_,λx y hy=>?_⟩
 ·obtain⟨e,he,rfl⟩:=uT x hx;have:step m (g e)=g (step n e):=by
   unfold step;rw[hV e he];exact lf _<|db T he
  rw[this,h1 _<|rW T he,h1 e he,hχ.go e he]
 ·obtain⟨e,he,rfl⟩:=uT x<|af.mpr ⟨y,hy⟩;rw[de e he]at hy;rw[hV e he,h1 e he,h1 _<|db T he];exact hχ.de e y hy
def q8c{a:Net}{j i:Nat}{x:Str}(hj:j < a.length)(hi:i < max 1 (row a j).length)(T:aw a) (T':aw<|a.eraseIdx j++[(x,(row a j).drop i++(row a j).take i)])
  (ht:(ag<|a.eraseIdx j++[(x,(row a j).drop i++(row a j).take i)]).length=(ag a).length) (R:RS a):RS (a.eraseIdx j++[(x,(row a j).drop i++(row a j).take i)]):=by
 obtain⟨g,h1,h2,h3⟩:=Qf (x:=x) hj hi;refine k98 T T' ht h1 h2 h3 (λs hs r=>?_) R
 by_cases hr:r < a.length
 ·have:=hs (if r < j then r else if r=j then a.length - 1 else r - 1);rw[Qe hj r hr]at this
  by_cases e:r=j
  ·rw[BP e]at this;rw[<- this,e];refine Qi<|List.Perm.map s ?_;show(row a j).Perm ((row a j).drop i++(row a j).take i);refine List.Perm.trans ?_ Ci;rw[Dc]
  ·rw[BL e]at this;exact this
 ·have:row a r=[]:=by
   unfold row;rw[Bf<|by omega];rfl
  rw[this];rfl
def q66{n n2 n0:Net}{j i:Nat}{x:Str}(hj:j < n.length)(hi:i < max 1 (row n j).length)(T0:aw n0)(pt:(ag n++ag n2).Perm<|ag n0)
  (gE:(ag (n.eraseIdx j)++ag (n2++[(x,(row n j).drop i++(row n j).take i)])).Perm<|ag n0) (P:Fl<|n++n2):Fl (n.eraseIdx j++(n2++[(x,(row n j).drop i++(row n j).take i)])):=by
 refine⟨q4x hj hi T0 pt gE P.1,?_⟩;have tw:∀ m:Net,(ag m).Perm (ag n0)->aw m:=λm p y hy=>by rw[p.count_eq];exact T0 y<|p.mem_iff.mp hy
 rw[<- Qh]at pt gE;have er:row (n++n2) j=row n j:=oa hj;have ee:n.eraseIdx j++(n2++[(x,(row n j).drop i++(row n j).take i)])=(n++n2).eraseIdx j++[(x,(row (n++n2) j).drop i++(row (n++n2) j).take i)]:=by
  rw[LC hj,Ar,er]
 rw[ee]at gE ⊢;exact q8c (by rw[Af];omega) (by rw[er];exact hi) (tw _ pt) (tw _ gE) (by rw[gE.length_eq,pt.length_eq]) P.2
open L2
def aH(n:Net)(r:Nat):Str:=((n[r]?).map (·.1)).getD ⟨#[]⟩
def jf{n:Net}{r:Nat}(h:r < n.length):aH n r=n[r].1:=by unfold aH;rw[Ab h];rfl
abbrev Lk:=Str×Str×Str
def oh(n:Net)(x:Lk):Prop:=∃ a b,pos n x.1=[a,b]/\x.2.1=aH n a.1/\x.2.2=aH n b.1
structure iM(n:Net)(done:List<|Str×End)(kM:List<|Key×V)(ls:List Lk):Prop where
 m0:∀ z,bL done z=[]->aD kM (Sum.inr z)=none
 m1:∀ z a rest,bL done z=a :: rest->aD kM (Sum.inr z)=some (.str<|aH n a.1)
 mem:∀ x:Lk,x∈ls↔∃ a b rest,bL done x.1=a :: b :: rest/\x.2.1=aH n a.1/\x.2.2=aH n b.1
 gW:(ls.map (·.1)).Nodup
 dZ:kM.length<=done.length
 mQ:ls.length<=done.length
def iM.start(n:Net):iM n [] [] []:=⟨λ_ _=>rfl,λz a rest h=>(by cases h),λx=>⟨λh=>(by cases h),λ⟨a,b,rest,h,_⟩=>(by cases h)⟩,Ch,An _,An _⟩
def iM.new{n:Net}{done:List (Str×End)}{kM:List (Key×V)}{ls:List Lk}(I:iM n done kM ls){z:Str}{e:End}(h0:bL done z=[]):iM n (done++[(z,e)]) (putK kM (Sum.inr z)<|.str<|aH n e.1) ls:=by
 refine⟨λy hy=>?_,λy a rest hy=>?_,λx=>?_,I.gW,?_,?_⟩
 ·rw[dk]at hy;obtain⟨h1,h2⟩:=Fa.mp hy;have bn:¬ z=y:=λq=>by rw[BP q]at h2;cases h2
  rw[dz,BL λq=>bn (Sum.inr.inj q).symm];exact I.m0 y h1
 ·rw[dk]at hy
  by_cases q:z=y
  ·subst q;rw[h0,BP rfl]at hy;cases hy;rw[dz,BP rfl]
  ·rw[BL q,Bg]at hy;rw[dz,BL λp=>q (Sum.inr.inj p).symm];exact I.m1 y a rest hy
 ·rw[I.mem x]
  by_cases q:z=x.1
  ·constructor
   ·rintro ⟨a,b,rest,h,_⟩;rw[<- q,h0]at h;cases h
   ·rintro ⟨a,b,rest,h,_⟩;rw[dk,<- q,h0,BP rfl]at h;cases h
  ·constructor
   ·rintro ⟨a,b,rest,h,r⟩;exact⟨a,b,rest,by rw[dk,BL q,Bg];exact h,r⟩
   ·rintro ⟨a,b,rest,h,r⟩;rw[dk,BL q,Bg]at h;exact⟨a,b,rest,h,r⟩
 ·have:=iB kM (Sum.inr z)<|.str<|aH n e.1;have:=I.dZ;rw[Af,Ct];omega
 ·have:=I.mQ;rw[Af,Ct];omega
def iM.old{n:Net}{done:List (Str×End)}{kM:List (Key×V)}{ls:List Lk}(I:iM n done kM ls){z:Str}{a e:End}(h1:bL done z=[a]):iM n (done++[(z,e)]) kM (ls++[(z,aH n a.1,aH n e.1)]):=by
 have hz:bL (done++[(z,e)]) z=[a,e]:=by rw[dk,h1,BP rfl];rfl
 have hnz:z∉ls.map (·.1):=λh=>by
  obtain⟨x,hx,ex⟩:=Al.mp h;obtain⟨b,c,rest,hp,_⟩:=(I.mem x).mp hx;have ex:x.1=z:=ex;rw[ex,h1]at hp;cases hp
 refine⟨λy hy=>?_,λy b rest hy=>?_,λx=>?_,?_,?_,?_⟩
 ·rw[dk]at hy;exact I.m0 y (Fa.mp hy).1
 ·by_cases q:z=y
  ·subst q;rw[hz]at hy;cases hy;exact I.m1 z a [] h1
  ·rw[dk,BL q,Bg]at hy;exact I.m1 y b rest hy
 ·rw[Am,Ad,I.mem x]
  by_cases q:z=x.1
  ·constructor
   ·rintro (⟨b,c,rest,h,_⟩ | h)
    ·rw[<- q,h1]at h;cases h
    ·subst h;exact⟨a,e,[],hz,rfl,rfl⟩
   ·rintro ⟨b,c,rest,h,r1,r2⟩;rw[<- q,hz]at h;cases h;obtain⟨x1,x2,x3⟩:=x;have q:z=x1:=q;have r1:x2=aH n a.1:=r1;have r2:x3=aH n e.1:=r2;subst q r1 r2;exact .inr rfl
  ·constructor
   ·rintro (⟨b,c,rest,h,r⟩ | h)
    ·exact⟨b,c,rest,by rw[dk,BL q,Bg];exact h,r⟩
    ·subst h;exact absurd rfl q
   ·rintro ⟨b,c,rest,h,r⟩;rw[dk,BL q,Bg]at h;exact .inl ⟨b,c,rest,h,r⟩
 ·rw[Ak];exact nJ I.gW hnz
 ·have:=I.dZ;rw[Af,Ct];omega
 ·have:=I.mQ;rw[Af,Af];show _+1<=_+1;omega
def iM.whole{n:Net}(T:aw n){kM:List (Key×V)}{ls:List Lk}(I:iM n (bh n) kM ls)(x:Lk):x∈ls↔oh n x:=by
 rw[I.mem x]
 constructor
 ·rintro ⟨a,b,rest,h,r⟩;have hp:pos n x.1=a :: b :: rest:=h;have ha:aI n a=some x.1:=aK.mp (by rw[hp];exact Ae ..);have hl:=pI n x.1;rw[hp,T x.1<|eU ha]at hl;have:rest=[]:=by
   have:rest.length+1+1=2:=hl;exact Bj.mp<|by omega
  rw[this]at hp;exact⟨a,b,hp,r⟩
 ·rintro ⟨a,b,h,r⟩;exact⟨a,b,[],h,r⟩
inductive Way (ls:List<|Str×Str×Bool) (f:Str):Str->Bool->Prop where
 | here:Way ls f f false
 | there {x y:Str} {b o:Bool}:Way ls f x b->(x,y,o)∈ls->Way ls f y (b != o)
 | back {x y:Str} {b o:Bool}:Way ls f x b->(y,x,o)∈ls->Way ls f y (b != o)
def eI(n:Net)(ss:Ò):Bool:=n.all λr=>(r.2.filter λz=>ss.contains z).length % 2 == 0
def li{n:Net}(T:aw n){e x:End}{z:Str}(h:aI n e=some z):aI n x=some z↔x=e\/x=other n e:=by
 obtain⟨o1,o2,o3⟩:=dU T h;refine⟨λhx=>?_,λhx=>?_⟩
 ·obtain⟨a,b,hp,gn,he⟩:=pJ T h;have mx:x∈pos n z:=aK.mpr hx;have mo:other n e∈pos n z:=aK.mpr o1;rw[hp]at mx mo;simp only[Aj,Cm,HY]at mx mo
  rcases he with he | he
  ·rcases mx with m | m
   ·exact .inl<|m.trans he.symm
   ·rcases mo with m2 | m2
    ·exact absurd (m2.trans he.symm) o3
    ·exact .inr<|m.trans m2.symm
  ·rcases mx with m | m
   ·rcases mo with m2 | m2
    ·exact .inr<|m.trans m2.symm
    ·exact absurd (m2.trans he.symm) o3
   ·exact .inl<|m.trans he.symm
 ·rcases hx with rfl | rfl
  ·exact h
  ·exact o1
abbrev Bl:=Str×Str×Bool
def x0f(ls:List Bl)(x y:Str)(o:Bool):Prop:=(x,y,o)∈ls\/(y,x,o)∈ls
def Hf{κ:Type} [DecidableEq κ] (kvs:List<|κ×V) (k:κ) (v:V):(putK kvs k v).map (·.1)=if k∈kvs.map (·.1)then kvs.map (·.1)else kvs.map (·.1)++[k]:=by
 have e:(kvs.any λkv=>decide (kv.1=k))=decide (k∈kvs.map (·.1)):=by
  rw[Cn,List.any_eq_true,CK,Al];exact⟨λ⟨p,h1,h2⟩=>⟨p,h1,BX h2⟩,λ⟨p,h1,h2⟩=>⟨p,h1,BW h2⟩⟩
 unfold putK;rw[e]
 by_cases h:k∈kvs.map (·.1)
 ·rw[BP<|BW h,BP h,Cd];refine Ao λp _=>?_;show(if p.1=k then(p.1,v)else p).1=p.1
  split <;> rfl
 ·rw[BL (by simpa using h),BL h,Ak];rfl
open PyProof.Rows (sortedS)
def dA(n:Net):Prop:=∀ P:Str->Prop,(∃ r∈n,P r.1)->(∀ r∈n,∀ s∈n,∀ t,t∈r.2->t∈s.2->P r.1->P s.1)->∀ r∈n,P r.1
def Qm{n m:Net}(h1:∀ r∈n,∃ s∈m,s.1=r.1/\∀ t∈r.2,t∈s.2)(h2:∀ s∈m,∃ r∈n,r.1=s.1)(h:dA n):dA m:=by
 rintro P ⟨s,hs,ps⟩ cl s' i8;obtain⟨r,hr,er⟩:=h2 s hs;obtain⟨r',mR,er'⟩:=h2 s' i8;rw[<- er'];refine h P ⟨r,hr,by rw[er];exact ps⟩ (λa ha b hb t ta tb pa=>?_) r' mR;obtain⟨a',yR,ea,sa⟩:=h1 a ha;obtain⟨b',iK,eb,sb⟩:=h1 b hb;rw[<- eb];exact cl a' yR b' iK t (sa t ta) (sb t tb)<|by rw[ea];exact pa
def q1c(r:Str×List Str):dA [r]:=by
 rintro P ⟨s,hs,ps⟩ _ x hx;rw[Ad]at hs hx;rw[hx,<- hs];exact ps
def Hg(n:Net)(c:End)(z:Str)(i:Nat):(ins n c z)[i]?=(n[i]?).map λr=>if c.1=i then(r.1,r.2.take c.2++z :: r.2.drop c.2)else r:=by
 unfold ins;rw[Fi]
 by_cases h:c.1=i
 ·simp[h]
 ·simp[h]
def Hh{n:Net}{c:End}{z:Str}(h:dA n):dA (ins n c z):=by
 refine Qm (λr hr=>?_) (λs hs=>?_) h
 ·obtain⟨i,hi⟩:=Br hr;have e:=Hg n c z i;rw[hi]at e;refine⟨_,Au e,?_,λt ht=>?_⟩
  ·split <;> rfl
  ·split
   ·show t∈r.2.take c.2++z :: r.2.drop c.2;rw[<- Dc c.2 r.2]at ht
    rcases Am.mp ht with q | q
    ·exact Ba _ q
    ·exact Ax _<|Ah _ q
   ·exact ht
 ·obtain⟨i,hi⟩:=Br hs;rw[Hg,Ay]at hi;obtain⟨r,hr,e⟩:=hi;refine⟨r,Au hr,?_⟩;rw[<- e]
  split <;> rfl
def q3y{n:Net}{c:End}{z:Str}(hc:c.1 < n.length):∃ r∈ins n c z,z∈r.2:=by
 have e:=Hg n c z c.1;rw[Ab hc]at e;refine⟨_,Au e,?_⟩;show z∈(if c.1=c.1 then((n[c.1].1,n[c.1].2.take c.2++z :: n[c.1].2.drop c.2):Str×List Str)else n[c.1]).2;rw[BP rfl];exact Ax _<|Ae ..
def k81{n:Net}{z pt:Str}(h:dA n)(hz:∃ r∈n,z∈r.2):dA (n++[(pt,[z])]):=by
 obtain⟨r,hr,zr⟩:=hz;rintro P ⟨s,hs,ps⟩ cl x hx;have mn:((pt,[z]):Str×List Str)∈n++[(pt,[z])]:=Ax _<|Ad.mpr rfl;have ml:∀{y},y∈n->y∈n++[(pt,[z])]:=λhy=>Ba _ hy;have all:∀ y∈n,P y.1:=by
  refine h P ?_ λa ha b hb t ta tb pa=>cl a (ml ha) b (ml hb) t ta tb pa
  rcases Am.mp hs with q | q
  ·exact⟨s,q,ps⟩
  ·rw[Ad]at q;subst q;exact⟨r,hr,cl _ mn r (ml hr) z (Ad.mpr rfl) zr ps⟩
 rcases Am.mp hx with q | q
 ·exact all x q
 ·rw[Ad]at q;subst q;exact cl r (ml hr) _ mn z zr (Ad.mpr rfl)<|all r hr
def b9(zs:Ò):Prop:=zs.Pairwise λa b=>a.cps.toList < b.cps.toList
theorem uU:∀{zs:Ò},sortedS zs=true->zs.Nodup->b9 zs
 | [],_,_=>List.Pairwise.nil
 | z :: r,h,hn=>by
  rw[Bc]at hn;refine List.Pairwise.cons (λx hx=>?_)<|uU (bF.eS h) hn.2;have h1:=bF.dS r z h x hx
  rcases Gn.mp h1 with q | q
  ·exact q
  ·exact absurd hx<|by rw[<- bF.fw q];exact hn.1
def jA{zs:Ò}(h:b9 zs):zs.Nodup:=h.imp λq e=>by rw[e]at q;exact Gc _ q
theorem Hi:∀{a b:Ò},b9 a->b9 b->(∀ x,x∈a↔x∈b)->a=b
 | [],[],_,_,_=>rfl
 | [],y :: b,_,_,h=>by have:=(h y).mpr<|Ae ..;cases this
 | x :: a,[],_,_,h=>by have:=(h x).mp<|Ae ..;cases this
 | x :: a,y :: b,ha,hb,h=>by
  unfold b9 at ha hb;rw[Cs]at ha hb;have exy:x=y:=by
   rcases Aj.mp ((h x).mp<|Ae ..)with e | e
   ·exact e
   ·rcases Aj.mp ((h y).mpr<|Ae ..)with e2 | e2
    ·exact e2.symm
    ·exact absurd (Gj (ha.1 y e2)<|hb.1 x e)<|Gc _
  subst exy;have nx:∀(l:Ò),(∀ z∈l,x.cps.toList < z.cps.toList)->x∉l:=λl hl hm=>Gc _<|hl x hm;have:a=b:=Hi ha.2 hb.2 λz=>by
   constructor
   ·intro hz
    rcases Aj.mp ((h z).mp<|Ah _ hz)with e | e
    ·exact absurd (e ▸ hz)<|nx a ha.1
    ·exact e
   ·intro hz
    rcases Aj.mp ((h z).mpr<|Ah _ hz)with e | e
    ·exact absurd (e ▸ hz)<|nx b hb.1
    ·exact e
  rw[this]
def dq(n:Net)(ps:Ò)(z:Str):Prop:=∃ e,aI n e=some z/\aH n e.1∈ps/\aH n (other n e).1∉ps
def uV{n:Net}{ps:Ò}{z:Str}(h:dq n ps z):z∈ag n:=by
 obtain⟨e,he,_⟩:=h;exact eU he
def mS{n:Net}(T:aw n){ps:Ò}{z:Str}{e:End}(he:aI n e=some z):dq n ps z↔(decide (aH n e.1∈ps) != decide (aH n (other n e).1∈ps))=true:=by
 have o:=dU T he
 constructor
 ·rintro ⟨x,hx,h1,h2⟩
  rcases (li T he).mp hx with q | q
  ·subst q;simp[h1,h2]
  ·subst q;rw[o.2.1]at h2;simp[h1,h2]
 ·intro h
  by_cases h1:aH n e.1∈ps
  ·by_cases h2:aH n (other n e).1∈ps
   ·simp[h1,h2]at h
   ·exact⟨e,he,h1,h2⟩
  ·by_cases h2:aH n (other n e).1∈ps
   ·exact⟨other n e,o.1,h2,by rw[o.2.1];exact h1⟩
   ·simp[h1,h2]at h
def q2n{n:Net}(T:aw n){x:Lk}(h:oh n x):∃ e,aI n e=some x.1/\x.2.1=aH n e.1/\x.2.2=aH n (other n e).1:=by
 obtain⟨a,b,hp,h1,h2⟩:=h;have ha:aI n a=some x.1:=aK.mp (by rw[hp];exact Ae ..);have hb:aI n b=some x.1:=aK.mp (by rw[hp];simp);have mr:=O2 n x.1;rw[hp]at mr;have gn:b≠a:=λq=>by rw[q]at mr;simp at mr
 rcases (li T ha).mp hb with q | q
 ·exact absurd q gn
 ·exact⟨a,ha,h1,by rw[h2,q]⟩
def q01{n:Net}(T:aw n){e:End}{z:Str}(h:aI n e=some z):oh n (z,aH n e.1,aH n (other n e).1)\/oh n (z,aH n (other n e).1,aH n e.1):=by
 obtain⟨a,b,hp,gn,hh⟩:=pJ T h;have ha:aI n a=some z:=aK.mp (by rw[hp];exact Ae ..);have hb:aI n b=some z:=aK.mp<|by rw[hp];simp
 rcases hh with q | q
 ·subst q;refine .inl ⟨e,b,hp,rfl,?_⟩
  rcases (li T h).mp hb with q | q
  ·exact absurd q.symm gn
  ·show aH n (other n e).1=aH n b.1;rw[q]
 ·subst q;refine .inr ⟨a,e,hp,?_,rfl⟩
  rcases (li T h).mp ha with q | q
  ·exact absurd q gn
  ·show aH n (other n e).1=aH n a.1;rw[q]
def yS{n:Net}(T:aw n){ps:Ò}{x:Lk}(h:oh n x):dq n ps x.1↔(decide (x.2.1∈ps) != decide (x.2.2∈ps))=true:=by
 obtain⟨e,he,h1,h2⟩:=q2n T h;rw[h1,h2];exact mS T he
def bN(n:Net):Str:=aH n 0
structure bB(n:Net)(ss sd:Ò):Prop where
 oj:b9 sd
 mem:∀ x∈sd,x∈n.map (·.1)
 fst:bN n∉sd
 cut:∀ z,z∈ss↔dq n sd z
structure Tells(n:Net)(ss:Ò)(ls:List Bl):Prop where
 to:∀ e z,aI n e=some z->x0f ls (aH n e.1) (aH n (other n e).1) (decide (z∈ss))
 Qn:∀ l∈ls,∃ e z,aI n e=some z/\l=(aH n e.1,aH n (other n e).1,decide (z∈ss))
theorem Qo{n:Net}(T:aw n){ss sd:Ò}{ls:List Bl}(t:Tells n ss ls)(hc:∀ z,z∈ss↔dq n sd z){f x:Str}{b:Bool}(w:Way ls f x b):decide (x∈sd)=(decide (f∈sd) != b):=by
 have step:∀{x y:Str} {o:Bool},(x,y,o)∈ls->o=(decide (x∈sd) != decide (y∈sd)):=λ{x y o} h=>by
  obtain⟨e,z,he,hl⟩:=t.Qn _ h;have h1:x=aH n e.1:=BZ (·.1) hl;have h2:y=aH n (other n e).1:=BZ (·.2.1) hl;have h3:o=decide (z∈ss):=BZ (·.2.2) hl;rw[h1,h2,h3,Cn,CK,hc z];exact mS T he
 induction w with
 | here=>simp
 | @there x y b o w h ih=>
  rw[step h,ih];cases decide (f∈sd) <;> cases b <;> cases decide (y∈sd) <;> rfl
 | @back x y b o w h ih=>
  rw[step h,ih];cases decide (f∈sd) <;> cases b <;> cases decide (y∈sd) <;> rfl
def Qp{n:Net}(T:aw n){ss sd:Ò}{ls:List Bl}(t:Tells n ss ls)(h:bB n ss sd){x:Str}{b:Bool}(w:Way ls (bN n) x b):decide (x∈sd)=b:=by
 rw[Qo T t h.cut w,BR h.fst];simp
def jB{n:Net}{i:Nat}(h:i < n.length):aH n i∈n.map (·.1):=by
 rw[jf h];exact Al.mpr ⟨_,Bu h,rfl⟩
noncomputable def df(n:Net)(ss:Ò):List Bl:=(ends n).map λe=>(aH n e.1,aH n (other n e).1,decide ((aI n e).getD ⟨#[]⟩∈ss))
def sJ{n:Net}{ss:Ò}:Tells n ss (df n ss):=by
 refine⟨λe z h=> .inl (Al.mpr ⟨e,af.mpr ⟨z,h⟩,by rw[h];rfl⟩),λl hl=>?_⟩;obtain⟨e,he,q⟩:=Al.mp hl;obtain⟨z,hz⟩:=af.mp he;exact⟨e,z,hz,by rw[<- q,hz];rfl⟩
def k0q{n:Net}(T:aw n){ss sd:Ò}{ls:List Bl}(t:Tells n ss ls)(hs:b9 sd)(hm:∀ x∈sd,x∈n.map (·.1))(hc:∀ z,z∈ss↔dq n sd z){b:Bool}(w:Way ls (bN n) (bN n) b)(hb:bN n∈sd↔b=true):bB n ss sd:=by
 refine⟨hs,hm,λhf=>?_,hc⟩;have e:=Qo T t hc w;rw[hb.mp hf,BW hf]at e;cases e
def qe{n:Net}(T:aw n){e:End}{z:Str}(h:aI n e=some z):(other n e).1 < n.length:=cQ (dU T h).1
def k6w{n:Net}(T:aw n){ps qs:Ò}(h:∀ x∈n.map (·.1),x∈qs↔x∉ps)(z:Str):dq n ps z↔dq n qs z:=by
 have k:∀{e:End},aI n e=some z->(dq n ps z↔dq n qs z):=λ{e} he=>by
  rw[mS T he,mS T he];have a1:=h _<|jB<|cQ he;have a2:=h _<|jB<|qe T he
  by_cases h1:aH n e.1∈ps <;> by_cases h2:aH n (other n e).1∈ps <;> simp[a1,a2,h1,h2]
 constructor
 ·intro hc;obtain⟨e,he,_⟩:=hc;exact(k he).mp ⟨e,he,by assumption⟩
 ·intro hc;obtain⟨e,he,_⟩:=hc;exact(k he).mpr ⟨e,he,by assumption⟩
open PyProof.Rows (sortedS)
abbrev dh(kvs:List<|Key×V)(r:Nat)(b:Bool):Prop:=aD kvs (Sum.inl (r:Int))=some (.bl b)
structure cX(n:Net)(ss:Ò)(hr:Option<|Nat×Nat)(kvs:List<|Key×V)(lf:List Nat):Prop where
 gW:(kvs.map (·.1)).Nodup
 num:∀ k∈kvs.map (·.1),∃ r:Nat,k=Sum.inl (r:Int)/\r < n.length
 val:∀(r:Nat) v,aD kvs (Sum.inl (r:Int))=some v->∃ b,v = .bl b/\Way (df n ss) (bN n) (aH n r) b
 fst:∃ b,dh kvs 0 b
 uW:∀ r∈lf,∃ b,dh kvs r b
 yT:∀ x p,hr=some (x,p)->∃ b,dh kvs x b
 cls:∀ r b,dh kvs r b->r∈lf\/(∃ p,hr=some (r,p))\/∀ p z,aI n (r,p)=some z->dh kvs (other n (r,p)).1 (b != decide (z∈ss))
 Hj:∀ x p,hr=some (x,p)->∀ b,dh kvs x b->∀ p',p' < p->∀ z,aI n (x,p')=some z->dh kvs (other n (x,p')).1 (b != decide (z∈ss))
theorem Qq{kvs:List (Key×V)}{k:Key}(hg:aD kvs k=none):k∉kvs.map (·.1):=by
 induction kvs with
 | nil=>intro h;cases h
 | cons c r ih=>
  intro h
  by_cases hc:c.1=k
  ·rw[g9 hc]at hg;cases hg
  ·rw[gN hc]at hg
   rcases Aj.mp h with q | q
   ·exact hc q.symm
   ·exact ih hg q
theorem q0h{kvs:List (Key×V)}{k:Key}{v:V}(hg:aD kvs k=some v):k∈kvs.map (·.1):=by
 refine DK λhn=>?_
 induction kvs with
 | nil=>cases hg
 | cons c r ih=>
  rw[Bi,Aj]at hn;rw[gN λq=>hn<|.inl q.symm]at hg;exact ih hg λq=>hn<|.inr q
def cX.lt{n:Net}{ss:Ò}{hr:Option (Nat×Nat)}{kvs:List (Key×V)}{lf:List Nat}(I:cX n ss hr kvs lf){r:Nat}{b:Bool}(h:dh kvs r b):r < n.length:=by
 obtain⟨r',e,h'⟩:=I.num _<|q0h h;have:=Sum.inl.inj e;omega
def cX.len{n:Net}{ss:Ò}{hr:Option (Nat×Nat)}{kvs:List (Key×V)}{lf:List Nat}(I:cX n ss hr kvs lf):kvs.length<=n.length:=by
 have:=aV I.gW (b:=(List.range n.length).map λr=>Sum.inl ((r:Nat):Int)) λk hk=>by
  obtain⟨r,e,h⟩:=I.num k hk;exact Al.mpr ⟨r,Bt.mpr h,e.symm⟩
 rw[Aa,Aa,Em]at this;exact this
def Qr{a b:Nat}(h:a≠b):¬(Sum.inl (a:Int):Key)=Sum.inl (b:Int):=λq=>h<|by have:=Sum.inl.inj q;omega
def cX.start{n:Net}{ss:Ò}(h0:0 < n.length):cX n ss none (putK [] (Sum.inl 0)<|.bl false) [0]:=by
 have hv:∀ r:Nat,aD (putK ([]:List<|Key×V) (Sum.inl 0)<|.bl false) (Sum.inl (r:Int))=if r=0 then some (.bl false)else none:=λr=>by
  rw[dz]
  by_cases h:r=0
  ·subst h;rfl
  ·rw[BL h,BL λq=>h<|by have:=Sum.inl.inj q;omega];rfl
 have Qs:dh (putK ([]:List<|Key×V) (Sum.inl 0)<|.bl false) 0 false:=by
  show aD _ _=_;rw[hv,BP rfl]
 refine⟨by show([Sum.inl 0]:List Key).Nodup;simp,λk hk=>⟨0,by simpa[putK]using hk,h0⟩,λr v h=>?_,⟨false,Qs⟩,λr hr=>⟨false,by rw[Ad.mp hr];exact Qs⟩,λx p h=>(by cases h),λr b h=>?_,λx p h=>(by cases h)⟩
 ·rw[hv]at h
  by_cases c:r=0
  ·rw[BP c]at h;cases h;subst c;exact⟨false,rfl,.here⟩
  ·rw[BL c]at h;cases h
 ·have h:aD _ _=_:=h;rw[hv]at h
  by_cases c:r=0
  ·exact .inl<|Ad.mpr c
  ·rw[BL c]at h;cases h
def cX.pop{n:Net}{ss:Ò}{kvs:List (Key×V)}{lf:List Nat}{h:Nat}(I:cX n ss none kvs<|lf++[h]):cX n ss (some (h,0)) kvs lf:=by
 refine⟨I.gW,I.num,I.val,I.fst,λr hr=>I.uW r<|Ba _ hr,λx p e=>?_,λr b hb=>?_,λx p e b hb p' km=>?_⟩
 ·cases e;exact I.uW h<|Ax _<|Ad.mpr rfl
 ·rcases I.cls r b hb with c | c | c
  ·rcases Am.mp c with c | c
   ·exact .inl c
   ·exact .inr<|.inl ⟨0,by rw[Ad.mp c]⟩
  ·obtain⟨p,e⟩:=c;cases e
  ·exact .inr<|.inr c
 ·cases e;exact absurd km<|Eb _
def cX.close{n:Net}{ss:Ò}{kvs:List (Key×V)}{lf:List Nat}{h p:Nat}(I:cX n ss (some (h,p)) kvs lf)(hp:(row n h).length<=p):cX n ss none kvs lf:=by
 refine⟨I.gW,I.num,I.val,I.fst,I.uW,λx p e=>(by cases e),λr b hb=>?_,λx p e=>(by cases e)⟩
 rcases I.cls r b hb with c | c | c
 ·exact .inl c
 ·obtain⟨p',e⟩:=c;cases e;exact .inr<|.inr λp' z hz=>I.Hj h p rfl b hb p' (Be (gy hz) hp) z hz
 ·exact .inr<|.inr c
def cX.step{n:Net}{ss:Ò}{kvs:List (Key×V)}{lf:List Nat}{h p:Nat}(I:cX n ss (some (h,p)) kvs lf){z:Str}{b:Bool}(hz:aI n (h,p)=some z)(hb:dh kvs h b)(ht:dh kvs (other n (h,p)).1<|b != decide (z∈ss)):cX n ss (some (h,p+1)) kvs lf:=by
 refine⟨I.gW,I.num,I.val,I.fst,I.uW,λx q e=>?_,λr c hc=>?_,λx q e c hc p' km y hy=>?_⟩
 ·cases e;exact⟨b,hb⟩
 ·rcases I.cls r c hc with k | k | k
  ·exact .inl k
  ·obtain⟨q,e⟩:=k;cases e;exact .inr<|.inl ⟨_,rfl⟩
  ·exact .inr<|.inr k
 ·cases e
  by_cases k:p' < p
  ·exact I.Hj h p rfl c hc p' k y hy
  ·have:p'=p:=by omega
   subst this;rw[hz]at hy;cases hy;have hc:aD _ _=_:=hc;rw[hb]at hc;cases hc;exact ht
def cX.way{n:Net}{ss:Ò}{kvs:List (Key×V)}{lf:List Nat}{hr:Option (Nat×Nat)}(I:cX n ss hr kvs lf){r p:Nat}{z:Str}{b:Bool}(hz:aI n (r,p)=some z)(hb:dh kvs r b):Way (df n ss) (bN n) (aH n (other n (r,p)).1) (b != decide (z∈ss)):=by
 obtain⟨b',e,w⟩:=I.val r _ hb;cases e
 rcases (sJ (n:=n) (ss:=ss)).to (r,p) z hz with t | t
 ·exact .there w t
 ·exact .back w t
def cX.new{n:Net}(T:aw n){ss:Ò}{kvs:List (Key×V)}{lf:List Nat}{h p:Nat}(I:cX n ss (some (h,p)) kvs lf){z:Str}{b:Bool}(hz:aI n (h,p)=some z)(hb:dh kvs h b) (hn:aD kvs (Sum.inl ((other n (h,p)).1:Int))=none) :
  cX n ss (some (h,p+1)) (putK kvs (Sum.inl ((other n (h,p)).1:Int))<|.bl<|b != decide (z∈ss)) (lf++[(other n (h,p)).1]):=by
 have w:=I.way hz hb;have aY:=qe T hz;have Hk:=Qq hn;have eQ:dh (putK kvs (Sum.inl ((other n (h,p)).1:Int))<|.bl<|b != decide (z∈ss)) (other n (h,p)).1 (b != decide (z∈ss)):=by
  show aD _ _=_;rw[dz,BP rfl]
 have up:∀{r:Nat} {c:Bool},dh kvs r c->dh (putK kvs (Sum.inl ((other n (h,p)).1:Int))<|.bl<|b != decide (z∈ss)) r c:=λ{r c} hc=>by
  show aD _ _=_;rw[dz,BL λq=>?_]
  ·exact hc
  ·have hc:aD _ _=_:=hc;rw[q,hn]at hc;cases hc
 have dn:∀{r:Nat} {c:Bool},dh (putK kvs (Sum.inl ((other n (h,p)).1:Int))<|.bl<|b != decide (z∈ss)) r c->r=(other n (h,p)).1\/dh kvs r c:=λ{r c} hc=>by
  have hc:aD _ _=_:=hc;rw[dz]at hc
  by_cases q:r=(other n (h,p)).1
  ·exact .inl q
  ·rw[BL<|Qr q]at hc;exact .inr hc
 have I':cX n ss (some (h,p)) (putK kvs (Sum.inl ((other n (h,p)).1:Int))<|.bl<|b != decide (z∈ss)) (lf++[(other n (h,p)).1]):=by
  refine⟨?_,λk hk=>?_,λr v hv=>?_,?_,λr hr=>?_,λx q e=>?_,λr c hc=>?_,λx q e c hc p' km y hy=>?_⟩
  ·rw[Hf,BL Hk];exact nJ I.gW Hk
  ·rw[Hf,BL Hk]at hk
   rcases Am.mp hk with hk | hk
   ·exact I.num k hk
   ·exact⟨_,Ad.mp hk,aY⟩
  ·rw[dz]at hv
   by_cases q:r=(other n (h,p)).1
   ·rw[BP<|by rw[q]]at hv;cases hv;exact⟨_,rfl,by rw[q];exact w⟩
   ·rw[BL<|Qr q]at hv;exact I.val r v hv
  ·obtain⟨c,hc⟩:=I.fst;exact⟨c,up hc⟩
  ·rcases Am.mp hr with hr | hr
   ·obtain⟨c,hc⟩:=I.uW r hr;exact⟨c,up hc⟩
   ·rw[Ad.mp hr];exact⟨_,eQ⟩
  ·obtain⟨c,hc⟩:=I.yT x q e;exact⟨c,up hc⟩
  ·rcases dn hc with q | hc
   ·exact .inl<|Ax _<|by rw[q];exact Ad.mpr rfl
   ·rcases I.cls r c hc with k | k | k
    ·exact .inl<|Ba _ k
    ·exact .inr<|.inl k
    ·exact .inr<|.inr λp' y hy=>up<|k p' y hy
  ·rcases dn hc with q' | hc
   ·obtain⟨c',bS⟩:=I.yT x q e;rw[q']at bS;have:aD _ _=_:=bS;rw[hn]at this;cases this
   ·exact up<|I.Hj x q e c hc p' km y hy
 exact I'.step hz (up hb) eQ
def cX.bad{n:Net}(T:aw n){ss:Ò}{kvs:List (Key×V)}{lf:List Nat}{hr:Option (Nat×Nat)}(I:cX n ss hr kvs lf){r p:Nat}{z:Str}{b c:Bool}(hz:aI n (r,p)=some z)(hb:dh kvs r b)(hc:dh kvs (other n (r,p)).1 c)(bn:c≠(b != decide (z∈ss))):∀ sd,¬ bB n ss sd:=λsd hs=>by
 obtain⟨c',e,w⟩:=I.val _ _ hc;cases e;have e1:=Qp T sJ hs w;have e2:=Qp T sJ hs<|I.way hz hb;exact bn<|by rw[<- e1,e2]
def sK{n:Net}(hn:(n.map (·.1)).Nodup){i j:Nat}(hi:i < n.length)(hj:j < n.length)(h:aH n i=aH n j):i=j:=by
 rw[jf hi,jf hj]at h;have:=(Cg.mp hn);rw[Bo]at this
 rcases RB i j with q | q | q
 ·exact absurd (by rw[Dq,Dq];exact h)<|this i j (by simpa using hi) (by simpa using hj) q
 ·exact q
 ·exact absurd (by rw[Dq,Dq];exact h.symm)<|this j i (by simpa using hj) (by simpa using hi) q
def cX.whole{n:Net}(T:aw n)(hg:dA n)(h0:0 < n.length)(hn:(n.map (·.1)).Nodup){ss sd:Ò}{kvs:List (Key×V)}(I:cX n ss none kvs [])(uX:∀ z∈ss,z∈ag n)(hs:b9 sd)(hm:∀ x,x∈sd↔∃ r:Nat,dh kvs r true/\x=aH n r):bB n ss sd:=by
 have ok:∀ r b,dh kvs r b->∀ p z,aI n (r,p)=some z->dh kvs (other n (r,p)).1 (b != decide (z∈ss)):=λr b hb=>by
  rcases I.cls r b hb with c | c | c
  ·cases c
  ·obtain⟨p,e⟩:=c;cases e
  ·exact c
 have all:∀ r,r < n.length->∃ b,dh kvs r b:=λr hr=>by
  have:=hg (λx=>∃ i,i < n.length/\aH n i=x/\∃ b,dh kvs i b) ⟨n[0],Bu h0,0,h0,jf h0,I.fst⟩ (λr hr s hs t tr ts ⟨i,hi,e,b,hb⟩=>?_) n[r]<|Bu hr
  ·obtain⟨i,hi,e,hb⟩:=this;rw[<- jf hr]at e;rw[<- sK hn hi hr e];exact hb
  ·obtain⟨k,hk,rfl⟩:=Cy.mp hr;obtain⟨j,hj,rfl⟩:=Cy.mp hs;rw[<- jf hk]at e;have:=sK hn hi hk e;subst this;obtain⟨p,hp⟩:=Br tr;obtain⟨q,hq⟩:=Br ts;have h1:aI n (i,p)=some t:=by show(row n i)[p]?=_;rw[iJ hi];exact hp
   have h2:aI n (j,q)=some t:=by show(row n j)[q]?=_;rw[iJ hj];exact hq
   refine⟨j,hj,jf hj,?_⟩
   rcases (li T h1).mp h2 with e | e
   ·have:j=i:=BZ (·.1) e;subst this;exact⟨b,hb⟩
   ·have:=ok i b hb p t h1;rw[<- e]at this;exact⟨_,this⟩
 have qf:∀ r b,dh kvs r b->decide (aH n r∈sd)=b:=λr b hb=>by
  rw[Cn,CK,hm]
  constructor
  ·rintro ⟨r',iK,e⟩;have:=sK hn (I.lt hb) (I.lt iK) e;subst this;have iK:aD _ _=_:=iK;rw[hb]at iK;cases iK;rfl
  ·rintro rfl;exact⟨r,hb,rfl⟩
 have hc:∀ z,z∈ss↔dq n sd z:=λz=>by
  have k:∀{e:End},aI n e=some z->(z∈ss↔dq n sd z):=λ{e} he=>by
   obtain⟨i,p⟩:=e;obtain⟨b,hb⟩:=all i<|cQ he;rw[mS T he,qf i b hb,qf _ _<|ok i b hb p z he]
   by_cases h:z∈ss <;> cases b <;> simp[h]
  constructor
  ·intro h;obtain⟨e,he⟩:∃ e,e∈pos n z:=by
    cases hp:pos n z with
    | nil=>exact absurd hp<|cR.mp<|uX z h
    | cons a r=>exact⟨a,Ae ..⟩
   exact(k<|aK.mp he).mp h
  ·intro h;obtain⟨e,he,_⟩:=id h;exact(k he).mpr h
 obtain⟨b,hb⟩:=I.fst;obtain⟨b',e,w⟩:=I.val 0 _ hb;cases e;refine k0q T sJ hs (λx hx=>?_) hc w ?_
 ·obtain⟨r,hr,e⟩:=(hm x).mp hx;rw[e];exact jB<|I.lt hr
 ·have:=qf 0 b hb;rw[<- this,CK];rfl
open PyProof.Rows (sortedS)
theorem k41(a b c:Ò)(h:∀ z,z∈c↔(if z∈a then z∉b else z∈b)):∀ zs:Ò,(zs.filter λz=>c.contains z).length % 2=((zs.filter λz=>a.contains z).length+(zs.filter λz=>b.contains z).length) % 2
 | []=>rfl
 | z :: r=>by
  have ih:=k41 a b c h r;have hz:=h z;have ca:=λ(l:Ò)=>(Ce (as:=l) (a:=z));simp only[Db]
  by_cases ha:z∈a <;> by_cases hb:z∈b
  ·have hc:z∉c:=λq=>by have:=hz.mp q;rw[BP ha]at this;exact this hb
   rw[BP<|(ca a).mpr ha,BP<|(ca b).mpr hb,BL λq=>hc<|(ca c).mp q,Ap,Ap];omega
  ·have hc:z∈c:=hz.mpr (by rw[BP ha];exact hb);rw[BP<|(ca a).mpr ha,BL λq=>hb<|(ca b).mp q,BP<|(ca c).mpr hc,Ap,Ap];omega
  ·have hc:z∈c:=hz.mpr (by rw[BL ha];exact hb);rw[BL λq=>ha<|(ca a).mp q,BP<|(ca b).mpr hb,BP<|(ca c).mpr hc,Ap,Ap];omega
  ·have hc:z∉c:=λq=>by have:=hz.mp q;rw[BL ha]at this;exact hb this
   rw[BL λq=>ha<|(ca a).mp q,BL λq=>hb<|(ca b).mp q,BL λq=>hc<|(ca c).mp q];exact ih
def gF{n:Net}{ss:Ò}:eI n ss=true↔∀ r∈n,(r.2.filter λz=>ss.contains z).length % 2=0:=by
 unfold eI;rw[Dw];exact⟨λh r hr=>by simpa using h r hr,λh r hr=>by simpa using h r hr⟩
theorem Qt(k:Nat)(z:Str):∀(ts:Ò) (p:Nat),(bL (bw k ts p) z).length=ts.count z
 | [],p=>rfl
 | t :: r,p=>by
  have ih:=Qt k z r<|p+1;have e:bw k (t :: r) p=(t,(k,p)) :: bw k r (p+1):=by unfold bw;rfl
  rw[e];unfold bL at ih ⊢;rw[Db,Da]
  by_cases h:t=z
  ·rw[BP<|BW h,Bi,Ap,ih,BP<|by simpa using h]
  ·rw[BL λq=>h<|BX q,ih,BL<|by simpa using h];rfl
def k52(a b:List<|Str×End)(z:Str):bL (a++b) z=bL a z++bL b z:=by
 unfold bL;rw[Cr,Ak]
def Qu{k:Nat}{ts:Ò}{p:Nat}{z:Str}{e:End}(h:e∈bL (bw k ts p) z):e.1=k:=by
 unfold bL at h;obtain⟨x,hx,rfl⟩:=Al.mp h;obtain⟨y,e⟩:=x;exact(bK.mp (Bh.mp hx).1).1
theorem Qv(ps:Ò)(f:Nat->Str)(z:Str):∀(m:Net) (k:Nat),(∀(i:Nat) r,m[i]?=some r->f (k+i)=r.1)->((bL (fz k m) z).filter λe=>decide (f e.1∈ps)).length=(ag<|m.filter λr=>decide (r.1∈ps)).count z
 | [],k,_=>rfl
 | r :: m,k,h=>by
  have ih:=Qv ps f z m (k+1) λi s hs=>by
   have:=h (i+1) s (by simpa using hs);rw[<- this]
   congr 1
   omega
  have e:fz k (r :: m)=bw k r.2 0++fz (k+1) m:=rfl;have hk:f k=r.1:=h 0 r rfl;rw[e,k52,Cr,Af,ih,Db]
  by_cases hr:r.1∈ps
  ·rw[BP<|BW hr];have:ag (r :: m.filter λr=>decide (r.1∈ps))=r.2++ag (m.filter λr=>decide (r.1∈ps)):=by unfold ag;rfl
   rw[this,Ep,Gu.mpr (λe he=>by rw[Qu he,hk];exact BW hr),Qt]
  ·rw[BL λq=>hr<|BX q];have:(bL (bw k r.2 0) z).filter (λe=>decide (f e.1∈ps))=[]:=Gd.mpr λe he q=>by
    rw[Qu he,hk]at q;exact hr<|BX q
   rw[this];simp
def q6t{n:Net}(T:aw n)(ps:Ò)(z:Str):dq n ps z↔(ag<|n.filter λr=>decide (r.1∈ps)).count z % 2=1:=by
 have e:=Qv ps (aH n) z n 0 λi r h=>by
  rw[Ey];unfold aH;rw[h];rfl
 rw[<- e];show dq n ps z↔((pos n z).filter λe=>decide (aH n e.1∈ps)).length % 2=1
 by_cases hz:z∈ag n
 ·obtain⟨a,ha⟩:∃ a,a∈pos n z:=by
   cases hp:pos n z with
   | nil=>exact absurd hp<|cR.mp hz
   | cons a r=>exact⟨a,Ae ..⟩
  obtain⟨x,y,hp,FR,hh⟩:=pJ T<|aK.mp ha;have hl:oh n (z,aH n x.1,aH n y.1):=⟨x,y,hp,rfl,rfl⟩;rw[show dq n ps z↔_ from yS (ps:=ps) T hl,hp]
  by_cases h1:aH n x.1∈ps <;> by_cases h2:aH n y.1∈ps <;> simp[h1,h2]
 ·have hp:pos n z=[]:=DK λh=>hz<|cR.mpr h;rw[hp];exact⟨λh=>absurd (uV h) hz,λh=>by cases h⟩
theorem Qw{a:Ò}(hn:a.Nodup):∀ l:Ò,(l.filter λz=>a.contains z).length=(a.map λz=>l.count z).sum
 | []=>by
  have:∀ a:Ò,(a.map λz=>([]:Ò).count z).sum=0:=λa=>by
   induction a with
   | nil=>rfl
   | cons x r ih=>rw[Bi,Gk,ih];rfl
  rw[this];rfl
 | y :: l=>by
  have ih:=Qw hn l;have key:∀ a:Ò,(a.map λz=>(y :: l).count z).sum=(a.map λz=>l.count z).sum+a.count y:=λa=>by
   induction a with
   | nil=>rfl
   | cons x r ih=>
    rw[Bi,Gk,ih,Bi,Gk,Da,Da]
    by_cases h:y=x
    ·rw[BP (by simp[h]),BP<|by simp[h]];omega
    ·rw[BL (by simpa using h),BL<|by simpa using λq=>h<|Eq.symm q];omega
  rw[key,Db,<- ih,hn.count]
  by_cases h:y∈a
  ·rw[BP<|Ce.mpr h,BP h,Ap]
  ·rw[BL λq=>h<|Ce.mp q,BL h];rfl
def uY{n:Net}(T:aw n){ss:Ò}(hn:ss.Nodup)(hm:∀ z∈ss,z∈ag n):2 * ss.length<=(ag n).length:=by
 have h:=Qw hn<|ag n;have e:∀ l:Ò,(∀ z∈l,z∈ag n)->(l.map λz=>(ag n).count z).sum=2 * l.length:=λl=>by
  induction l with
  | nil=>intro _;rfl
  | cons x r ih=>
   intro hl;rw[Bi,Gk,ih λz hz=>hl z<|Ah _ hz,T x<|hl x<|Ae ..,Ap];omega
 rw[e ss hm]at h;rw[<- h];exact Dl _ _
structure Hl(n:Net)(cs:Ò):Prop where
 oj:b9 cs
 cut:∃ ps,∀ z,z∈cs↔dq n ps z
def q7a{x y:Str}(h:x≠y):x.cps.toList < y.cps.toList\/y.cps.toList < x.cps.toList:=by
 by_cases q:x.cps.toList < y.cps.toList
 ·exact .inl q
 ·rcases Gn.mp (List.not_lt.mp q)with q | q
  ·exact .inr q
  ·exact absurd (bF.fw q).symm h
theorem Qx(x:Str):∀ sd:Ò,b9 sd->∃ gX,b9 gX/\∀ y,y∈gX↔y=x\/y∈sd
 | [],_=>⟨[x],Fy _ _,λy=>by simp⟩
 | z :: r,h=>by
  have h:=Cs.mp h
  by_cases e:x=z
  ·subst e;exact⟨x :: r,Cs.mpr h,λy=>by simp⟩
  ·rcases q7a e with q | q
   ·refine⟨x :: z :: r,Cs.mpr ⟨λy hy=>?_,Cs.mpr h⟩,λy=>Aj⟩
    rcases Aj.mp hy with rfl | hy
    ·exact q
    ·exact Gj q<|h.1 y hy
   ·obtain⟨gX,hs,hm⟩:=Qx x r h.2;refine⟨z :: gX,Cs.mpr ⟨λy hy=>?_,hs⟩,λy=>?_⟩
    ·rcases (hm y).mp hy with rfl | hy
     ·exact q
     ·exact h.1 y hy
    ·rw[Aj,hm y,Aj];exact⟨λk=>by rcases k with k | k | k <;> simp[k],λk=>by rcases k with k | k | k <;> simp[k]⟩
theorem qg:∀ l:Ò,∃ sd,b9 sd/\∀ x,x∈sd↔x∈l
 | []=>⟨[],List.Pairwise.nil,λ_=>Iff.rfl⟩
 | x :: r=>by
  obtain⟨sd,hs,hm⟩:=qg r;obtain⟨gX,i8,hm'⟩:=Qx x sd hs;exact⟨gX,i8,λy=>by rw[hm' y,hm y,Aj]⟩
def Qy{n:Net}(T:aw n)(h0:0 < n.length){cs:Ò}(h:Hl n cs):∃ sd,bB n cs sd:=by
 obtain⟨ps,hc⟩:=h.cut
 by_cases hf:bN n∈ps
 ·obtain⟨sd,hs,hm⟩:=qg ((n.map (·.1)).filter λx=>!decide (x∈ps));have hm:∀ x,x∈sd↔x∈n.map (·.1)/\x∉ps:=λx=>by
   rw[hm x,Bh,KY,GZ]
  refine⟨sd,hs,λx hx=>((hm x).mp hx).1,λq=>((hm _).mp q).2 hf,λz=>(hc z).trans<|k6w T (λx hx=>?_) z⟩;rw[hm x];exact⟨λq=>q.2,λq=>⟨hx,q⟩⟩
 ·obtain⟨sd,hs,hm⟩:=qg ((n.map (·.1)).filter λx=>decide (x∈ps));have hm:∀ x,x∈sd↔x∈n.map (·.1)/\x∈ps:=λx=>by
   rw[hm x,Bh,CK]
  refine⟨sd,hs,λx hx=>((hm x).mp hx).1,λq=>hf ((hm _).mp q).2,λz=>(hc z).trans ?_⟩;have k:∀{e:End},aI n e=some z->(dq n ps z↔dq n sd z):=λ{e} he=>by
   rw[mS T he,mS T he];have a1:=hm<|aH n e.1;have a2:=hm<|aH n (other n e).1;have b1:=jB<|cQ he;have b2:=jB<|qe T he;have c1:decide (aH n e.1∈sd)=decide (aH n e.1∈ps):=by rw[Cn,CK,CK,a1];exact⟨λq=>q.2,λq=>⟨b1,q⟩⟩
   have c2:decide (aH n (other n e).1∈sd)=decide (aH n (other n e).1∈ps):=by rw[Cn,CK,CK,a2];exact⟨λq=>q.2,λq=>⟨b2,q⟩⟩
   rw[c1,c2]
  constructor
  ·intro q;obtain⟨e,he,_⟩:=id q;exact(k he).mp q
  ·intro q;obtain⟨e,he,_⟩:=id q;exact(k he).mpr q
def HF(n:Net):Prop:=dA n/\Fl n
def q9h{nm:Str}:HF [(nm,[])]:=⟨q1c _,q90⟩
def k9h{n:Net}{c:End}{z pt:Str}(T:aw n)(F:Full n)(hz:z∉ag n)(hc:eW n c) (hp:(ag<|ins n c z++[(pt,[z])]).Perm<|z :: z :: ag n) (P:HF n):HF (ins n c z++[(pt,[z])]):=
 ⟨k81 (Hh P.1)<|q3y hc.1,k8e T F hz hc hp P.2⟩
def q5j{n:Net}{k1 k2:End}{z:Str}(T:aw n)(F:Full n)(hz:z∉ag n)(h1:eW n k1)(h2:eW n k2) (hp:(ag<|ins (ins n k1 z) k2 z).Perm<|z :: z :: ag n) (ord:k2=k1\/sh k1 k2=k2) (same:(∃ k,it (step n) k k1=k2)\/∃ k,it (step n) k k2=k1) (P:HF n):HF (ins (ins n k1 z) k2 z):=
 ⟨Hh<|Hh P.1,q47 T F hz h1 h2 hp ord same P.2⟩
def q64{n n2 n0:Net}{j i:Nat}(hj:j < n.length)(hi:i < max 1 (row n j).length)(T0:aw n0)(pt:(ag n++ag n2).Perm<|ag n0)
  (gE:(ag (n.eraseIdx j)++ag (n2++[(n[j].1,(row n j).drop i++(row n j).take i)])).Perm<|ag n0) (P:HF<|n++n2):HF (n.eraseIdx j++(n2++[(n[j].1,(row n j).drop i++(row n j).take i)])):=by
 refine⟨Qm (λr hr=>?_) (λx hx=>?_) P.1,q66 hj hi T0 pt gE P.2⟩
 ·rcases Am.mp hr with hx | hx
  ·rcases (bF.bO n j hj).symm.mem_iff.mp hx |> Aj.mp with q | q
   ·refine⟨(n[j].1,(row n j).drop i++(row n j).take i),Ax _<|Ax _<|Ad.mpr rfl,by rw[q],λt ht=>?_⟩;refine(F0 (row n j) i).mem_iff.mpr ?_;rw[iJ hj,<- q];exact ht
   ·exact⟨r,Ba _ q,rfl,λt h=>h⟩
  ·exact⟨r,Ax _<|Ba _ hx,rfl,λt h=>h⟩
 ·rcases Am.mp hx with hx | hx
  ·exact⟨x,Ba _<|Es hx,rfl⟩
  ·rcases Am.mp hx with hx | hx
   ·exact⟨x,Ax _ hx,rfl⟩
   ·rw[Ad]at hx;exact⟨n[j],Ba _<|Bu hj,by rw[hx]⟩
theorem uZ(s:Str->Bool):∀ l:Ò,ao (l.map s)=decide ((l.filter s).length % 2=1)
 | []=>rfl
 | x :: l=>by
  show(s x ^^ ao (l.map s))=_;rw[uZ s l,Db];cases h:s x
  ·rw[BL (by decide),Fj]
  ·rw[BP rfl,Ap,Bool.true_xor,<- decide_not];exact decide_eq_decide.mpr<|by omega
def k6o{n:Net}{s:Str->Bool}{ss:Ò}(h:eG n s)(hs:∀ z∈ag n,ss.contains z=s z):eI n ss=true:=gF.mpr λr hr=>by
 obtain⟨i,hi,rfl⟩:=Cy.mp hr;have:=h i;rw[uZ,iJ hi]at this;have e:(n[i].2.filter λz=>ss.contains z)=n[i].2.filter s:=List.filter_congr λz hz=>hs z<|Gi.mpr ⟨n[i],hr,hz⟩;rw[e];have:=HS this;omega
theorem iN{α:Type}:∀ l:List α,ao (l.map λ_=>false)=false
 | []=>rfl
 | _ :: l=>by show(false ^^ ao _)=false;rw[iN l];rfl
theorem Hm(x:Nat)(e:End):∀ m,ao ((List.range m).map λp=>decide ((x,p)=e))=decide (x=e.1/\e.2 < m)
 | 0=>by simp[ao]
 | m+1=>by
  rw[Do,Ak,mP,Hm x e m];show(decide (x=e.1/\e.2 < m) ^^ (decide ((x,m)=e) ^^ false))=_;rw[Fk];obtain⟨a,b⟩:=e
  by_cases h:x=a
  ·by_cases h2:b=m
   ·subst h;subst h2;simp
   ·have e1:((x,m)=(a,b))=False:=by simp[h];omega
    rw[BR (p:=(x,m)=(a,b)) (by rw[e1];exact id),Fk];exact decide_eq_decide.mpr ⟨λq=>⟨q.1,by have:=q.2;omega⟩,λq=>⟨q.1,by have:=q.2;show b < m;omega⟩⟩
  ·rw[BR λq=>h q.1,BR λq=>h<|BZ Prod.fst q,BR λq=>h q.1];rfl
def Qz{n:Net}(T:aw n){e:End}{t:Str}(h:aI n e=some t)(x:Nat):ao ((row n x).map λy=>decide (y=t))=(decide (x=e.1) ^^ decide (x=(other n e).1)):=by
 have o:=dU T h;rw[Qj n x (λy=>decide (y=t)) (λa=>decide (a=e) ^^ decide (a=other n e)) λp z hz=>?_]
 ·rw[ic (λp=>decide ((x,p)=e)) λp=>decide ((x,p)=other n e),Hm,Hm];have l1:=gy h;have l2:=gy o.1
  congr 1
  ·exact decide_eq_decide.mpr ⟨λq=>q.1,λq=>⟨q,by rw[q];exact l1⟩⟩
  ·exact decide_eq_decide.mpr ⟨λq=>q.1,λq=>⟨q,by rw[q];exact l2⟩⟩
 ·have hz:aI n (x,p)=some z:=hz
  by_cases q:z=t
  ·subst q
   rcases (li T h).mp hz with k | k
   ·rw[k,BW rfl,BW rfl,BR<|CG o.2.2];rfl
   ·rw[k,BW rfl,BW rfl,BR o.2.2];rfl
  ·have h1:((x,p):End)≠e:=λk=>by rw[k,h]at hz;exact q (Option.some.inj hz).symm
   have h2:((x,p):End)≠other n e:=λk=>by rw[k,o.1]at hz;exact q (Option.some.inj hz).symm
   rw[BR q,BR h1,BR h2];rfl
end Nt
namespace E6
open PySem L2 Nt bA
def Hn:Sp:=λvs H Q _=>∃(R:Addr) (as:Ð) (n:Net) (b:Int) (z pt:Str),vs=[.ref R,.int b,.str z,.str pt]/\ai H R as n/\aw n/\Full n/\z∉ag n/\n.length<=100/\(ag n).length<=100 /\
 ∀ i qh n' H',ai H' R qh n'->pX H H' (R :: as.map (·.2))->(∀ a∈qh,a∈as\/H a.2=none)->(ag n').Perm (z :: z :: ag n)->(n'.map (·.1)=n.map (·.1)\/n'.map (·.1)=n.map (·.1)++[pt])->Full n'->(HF n->HF n')->Q (.int i) H'
section
variable{P:Program}{w:World}{K:PySem.W.Frag}{mg:Ó}{base:Heap}
abbrev NP:Ò:=["_law_rows","_law_big_here","_law_tie","_law_point","_law_corners","_law_r","_law_place","_law_one","_law_kind","_law_face_here","_law_other_here","_law_spot"]
def om:ak NP ["_law_rows","_law_big_here","_law_tie","_law_point"] (aU pQ):=⟨rfl,rfl,rfl,by decide +kernel,rfl,by decide +kernel,by decide +kernel⟩
def QA{ts:List Addr}{j:Nat}{t:Addr}(h:ts[j]?=some t):dN (ts.map V.ref) (j:Int)=some (.ref t):=rp<|by rw[Ai,h];rfl
def q7p{f:Addr}{fd:FuncData}(F:bE K "_law_put" "_law_put" pQ f fd)(T:Txt mg)
  (GS:aQ P w K mg base 3 "_law_seats" ["_law_rows"] pV)
  (GF:aQ P w K mg base 3 "_law_face" ["_law_rows","_law_seats_here","_law_end"] FO) :
  aG P w K mg base bH 4 f fd ["_law_rows","_law_big_here","_law_tie","_law_point"] Hn:=by
 refine F.gb om (λvs H Q E h=>?_) λb0 H vs Q E hr h=>?_
 ·obtain⟨R,as,n,b,z,pt,rfl,_⟩:=h;rfl
 obtain⟨R,as,n,b,z,pt,rfl,hR,hT,hF,hz,hn,htn,q⟩:=h;have nd:=om.nd;have hu:=hr.hU;have bU:=hR.len;show Run _ _ _ [some<|.ref R,some<|.int b,some<|.str z,some<|.str pt,none,none,none,none,none,none,none,none] H;refine aX 4 nd<|dF<|ax ⟨Z0,λlc QE=>?_⟩;have g0:=aS QE<|.lst [];refine kS T.range (b4 dE T.len DR<|ah<|ae 0<|ax ⟨R,_,rfl,.inl<|aq.of<|g0 _ _ hR.lst,_,rfl,by omega,by rw[Aa];omega,?_⟩);rw[Aa,bU,Bd];refine kU (λr σ H3=>∃(ts:List Addr) (cs:List Nt.End) (u1 u2:Option V),aj H H3/\H3 lc=some (.lst<|ts.map V.ref)/\Pd H3 ts cs/\(∀ c∈cs,eW n c)/\(0 < r->cs≠[])/\cs.length<=101 * r/\σ=[some<|.ref R,some<|.int b,some<|.str z,some<|.str pt,some<|.ref lc,u1,u2,none,none,none,none,none]) ⟨[],[],_,_,g0,aA,.nil,λc hc=>(nomatch hc),λh=>absurd h (by decide),An _,rfl⟩ ?_ ?_
 ·rintro r σ H3 hi ⟨ts,cs,u1,u2,sH,el,ep,hc,bn,hlen,rfl⟩;rw[Du];refine bg 5 nd ?_;obtain⟨a,ea,cW,et,ell,er⟩:=(hR.same sH).at hi;have fE:=iD n r;refine kS T.range<|b4 (MG rfl) T.max UG<|ah<|aC<|ah<|b4 dE T.len DR<|ah<|aP bt<|aP cF<|ae 0<|ae 5 ⟨R,_,_,.ref a.1,rfl,rfl,aq.of<|sH _ _ hR.lst,cW,aC ⟨a.1,_,_,.ref a.2,rfl,rfl,aJ.of et,rfl,ax ⟨a.2,_,rfl,.inl<|aq.of ell,?_⟩⟩⟩;rw[Aa];have em:(if((row n r).length:Int) > 1 then((row n r).length:Int)else 1)=((max 1 (row n r).length:Nat):Int):=by
   split <;> omega
  refine ax ⟨1,_,rfl,((max 1 (row n r).length:Nat):Int),by rw[em],by omega,by omega,?_⟩;rw[Bd];refine kU (λp σ H4=>∃(ts:List Addr) (cs:List Nt.End) (u2:Option V),aj H H4/\H4 lc=some (.lst<|ts.map V.ref)/\Pd H4 ts cs/\(∀ c∈cs,eW n c)/\(0 < r+p->cs≠[])/\cs.length<=101 * r+p/\σ=[some<|.ref R,some<|.int b,some<|.str z,some<|.str pt,some<|.ref lc,some<|.int (r:Int),u2,none,none,none,none,none]) ⟨ts,cs,_,sH,el,ep,hc,bn,hlen,rfl⟩ ?_ ?_
  ·rintro p σ H4 hp ⟨ts,cs,u2,sH,el,ep,hc,bn,hlen,rfl⟩;rw[Du];refine bg 6 nd ?_;refine fM<|j4<|ae 4 ⟨lc,rfl,⟨_,el⟩,dR<|ah<|ae 5<|ah<|ae 6<|ax ⟨Z2,λt ht=>?_⟩⟩;have mG:lc≠t:=bq el ht;have s2:=aS ht<|Tp (r,p);have Ho:=ep.length;refine⟨ts.map V.ref,by rw[av mG];exact el,by rw[Aa];exact b5 (by omega),?_⟩;refine aW ⟨ts++[t],cs++[(r,p)],_,fb (sH.trans s2) QE,by rw[aA,Ak];rfl,?_,λc h=>?_,λ_=>by simp,by rw[Af];simp;omega,rfl⟩
   ·refine Pd.append (ep.keep λx e h=>?_)<|.cons ?_ .nil
    ·rw[av<|uC h el];exact s2 _ _ h
    ·rw[av mG.symm,aA]
   ·rcases Am.mp h with h | h
    ·exact hc c h
    ·rw[Ad]at h;subst h;exact⟨hi,hp⟩
  ·rintro σ H4 ⟨ts,cs,u2,sH,el,ep,hc,bn,hlen,rfl⟩;refine aW ⟨ts,cs,_,_,sH,el,ep,hc,λ_=>bn (by omega),by omega,rfl⟩
 rintro σ H3 ⟨ts,cs,u1,u2,sH,el,ep,hc,bn,hlen,rfl⟩;have C5:0 < n.length:=Dk.mpr hF.some;have jL:=bn C5;have dP:0 < cs.length:=Dk.mpr jL;have Ho:=ep.length;have m0:0<=b % (cs.length:Int):=Bp _ (by omega);have m1:b % (cs.length:Int) < cs.length:=Bv _ (by omega);obtain⟨j,hj⟩:∃ j:Nat,b % (cs.length:Int)=j:=⟨(b % (cs.length:Int)).toNat,by omega⟩;have lh:j < cs.length:=by omega
 have yU:cs[j]?=some cs[j]:=Ab lh;obtain⟨t1,ko,e1⟩:=ep.at yU;have iu:eW n cs[j]:=hc _<|Bu lh;generalize cs[j]=c1 at e1 iu;refine aX 7 nd<|aP cF<|ae 4<|a7 cL<|ae 1<|b4 dE T.len DR<|ah<|ae 4<|ax ⟨lc,_,rfl,.inl<|aq.of el,?_⟩;rw[Aa,Ho];refine⟨_,_,rfl,rfl,by omega,lc,_,_,.ref t1,rfl,rfl,aq.of el,by rw[hj];exact QA ko,?_⟩;refine aX 1 nd<|a7 iV<|ae 1<|b4 dE T.len DR<|ah<|ae 4<|ax ⟨lc,_,rfl,.inl<|aq.of el,?_⟩;rw[Aa,Ho];refine⟨_,_,rfl,rfl,⟨by omega,by omega⟩,?_⟩;show Run _ _ _ [some<|.ref R,some<|.int<|b / (cs.length:Int),some<|.str z,some<|.str pt,some<|.ref lc,u1,u2,some<|.ref t1,none,none,none,none] H3;generalize b / (cs.length:Int)=b2;refine aX 8 nd (a7 cL<|ae 1<|aC ⟨_,_,rfl,rfl,(by show(0:Int) < 3;decide),?_⟩);refine aX 1 nd (a7 iV<|ae 1<|aC ⟨_,_,rfl,rfl,⟨by decide,by decide⟩,?_⟩);show Run _ _ _ [some<|.ref R,some<|.int<|b2 / 3,some<|.str z,some<|.str pt,some<|.ref lc,u1,u2,some<|.ref t1,some<|.int<|b2 % 3,none,none,none] H3;generalize b2 / 3=b3;have mU:=hR.same sH;obtain⟨a,ea,cW,eta,QH,era⟩:=mU.at iu.1;have QI:∀(m:Net),(ag m).length<=200->∀ i,(row m i).length<=200:=λm h i=>By (iD m i) h;have cin:c1.2<=(row n c1.1).length:=by
  have:=iu.2;omega
 refine c9<|b8 fV<|ae 8<|aC ⟨rfl,_,rfl,?_⟩;refine jS (λ_=>?_) λ_=>aW ?_
 ·
  have rl:=iD n c1.1;refine fM<|EE FJ RN RP OU<|aP bt<|aP cF<|ae 0<|aP bt<|ae 7<|aC ⟨t1,_,_,.int (c1.1:Int),rfl,rfl,aJ.of e1,rfl,R,_,_,.ref a.1,rfl,rfl,aq.of mU.lst,cW,aC ⟨a.1,_,_,.ref a.2,rfl,rfl,aJ.of eta,rfl,Or.inl ⟨rfl,_,aq.of QH⟩,?_⟩⟩;refine aP bt (ae 7<|aC ⟨t1,_,_,.int (c1.2:Int),rfl,rfl,aJ.of e1,rfl,ae 2 ⟨a.2,_,_,_,rfl,rfl,QH,by omega,by rw[Bd,Aa];exact cin,by rw[Aa];exact b5 (by omega),?_⟩⟩);rw[Bd,Pb];have R4:=mU.ins (z:=z) ea iu.1;refine fM<|j4<|ae 0 ⟨R,rfl,⟨_,R4.lst⟩,dR<|ah<|ae 3<|ah<|dF<|ah<|ae 2<|ax ⟨Z1,λl1 gu=>?_⟩⟩;refine ax ⟨Z2,λt2 kZ=>?_⟩;have s5:=aS gu<|Ls [z];have s6:=aS kZ<|.tup [.str pt,.ref l1];have R6:=(R4.same s5).same s6;refine⟨_,R6.lst,by rw[Aa];exact b5 (by omega),?_⟩;have l1f:H3 l1=none:=by
   by_cases q1:l1=a.2
   ·rw[q1,aA]at gu;cases gu
   ·rwa[av q1]at gu
  have l1n:l1∉as.map (·.2):=λhm=>by
   obtain⟨x,hx,e⟩:=Al.mp hm;exact R4.fresh gu hx e.symm
  have l1R:l1≠R:=λe=>by rw[e,R4.lst]at gu;cases gu
  have R7:=R6.more (t:=t2) (l:=l1) (pt:=pt) (zs:=[z]) aA (s6 _ _ aA) l1n l1R;have tp:(ag<|ins n c1 z++[(pt,[z])]).Perm (z :: z :: ag n):=by
   unfold ag;rw[Dv];show(ag (ins n c1 z)++[z]).Perm _;exact(Ci).trans<|(lg n c1 z iu.1).cons z
  refine bQ<|ae 1<|q _ _ _ _ R7 (λx o hx kq=>?_) (λx hx=>?_) tp (.inr ?_) ?_ λhP=>k9h hT hF hz iu tp hP
  ·have x1:x≠R:=λe=>kq (by rw[e];exact Ae);have x2:x≠a.2:=λe=>kq (Ah _<|by rw[e];exact Al.mpr ⟨a,Au ea,rfl⟩);rw[av x1];refine s6 _ _<|s5 _ _ ?_;rw[av x2];exact sH _ _ hx
  ·rcases Am.mp hx with hx | hx
   ·exact .inl hx
   ·rw[Ad]at hx;subst hx;exact .inr<|sH.free l1f
  ·rw[Ak,FU];rfl
  ·refine .inr ⟨by simp,λi hi=>?_⟩;have hfi:=(FV (z:=z) hF iu.1 hF.either).1;rw[Af]at hi;simp at hi
   rcases Di i (ins n c1 z).length with h | h
   ·have:=hfi i h;unfold row at this ⊢;rw[As h];exact this
   ·unfold row;rw[Az h,show i - (ins n c1 z).length=0 by omega];simp
 ·
  refine aX 9 nd<|dF<|ah<|ae 7<|ax ⟨Z1,λlf QN=>?_⟩;have s4:=aS QN<|.lst [.ref t1];have QO:=sH.trans s4;have lj:=mU.same s4;obtain⟨a0,ea0,Hq,et0,QP,er0⟩:=lj.at C5;have lf0:∀ x∈as,lf≠x.2:=λx hx=>mU.fresh QN hx;show Run _ _ _ [some<|.ref R,some<|.int b3,some<|.str z,some<|.str pt,some<|.ref lc,u1,u2,some<|.ref t1,some<|.int<|b2 % 3,some<|.ref lf,none,none] (upd H3 lf<|.lst [.ref t1]);refine yb (λk H'=>aj (upd H3 lf<|.lst [.ref t1]) H'/\(k=true->row n 0≠[])) (λσ' H'=>∃(lf:Addr) (k8:List Addr) (fs:List Nt.End),aj H3 H'/\(∀ x∈as,lf≠x.2)/\H' lf=some (.lst<|k8.map V.ref)/\Pd H' k8 fs/\0 < fs.length/\fs.length<=1000/\(∀ c∈fs,eW n c/\∃ k,it (step n) k c1=c) /\
   σ'=[some<|.ref R,some<|.int b3,some<|.str z,some<|.str pt,some<|.ref lc,u1,u2,some<|.ref t1,some<|.int<|b2 % 3,some<|.ref lf,none,none]) ?_ ?_ (λH5 ⟨s5,_⟩=>aW ⟨lf,[t1],[c1],s4.trans s5,lf0,s5 _ _ aA,.cons (s5 _ _<|s4 _ _ e1) .nil,Fh,by show 1<=1000;decide,λc gY=>by rw[Ad]at gY;rw[gY];exact⟨iu,0,rfl⟩,rfl⟩) ?_
  ·refine b8 (uA hu)<|aP bt<|aP cF<|ae 0<|aC ⟨R,_,_,.ref a0.1,rfl,rfl,aq.of lj.lst,Hq,aC ⟨a0.1,_,_,.ref a0.2,rfl,rfl,aJ.of et0,rfl,dF<|ax ⟨Z0,λp hp=>?_⟩⟩⟩;have s5:=aS hp<|.lst []
   by_cases h0:row n 0=[]
   ·refine⟨1,_,by decide,EA (k:=0) (xs:=[]) (ys:=[]) (λ_=>true) (aq.of<|by rw[s5 _ _ QP,h0];rfl) (aq.of aA) rfl (λj x y hx _=>by simp at hx),_,rfl,s5,λh=>by cases h⟩
   ·refine⟨1,_,by decide,EB (k:=1) (aq.of<|s5 _ _ QP) (aq.of (xs:=[]) aA) (by rw[Aa];intro h;exact h0<|Bj.mp h),_,rfl,s5,λ_=>h0⟩
  ·rintro H4 ⟨Hr,h0⟩;have h0:=h0 rfl;have lj:=lj.same Hr;have yQ:=hF.cI h0 iu;have sM:=jy n;refine aX 9 nd (bj GF hr<|ah<|ae 0<|ah<|bj GS hr<|ah<|ae 0<|ax ⟨R,as,n,rfl,lj,by omega,by omega,λd ks H5 s5 n5 S5=>?_⟩);refine ah (ae 7<|ax ⟨R,d,t1,as,n,ks,c1,rfl,lj.same s5,S5,hT,s5 _ _<|Hr _ _<|s4 _ _ e1,yQ,by omega,λl6 ts6 fs6 H6 s6 n6 e6 p6 f6=>?_⟩);exact aW ⟨l6,ts6,fs6,s4.trans<|Hr.trans<|s5.trans s6,λx hx=>(lj.same s5).fresh n6 hx,e6,p6,f6.pos,by have:=f6.len;omega,λc gY=>⟨ZR<|f6.ends hT yQ c gY,q5y f6 gY⟩,rfl⟩
  ·rintro σ' H5 ⟨lf,k8,fs,s5,lfn,Hs,DM,x0B,x0C,Ht,rfl⟩;have va:=DM.length;have n0:0<=b3 % (fs.length:Int):=Bp _ (by omega);have n1:b3 % (fs.length:Int) < fs.length:=Bv _ (by omega);obtain⟨j2,fO⟩:∃ j:Nat,b3 % (fs.length:Int)=j:=⟨(b3 % (fs.length:Int)).toNat,by omega⟩;have vb:j2 < fs.length:=by omega
   have Hu:fs[j2]?=some fs[j2]:=Ab vb;obtain⟨t2,fP,e2⟩:=DM.at Hu;obtain⟨qi,iO⟩:=Ht _<|Bu vb;generalize fs[j2]=c2 at e2 qi iO;have pq:=s5 _ _ e1;refine aX 10 nd<|aP cF<|ae 9<|a7 cL<|ae 1<|b4 dE T.len DR<|ah<|ae 9<|ax ⟨lf,_,rfl,.inl<|aq.of Hs,?_⟩;rw[Aa,va];refine⟨_,_,rfl,rfl,by omega,lf,_,_,.ref t2,rfl,rfl,aq.of Hs,by rw[fO];exact QA fP,?_⟩;have ku:=mU.same s5;show Run _ _ _ [some<|.ref R,some<|.int b3,some<|.str z,some<|.str pt,some<|.ref lc,u1,u2,some<|.ref t1,some<|.int<|b2 % 3,some<|.ref lf,some<|.ref t2,none] H5;refine jU<|Zo T.sorted<|dF<|ah<|ae 7<|ah<|ae 10<|ax ⟨Z2,λl2 iW=>?_⟩;have s6:=aS iW<|.lst [.ref t1,.ref t2];refine⟨l2,t1,t2,(c1.1:Int),(c1.2:Int),(c2.1:Int),(c2.2:Int),rfl,aA,s6 _ _ pq,s6 _ _ e2,λrr QQ=>?_⟩;have rn:∀ x∈as,rr≠x.2:=λx hx=>(ku.same s6).fresh QQ hx;obtain⟨x1,x2,k1,k2,gT,f1,f2,q1,q2,Hv,vd⟩:∃ x1 x2 k1 k2,(if lexLt ((c1.1:Int),(c1.2:Int)) ((c2.1:Int),(c2.2:Int))=true then [V.ref t2,.ref t1]else [.ref t1,.ref t2])=[.ref x1,.ref x2]/\(upd H5 l2<|.lst [.ref t1,.ref t2]) x1=some (Tp k1)/\(upd H5 l2<|.lst [.ref t1,.ref t2]) x2=some (Tp k2)/\eW n k1/\eW n k2/\(k2=k1\/sh k1 k2=k2)/\((∃ k,it (step n) k k1=k2)\/∃ k,it (step n) k k2=k1):=by
    cases QR:lexLt ((c1.1:Int),(c1.2:Int)) ((c2.1:Int),(c2.2:Int)) with
    | true=>exact⟨t2,t1,c2,c1,rfl,s6 _ _ e2,s6 _ _ pq,qi,iu,.inr<|q2a QR,.inr iO⟩
    | false=>exact⟨t1,t2,c1,c2,rfl,s6 _ _ pq,s6 _ _ e2,iu,qi,k99 QR,.inl iO⟩
   rw[gT];have s7:=aS QQ<|.lst [.ref x1,.ref x2];have f1:=s7 _ _ f1;have f2:=s7 _ _ f2;have s6:=s6.trans s7;have fr:=aA (H:=upd H5 l2<|.lst [.ref t1,.ref t2]) (a:=rr) (o:= .lst [.ref x1,.ref x2]);generalize upd (upd H5 l2<|.lst [.ref t1,.ref t2]) rr (.lst [.ref x1,.ref x2])=H6 at f1 f2 s6 fr ⊢;have ve:aj H H6:=sH.trans<|s5.trans s6;have hR6:=ku.same s6;have vf:pX H H6 (R :: as.map (·.2)):=λx o hx _=>ve _ _ hx;refine⟨rr,rfl,⟨_,aq.of fr⟩,jV (xs:=[.ref x1,.ref x2]) (λi σ H7=>∃(m:Net) (u:Option V),ai H7 R as m/\pX H H7 (R :: as.map (·.2))/\H7 rr=some (.lst [.ref x1,.ref x2])/\H7 lf=some (.lst<|k8.map V.ref)/\H7 x1=some (Tp k1)/\H7 x2=some (Tp k2) /\
    ((i=0/\m=n)\/(i=1/\m=ins n k1 z)\/(i=2/\m=ins (ins n k1 z) k2 z))/\σ=[some<|.ref R,some<|.int b3,some<|.str z,some<|.str pt,some<|.ref lc,u1,u2,some<|.ref t1,some<|.int<|b2 % 3,some<|.ref lf,some<|.ref t2,u]) ⟨n,_,hR6,vf,fr,s6 _ _ Hs,f1,f2,.inl ⟨rfl,rfl⟩,rfl⟩ ?_ ?_ ?_⟩
   ·rintro i σ H7 _ ⟨m,u,_,_,yV,_⟩;exact aq.of yV
   ·rintro i v σ H7 hv ⟨m,u,vg,vh,yV,Hw,g1,g2,hm,rfl⟩;have ti1:=(lg n k1 z q1.1).length_eq;rw[Ap]at ti1;obtain⟨y,k,rfl,hy,hk,iP,hml⟩:∃ y k,v = .ref y/\H7 y=some (Tp k)/\eW m k/\((i+1=0/\ins m k z=n)\/(i+1=1/\ins m k z=ins n k1 z)\/(i+1=2/\ins m k z=ins (ins n k1 z) k2 z))/\(ag m).length<=200:=by
     rcases hm with ⟨rfl,rfl⟩ | ⟨rfl,rfl⟩ | ⟨rfl,rfl⟩
     ·cases hv;exact⟨x1,k1,rfl,g1,q1,.inr<|.inl ⟨rfl,rfl⟩,by omega⟩
     ·cases hv;exact⟨x2,k2,rfl,g2,yC q2 q1.1,.inr<|.inr ⟨rfl,rfl⟩,by omega⟩
     ·simp at hv
    refine bg 11 nd ?_;obtain⟨a',QU,Hx,Hy,mV,x0D⟩:=vg.at hk.1;have rl:=iD m k.1;have oO:k.2<=(row m k.1).length:=by
     have:=hk.2;omega
    refine fM<|EE FJ RN RP OU<|aP bt<|aP cF<|ae 0<|aP bt<|ae 11<|aC ⟨y,_,_,.int (k.1:Int),rfl,rfl,aJ.of hy,rfl,R,_,_,.ref a'.1,rfl,rfl,aq.of vg.lst,Hx,aC ⟨a'.1,_,_,.ref a'.2,rfl,rfl,aJ.of Hy,rfl,Or.inl ⟨rfl,_,aq.of mV⟩,?_⟩⟩;refine aP bt (ae 11<|aC ⟨y,_,_,.int (k.2:Int),rfl,rfl,aJ.of hy,rfl,ae 2 ⟨a'.2,_,_,_,rfl,rfl,mV,by omega,by rw[Bd,Aa];exact oO,by rw[Aa];exact b5 (by omega),?_⟩⟩);rw[Bd,Pb];have am:a'∈as:=Au QU;refine aW ⟨ins m k z,_,vg.ins QU hk.1,λx o hx kq=>?_,by rw[av<|rn a' am];exact yV,by rw[av<|lfn a' am];exact Hw,by rw[av<|uC g1 mV];exact g1,by rw[av<|uC g2 mV];exact g2,iP,rfl⟩;have x2:x≠a'.2:=λe=>kq (Ah _<|by rw[e];exact Al.mpr ⟨a',am,rfl⟩);rw[av x2];exact vh x o hx kq
   ·rintro σ H7 ⟨m,u,vg,vh,yV,Hw,g1,g2,hm,rfl⟩;have em:m=ins (ins n k1 z) k2 z:=by
     rcases hm with ⟨h,_⟩ | ⟨h,_⟩ | ⟨_,h⟩
     ·exact absurd h<|by show ¬(2=0);decide
     ·exact absurd h<|by show ¬(2=1);decide
     ·exact h
    refine bQ<|a7 iV<|ae 1<|b4 dE T.len DR<|ah<|ae 9<|ax ⟨lf,_,rfl,.inl<|aq.of Hw,?_⟩;rw[Aa,va];refine⟨_,_,rfl,rfl,⟨by omega,by omega⟩,?_⟩;have fi:=FV (z:=z) hF q1.1 hF.either;have F2:Full (ins n k1 z):= .inr ⟨fi.2,fi.1⟩;have QY:=FV (z:=z) F2 (yC (z:=z) q2 q1.1).1 F2.either;subst em;exact q _ as _ H7 vg vh (λx hx=> .inl hx) ((lg _ k2 z (yC (z:=z) q2 q1.1).1).trans<|(lg n k1 z q1.1).cons z) (.inl<|by rw[FU,FU]) (.inr ⟨QY.2,QY.1⟩) λhP=>q5j hT hF hz q1 q2 ((lg _ k2 z (yC (z:=z) q2 q1.1).1).trans<|(lg n k1 z q1.1).cons z) Hv vd hP
def Hz:Sp:=λvs H Q _=>∃(b m sm:Int),vs=[.int b,.int m,.int sm]/\0<=m/\m<=35 /\
 ∀ L as n H',aj H H'->H L=none->ai H' L as n->aw n->(n.map (·.1)).Nodup->Full n->HF n->(ag n).length<=2 * m.toNat->n.length<=m.toNat+1->(∀ a∈as,H a.2=none)->Q (.ref L) H'
abbrev NB:Ò:=["_law_big_here","_law_most","_law_stem","_law_many","_law_ties","_law_points","_law_rows","_law_k","_law_told","_law_row","_law_size"]
def oo:ak NB ["_law_big_here","_law_most","_law_stem"] (aU pR):=⟨rfl,rfl,rfl,by decide +kernel,rfl,by decide +kernel,by decide +kernel⟩
def q9x{H:Hp}{d:Addr}{xs:List V}(h:H d=some (.lst xs)):lQ K "list" (.ref d) H:=Or.inl ⟨rfl,xs,aq.of h⟩
def jB{b:Int}{m i:Nat}(h:i < m):dN ((namesOf b m).map V.str) (i:Int)=some (.str<|aO b i):=pK<|ZC h
def q8l{f:Addr}{fd:FuncData}(F:bE K "_law_net_by" "_law_net_by" pR f fd)(T:Txt mg)
  (GN:aQ P w K mg base 4 "_law_names" ["_law_stem","_law_many"] FK)
  (GP:aQ P w K mg base 4 "_law_put" ["_law_rows","_law_big_here","_law_tie","_law_point"] Hn) :
  aG P w K mg base bH 5 f fd ["_law_big_here","_law_most","_law_stem"] Hz:=by
 refine F.gb oo (λvs H Q E h=>?_) λb0 H vs Q E hr h=>?_
 ·obtain⟨b,m,sm,rfl,_⟩:=h;rfl
 obtain⟨b,m,sm,rfl,m0,m35,q⟩:=h;have nd:=oo.nd;have hu:=hr.hU;have k0:0<=b % (m+1):=Bp _ (by omega);have k1:b % (m+1) < m+1:=Bv _ (by omega);obtain⟨mn,hmn⟩:∃ k:Nat,b % (m+1)=k:=⟨(b % (m+1)).toNat,by omega⟩;have hmm:mn<=m.toNat:=by omega
 show Run _ _ _ [some<|.int b,some<|.int m,some<|.int sm,none,none,none,none,none,none,none,none] H;refine aX 3 nd<|a7 cL<|ae 0<|a7 gM<|ae 1<|aC ⟨_,_,rfl,rfl,?_⟩;refine⟨_,_,rfl,rfl,(by show 0 < m+1;omega),?_⟩;refine aX 0 nd<|a7 iV<|ae 0<|a7 gM<|ae 1<|aC ⟨_,_,rfl,rfl,?_⟩;refine⟨_,_,rfl,rfl,(by show tR b (m+1);exact⟨by omega,by omega⟩),?_⟩;show Run _ _ _ [some<|.int<|b / (m+1),some<|.int m,some<|.int sm,some<|.int<|b % (m+1),none,none,none,none,none,none,none] H;rw[hmn];generalize b / (m+1)=b1;refine aX 4 nd (bj GN hr<|ah<|ae 2<|ah<|ae 3<|ax ⟨sm,(mn:Int),rfl,by omega,by omega,λlt H1 s1 n1 e1=>?_⟩);rw[Bd]at e1;refine aX 5 nd (bj GN hr<|ah<|aP cF<|dF<|ah<|a7 gM<|a7 iV<|ae 2<|aC ⟨_,_,rfl,rfl,⟨by decide,by decide⟩,aC ⟨_,_,rfl,rfl,ah<|ae 2<|ax ⟨Z2,λp hp=>?_⟩⟩⟩);refine lY OV T.uE TX (ah<|jT fV<|a7 cL<|ae 2<|aC ⟨_,_,rfl,rfl,(by show(0:Int) < 4;decide),aC ⟨rfl,ax ⟨_,rfl,?_⟩⟩⟩);have s2:=aS hp<|.lst [.int<|sm / 3+1,.int sm];obtain⟨jC,ex⟩:∃ jC:Int,dN [V.int<|sm / 3+1,.int sm] (if decide (V.int (sm % 4)=V.int 1)=true then 1 else 0)=some (.int jC):=by
  cases decide (V.int (sm % 4)=V.int 1) with
  | true=>exact⟨sm,rfl⟩
  | false=>exact⟨sm / 3+1,rfl⟩
 refine⟨p,_,_,.int jC,rfl,rfl,aq.of aA,ex,?_⟩;refine ah (a7 gM<|ae 3<|aC ⟨_,_,rfl,rfl,ax ⟨jC,(mn:Int)+1,rfl,by omega,by omega,λlp H2 s3 n3 e3=>?_⟩⟩);have em:((mn:Int)+1).toNat=mn+1:=by omega
 rw[em]at e3;have vi:aj H H2:=s1.trans<|s2.trans s3;have e1:H2 lt=some (Ls<|namesOf sm mn):=s3 _ _<|s2 _ _ e1;show Run _ _ _ [some<|.int b1,some<|.int m,some<|.int sm,some<|.int (mn:Int),some<|.ref lt,some<|.ref lp,none,none,none,none,none] H2;refine aX 6 nd<|dF<|ah<|dR<|ah<|aP cF<|ae 5<|aC ⟨lp,_,_,.str<|aO jC 0,rfl,rfl,aq.of e3,jB<|Ga _,ah<|dF<|ax ⟨Z0,λl1 gu=>?_⟩⟩;refine ax ⟨Z2,λt1 ht1=>ax ⟨Z1,λR Q0=>?_⟩⟩;have s4:=aS gu<|Ls [];have s5:=aS ht1<|.tup [.str<|aO jC 0,.ref l1];have s6:=aS Q0<|.lst [.ref t1];have hR0:ai (upd (upd (upd H2 l1<|.lst []) t1<|.tup [.str<|aO jC 0,.ref l1]) R<|.lst [.ref t1]) R [(t1,l1)] [(aO jC 0,[])]:=by
  refine⟨rfl,aA,λi a r h1 h2=>?_,by simp⟩;cases i with
  | zero=>
   cases h1;cases h2;exact⟨s6 _ _ aA,s6 _ _<|s5 _ _ aA⟩
  | succ i=>simp at h1
 have fR:H2 R=none:=s4.free<|s5.free Q0;show Run _ _ _ [some<|.int b1,some<|.int m,some<|.int sm,some<|.int (mn:Int),some<|.ref lt,some<|.ref lp,some<|.ref R,none,none,none,none] (upd (upd (upd H2 l1<|.lst []) t1<|.tup [.str<|aO jC 0,.ref l1]) R<|.lst [.ref t1]);refine kS T.range (ae 3 ⟨(mn:Int),rfl,by omega,by omega,?_⟩);rw[Bd];refine kU (λk σ H3=>∃(as:Ð) (n:Net) (b:Int) (u:Option V),ai H3 R as n/\aj H2 H3/\(∀ a∈as,H2 a.2=none)/\Full n/\HF n/\(ag n).Perm (dbl<|namesOf sm k)/\n.map (·.1)=namesOf jC n.length/\n.length<=k+1 /\
  σ=[some<|.int b,some<|.int m,some<|.int sm,some<|.int (mn:Int),some<|.ref lt,some<|.ref lp,some<|.ref R,u,none,none,none]) ⟨_,_,b1,_,hR0,s4.trans<|s5.trans s6,λa ha=>by rw[Ad]at ha;rw[ha];exact gu,.inl ⟨_,rfl⟩,q9h,List.Perm.refl _,rfl,An _,rfl⟩ ?_ ?_
 ·rintro k σ H3 hk ⟨as,n,b,u,hR,sH,gO,hF,yW,hp,yX,hlen,rfl⟩;rw[Du];refine bg 7 nd ?_;have bU:=hR.len;have tl:=hp.length_eq;rw[FY,EK]at tl;have nz:aO sm k∉ag n:=λh=>by
   have h1:=iI.mp<|hp.mem_iff.mp h;have h2:=yj (b:=sm) (m:=k+1) (by omega);rw[yk,Cj]at h2;exact h2.2.2 _ h1 _ (Ad.mpr rfl) rfl
  have n0:0 < n.length:=Dk.mpr hF.some;refine aX 0 nd<|bj GP hr<|ah<|ae 6<|ah<|ae 0<|ah<|aP cF<|ae 4<|ae 7 ⟨lt,_,_,.str<|aO sm k,rfl,rfl,aq.of<|sH _ _ e1,jB hk,?_⟩;refine ah<|aP cF<|ae 5<|b4 dE T.len DR<|ah<|ae 6<|ax ⟨R,_,rfl,.inl<|aq.of hR.lst,?_⟩;rw[Aa,bU];refine⟨lp,_,_,.str<|aO jC n.length,rfl,rfl,aq.of<|sH _ _ e3,jB (by omega),?_⟩;refine ax ⟨R,as,n,b,aO sm k,aO jC n.length,rfl,hR,Pg (yj<|by omega) hp,hF,nz,by omega,by omega,λi qh n' H' hR' kp HE km vj hF' HG=>?_⟩;have sH':aj H2 H':=λx o hx=>by
   refine kp x o (sH _ _ hx) λhm=>?_
   rcases Aj.mp hm with h | h
   ·rw[h,fR]at hx;cases hx
   ·obtain⟨y,hy,e⟩:=Al.mp h;rw[<- e,gO y hy]at hx;cases hx
  refine aW ⟨qh,n',i,_,hR',sH',λy hy=>?_,hF',HG yW,?_,?_,?_,rfl⟩
  ·rcases HE y hy with h | h
   ·exact gO y h
   ·exact sH.free h
  ·refine km.trans ?_;rw[yk,ZT];refine List.Perm.trans ?_ Ci;exact((hp.cons _).cons _)
  ·rcases vj with h | h
   ·have hl:=BZ List.length h;rw[Aa,Aa]at hl;rw[h,hl];exact yX
   ·have hl:=BZ List.length h;rw[Aa,Af,Aa]at hl;have nR:n'.length=n.length+1:=hl;rw[h,nR,yk,yX]
  ·rcases vj with h | h
   ·have hl:=BZ List.length h;rw[Aa,Aa]at hl;omega
   ·have hl:=BZ List.length h;rw[Aa,Af,Aa]at hl;have nR:n'.length=n.length+1:=hl;omega
 rintro σ H3 ⟨as0,n0,b,u,hR,sH,gO,hF,HH,hp,yX,hlen,rfl⟩;have tl:=hp.length_eq;rw[FY,EK]at tl;have Q1:aw n0:=Pg (yj<|by omega) hp;have hN0:(n0.map (·.1)).Nodup:=by rw[yX];exact yj<|by omega
 refine aX 8 nd<|dF<|ax ⟨Z0,λL hL=>?_⟩;have s7:=aS hL<|.lst [];have Q2:R≠L:=bq hR.lst hL;have fL:H2 L=none:=sH.free hL;have yY:ai (upd H3 L<|.lst []) L [] []:=⟨rfl,aA,λi a r h1=>by simp at h1,by simp⟩;refine yc (λk σ H4=>∃(as oq:Ð) (n n2:Net) (b:Int) (u9 Q3:Option V),k=n.length/\ai H4 R as n/\ai H4 L oq n2/\aj H2 H4/\(∀ a∈as,a.2≠L)/\(∀ a∈oq,a.2≠R)/\(∀ a∈oq,H2 a.2=none)/\n.length+n2.length=n0.length /\
   (ag n++ag n2).Perm (ag n0)/\(n.map (·.1)++n2.map (·.1)).Perm (n0.map (·.1))/\(NE n0->NE n/\NE n2)/\HF (n++n2) /\
   σ=[some<|.int b,some<|.int m,some<|.int sm,some<|.int (mn:Int),some<|.ref lt,some<|.ref lp,some<|.ref R,u,some<|.ref L,u9,Q3])
  (m0:=n0.length) ⟨as0,[],n0,[],b,_,_,rfl,hR.same s7,yY,sH.trans s7,λa ha=>(hR.fresh hL ha).symm,λa ha=>(nomatch ha),λa ha=>(nomatch ha),rfl,by simp[ag],by simp,λh=>⟨h,λr hr=>(nomatch hr)⟩,by rw[Bg];exact HH,rfl⟩ ?_
 rintro k σ H4 ⟨as,oq,n,n2,b,u9,Q3,rfl,hR,sN,sH,aL,aR,Q4,vk,pt,pn,bn,yW,rfl⟩;have bU:=hR.len;have HI:=sN.len;have x0E:(ag n).length<=70:=by
  have:=pt.length_eq;rw[Af]at this;omega
 refine b8 (uA hu)<|ae 6<|dF<|ax ⟨Z0,λp lV=>?_⟩;have s8:=aS lV<|.lst []
 by_cases h0:n=[]
 ·subst h0;have ea:as=[]:=Bj.mp (by simpa using bU);subst ea;refine⟨1,_,by decide,EA (k:=0) (xs:=[]) (ys:=[]) (λ_=>true) (aq.of<|s8 _ _ hR.lst) (aq.of aA) rfl (λj x y hx _=>by simp at hx),_,rfl,bu<|bQ<|ae 8 ?_⟩;have gE:(ag n2).Perm (ag n0):=pt;have pn':(n2.map (·.1)).Perm (n0.map (·.1)):=pn;have l2:n2.length=n0.length:=by simpa using vk
  refine q L oq n2 _ (vi.trans<|sH.trans s8) (vi.free fL) (sN.same s8) (λz hz=>?_) (pn'.nodup_iff.mpr hN0) ?_ yW (by rw[gE.length_eq];omega) (by omega) λa ha=>vi.free<|Q4 a ha
  ·rw[gE.count_eq];exact Q1 z<|gE.mem_iff.mp hz
  ·rcases hF.ne with ⟨nm,h⟩ | h
   ·subst h;have t0:ag n2=[]:=List.Perm.eq_nil gE
    match n2,l2,t0 with
    | [(nm2,zs)],_,t0=>
     have:zs=[]:=by simpa[ag]using t0
     subst this;exact .inl ⟨_,rfl⟩
   ·refine ZU (bn h).2 λe=>?_;rw[e]at l2;exact hF.some<|Bj.mp l2.symm
 ·have np:0 < n.length:=Dk.mpr h0;refine⟨1,_,by decide,EB (k:=1) (aq.of<|s8 _ _ hR.lst) (aq.of (xs:=[]) aA) (by rw[Aa,bU];exact Cp np),_,rfl,bY ?_⟩;have hR:=hR.same s8;have sN:=sN.same s8;have sH:=sH.trans s8;generalize upd H4 p (.lst [])=H5 at hR sN sH ⊢;have r0:0<=b % (n.length:Int):=Bp _ (by omega);have r1:b % (n.length:Int) < n.length:=Bv _ (by omega);obtain⟨j,hj⟩:∃ k:Nat,b % (n.length:Int)=k:=⟨(b % (n.length:Int)).toNat,by omega⟩;have qj:j < n.length:=by omega
  obtain⟨a,ea,cW,et,el,er⟩:=hR.at qj;refine aX 9 nd<|ED FJ UJ UL WK<|ae 6 ⟨q9x hR.lst,a7 cL<|ae 0<|b4 dE T.len DR<|ah<|ae 6<|ax ⟨R,_,rfl,.inl<|aq.of hR.lst,?_⟩⟩;rw[Aa,bU];refine⟨_,_,rfl,rfl,by omega,R,_,_,j,.ref a.1,rfl,rfl,hR.lst,by rw[hj];omega,by rw[hj];omega,?_,?_,?_⟩
  ·rw[hj,Aa,bU];unfold seqIndex?;have c1:¬((j:Int) < 0):=by omega
   simp only[c1,CV];have c2:(decide (0<=(j:Int)) && decide ((j:Int) < (n.length:Int)))=true:=by
    rw[Bn,DW,DW];omega
   rw[BP c2,Bd]
  ·rw[Ai,ea];rfl
  have R6:=hR.erase qj;have am:a∈as:=Au ea;have HK:∀ x∈as,x.2≠R:=λx hx e=>by
   obtain⟨zs,e2⟩:=hR.lists hx;have h3:=hR.lst;rw[<- e,e2]at h3;have h4:=HO.lst.inj<|Option.some.inj h3;cases as with
   | nil=>cases hx
   | cons b' bs=>
    cases zs with
    | nil=>simp at h4
    | cons y r=>simp at h4
  have L6:=sN.upd (o:= .lst<|(as.map λa=>V.ref a.1).eraseIdx j) hR.lst Q2.symm aR;have vp:(upd H5 R<|.lst<|(as.map λa=>V.ref a.1).eraseIdx j) a.1=some (.tup [.str n[j].1,.ref a.2]):=by rw[av<|ce et hR.lst λe=>nomatch e];exact et
  have yZ:(upd H5 R<|.lst<|(as.map λa=>V.ref a.1).eraseIdx j) a.2=some (Ls<|row n j):=by rw[av<|HK a am];exact el
  have ve:aj H2 (upd H5 R<|.lst<|(as.map λa=>V.ref a.1).eraseIdx j):=fb sH fR;generalize upd H5 R (.lst<|(as.map λa=>V.ref a.1).eraseIdx j)=H6 at R6 L6 vp yZ ve ⊢;have le6:=R6.len;have qk:(n.eraseIdx j).length=n.length - 1:=by rw[Cw,BP qj]
  refine aX 0 nd<|a7 iV<|ae 0<|a7 gM<|b4 dE T.len DR<|ah<|ae 6<|ax ⟨R,_,rfl,.inl<|aq.of R6.lst,aC ⟨_,_,rfl,rfl,?_⟩⟩;rw[Aa,le6,qk];refine⟨_,_,rfl,rfl,⟨by omega,by omega⟩,?_⟩;have x0F:=iD n j;refine aX 10 nd<|b4 (MG rfl) T.max UG<|ah<|aC<|ah<|b4 dE T.len DR<|ah<|aP bt<|ae 9<|aC ⟨a.1,_,_,.ref a.2,rfl,rfl,aJ.of vp,rfl,ax ⟨a.2,_,rfl,.inl<|aq.of yZ,?_⟩⟩;rw[Aa];refine ax ⟨1,_,rfl,?_⟩;have emx:(if((row n j).length:Int) > 1 then((row n j).length:Int)else 1)=((max 1 (row n j).length:Nat):Int):=by
   split <;> omega
  rw[emx];show Run _ _ _ [some<|.int<|b / ((n.length - 1:Nat)+1:Int),some<|.int m,some<|.int sm,some<|.int (mn:Int),some<|.ref lt,some<|.ref lp,some<|.ref R,u,some<|.ref L,some<|.ref a.1,some<|.int ((max 1 (row n j).length:Nat):Int)] H6;generalize b / ((n.length - 1:Nat)+1:Int)=b2;have z0:0<=b2 % ((max 1 (row n j).length:Nat):Int):=Bp _ (by omega);obtain⟨i,hi⟩:∃ k:Nat,b2 % ((max 1 (row n j).length:Nat):Int)=k:=⟨(b2 % ((max 1 (row n j).length:Nat):Int)).toNat,by omega⟩;refine fM<|j4<|ae 8 ⟨L,rfl,⟨_,L6.lst⟩,dR<|ah<|aP bt<|ae 9<|aC ⟨a.1,_,_,.str n[j].1,rfl,rfl,aJ.of vp,rfl,?_⟩⟩;refine ah (a7 WL<|Nv MY<|aP bt<|ae 9<|aC ⟨a.1,_,_,.ref a.2,rfl,rfl,aJ.of vp,rfl,Nx<|a7 cL<|ae 0<|ae 10 ⟨b2,((max 1 (row n j).length:Nat):Int),rfl,rfl,by omega,_,rfl,Nw ⟨a.2,_,rfl,aq.of yZ,λp1 HL=>?_⟩⟩⟩);rw[hi,ZW];have t1:=aS HL<|Ls<|(row n j).drop i;refine Nv MY (aP bt<|ae 9<|aC ⟨a.1,_,_,.ref a.2,rfl,rfl,aJ.of<|t1 _ _ vp,rfl,Nw<|Nx<|a7 cL<|ae 0<|ae 10 ⟨b2,((max 1 (row n j).length:Nat):Int),rfl,rfl,by omega,_,rfl,a.2,_,rfl,aq.of<|t1 _ _ yZ,λp2 lV=>?_⟩⟩);rw[hi,ZX];have t2:=aS lV<|Ls<|(row n j).take i;refine⟨p1,p2,_,_,rfl,rfl,t2 _ _ aA,aA,?_,λp3 ql=>?_⟩
  ·rw[Aa,Aa,Dh,Bk];exact small<|by omega
  rw[<- Ak];have t3:=aS ql<|Ls<|(row n j).drop i++(row n j).take i;refine ax ⟨Z2,λt4 ht4=>?_⟩;have s4:=aS ht4<|.tup [.str n[j].1,.ref p3];have qm:=t1.trans<|t2.trans<|t3.trans s4;have L7:=L6.same qm;have R7:=R6.same qm;have p3L:p3≠L:=λe=>by rw[e,(t1.trans t2) _ _ L6.lst]at ql;cases ql
  have p3R:p3≠R:=λe=>by rw[e,(t1.trans t2) _ _ R6.lst]at ql;cases ql
  have p3n:p3∉oq.map (·.2):=λhm=>by
   obtain⟨y,hy,e⟩:=Al.mp hm;exact(L6.same<|t1.trans t2).fresh ql hy e.symm
  have L8:=L7.more (t:=t4) (l:=p3) (pt:=n[j].1) (zs:=(row n j).drop i++(row n j).take i) aA (s4 _ _ aA) p3n p3L;refine⟨_,L7.lst,by rw[Aa,HI];exact b5 (by omega),?_⟩;have Q5:∀ x∈as.eraseIdx j,x.2≠L:=λx hx=>aL x<|Es hx;have R8:=R7.upd (o:= .lst<|oq.map (λa=>V.ref a.1)++[.ref t4]) L7.lst Q2 Q5;refine aX 0 nd (a7 iV<|ae 0<|ae 10 ⟨b2,((max 1 (row n j).length:Nat):Int),rfl,rfl,⟨by omega,by omega⟩,?_⟩);have pe:=Ph n j qj;have ne:=ZV n j qj;have Q6:(ag (n.eraseIdx j)++ag (n2++[(n[j].1,(row n j).drop i++(row n j).take i)])).Perm (ag n0):=by
   refine List.Perm.trans ?_ pt;unfold ag;rw[Dv];show(ag (n.eraseIdx j)++(ag n2++(((row n j).drop i++(row n j).take i)++[]))).Perm _;rw[Bg,er];have w1:(n[j].2.drop i++n[j].2.take i).Perm n[j].2:=F0 _ _;refine((w1.append_left _).append_left _).trans ?_;have w2:(ag n++ag n2).Perm ((n[j].2++ag (n.eraseIdx j))++ag n2):=pe.append_right _;refine List.Perm.trans ?_ w2.symm;rw[Ar];refine List.Perm.trans ?_<|Ci (l₁:=ag (n.eraseIdx j)++ag n2);rw[Ar]
  refine aW ⟨n.length - 1,by omega,as.eraseIdx j,oq++[(t4,p3)],n.eraseIdx j,n2++[(n[j].1,(row n j).drop i++(row n j).take i)],_,_,_,qk.symm,R8,L8,fb (ve.trans qm) fL,Q5,λx hx=>?_,λx hx=>?_,?_,Q6,?_,λh=>⟨λr hr=>?_,λr hr=>?_⟩,q64 qj (by have:=Bv b2 (show(0:Int) < ((max 1 (row n j).length:Nat):Int) by omega);rw[hi]at this;exact Int.ofNat_lt.mp this) Q1 pt Q6 yW,rfl⟩
  ·rcases Am.mp hx with hx | hx
   ·exact aR x hx
   ·rw[Ad]at hx;rw[hx];exact p3R
  ·rcases Am.mp hx with hx | hx
   ·exact Q4 x hx
   ·rw[Ad]at hx;rw[hx];exact ve.free<|t1.free<|t2.free ql
  ·rw[Af,qk];simp;omega
  ·refine List.Perm.trans ?_ pn;rw[Ak];show((n.eraseIdx j).map (·.1)++(n2.map (·.1)++[n[j].1])).Perm _;refine List.Perm.trans ?_ (ne.append_right _).symm;rw[<- Ar];exact Ci
  ·exact(bn h).1 r<|Es hr
  ·rcases Am.mp hr with hr | hr
   ·exact(bn h).2 r hr
   ·rw[Ad]at hr;rw[hr];intro e;have w1:=(F0 (row n j) i).length_eq;have e':(row n j).drop i++(row n j).take i=[]:=e;rw[e']at w1;have:=(bn h).1 n[j]<|Bu qj;rw[er]at w1;exact this<|Bj.mp w1.symm
def HM:Sp:=λvs H Q _=>∃(R:Addr) (as:Ð) (n:Net),vs=[.ref R]/\ai H R as n/\n.length<=1000/\∀ L qh H',aj H H'->H L=none->(∀ a∈qh,H a.1=none/\H a.2=none)->ai H' L qh n->Q (.ref L) H'
theorem ie{H H':Hp}{l:Addr}(s:aj H H')(h:H' l=none):H l=none:=by
 cases e:H l with
 | none=>rfl
 | some v=>rw[s _ _ e]at h;cases h
abbrev NC:Ò:=["_law_rows"]
abbrev Q7:Ò:=["_law_rows","_law_row"]
def kz:ak NC ["_law_rows"] (aU yw):=⟨rfl,rfl,rfl,by decide +kernel,rfl,by decide +kernel,by decide +kernel⟩
def HP:Q7.Nodup:=by decide +kernel
def q5f{f:Addr}{fd:FuncData}(F:bE K "_law_copy" "_law_copy" yw f fd)(T:Txt mg):aG P w K mg base bH 1 f fd ["_law_rows"] HM:=by
 refine F.gb kz (λvs H Q E h=>?_) λb0 H vs Q E hr h=>?_
 ·obtain⟨R,as,n,rfl,_⟩:=h;rfl
 obtain⟨R,as,n,rfl,hR,hn,q⟩:=h;have nd:=kz.nd;have bU:=hR.len;show Run _ _ _ [some<|.ref R] H;refine bQ<|jv (aU yw) NC Q7 1 (fU bv)<|ae 0 ⟨R,rfl,⟨_,aq.of hR.lst⟩,λD hD=>?_⟩;refine pZ (xs:=as.map λa=>V.ref a.1) (λi σ' H'=>(∃ v,σ'=[some<|.ref R]++[v])/\∃ bs:Ð,bs.length=i/\H' D=some (.lst<|bs.map λa=> .ref a.1) /\
  (∀(j:Nat) a r,bs[j]?=some a->n[j]?=some r->H' a.1=some (.tup [.str r.1,.ref a.2])/\H' a.2=some (Ls r.2))/\(bs.map (·.2)).Nodup/\(∀ a∈bs,a.2≠D/\H a.1=none/\H a.2=none/\∃ zs,H' a.2=some (Ls zs))/\aj H H')
  ⟨⟨none,rfl⟩,[],rfl,aA,λj a r h=>by simp at h,Ch,λa h=>by simp at h,aS hD _⟩ ?_ ?_ ?_
 ·rintro i σ' H' _ ⟨_,bs,_,_,_,_,_,sm⟩;exact aq.of<|sm _ _ hR.lst
 ·rintro i x σ' H' hx ⟨⟨v,rfl⟩,bs,rR,jw,HQ,qo,sO,sm⟩;have hi:i < n.length:=by
   have:=(Ac.mp hx).1;rw[Aa]at this;omega
  obtain⟨a,ea,cW,et,el,er⟩:=(hR.same sm).at hi;rw[Ai,ea]at hx;cases hx;intro cl C' s₀ H₀ ex;refine bg 1 HP ?_;intro cl C' s₀ H₀ ex;refine i6 ?_;rw[BP rfl];intro cl C' s₀ H₀ ex;refine dR<|ah<|aP bt<|ae 1<|aC ⟨a.1,_,_,.str n[i].1,rfl,rfl,aJ.of et,rfl,?_⟩;refine ah<|lY Wt T.j7 LK<|ah<|aP bt<|ae 1<|aC ⟨a.1,_,_,.ref a.2,rfl,rfl,aJ.of et,rfl,?_⟩;refine ax ⟨a.2,_,rfl,.inl<|aq.of el,λl hl=>ax ⟨Z2,λt ht=>?_⟩⟩;have mq:=ie sm hl;have HR:t≠l:=λe=>by rw[e,aA]at ht;cases ht
  have gZ:H' t=none:=by rw[av HR]at ht;exact ht
  have Q8:=ie sm gZ;have sP:l≠D:=λe=>by rw[e]at hl;rw[hl]at jw;cases jw
  have Q9:t≠D:=λe=>by rw[e]at gZ;rw[gZ]at jw;cases jw
  refine⟨bs.map λa=> .ref a.1,?_,?_,⟨_,rfl⟩,bs++[(t,l)],by rw[Af,rR];rfl,?_,?_,?_,?_,?_⟩
  ·rw[av<|CG Q9,av<|CG sP];exact jw
  ·rw[Aa];exact b5<|by omega
  ·rw[aA,Ak];rfl
  ·intro j b r hb mR
   by_cases hj:j < bs.length
   ·rw[As hj]at hb;obtain⟨q1,q2⟩:=HQ j b r hb mR;have hbD:=(sO b<|Au hb).1;have n1:b.1≠D:=ce q1 jw λz=>nomatch z;refine⟨?_,?_⟩
    ·rw[av n1,av<|bq q1 gZ,av<|bq q1 hl];exact q1
    ·rw[av hbD,av<|bq q2 gZ,av<|bq q2 hl];exact q2
   ·rw[Az<|by omega]at hb;have fO:j - bs.length=0:=by
     have:=(Ac.mp hb).1;simp at this;omega
    have qp:j=i:=by omega
    rw[fO]at hb;cases hb;rw[qp,Ab hi]at mR;cases mR;refine⟨?_,?_⟩
    ·rw[av Q9,aA]
    ·rw[av sP,av<|CG HR,aA,er]
  ·rw[Ak];refine nJ qo λhm=>?_;obtain⟨b,hb,e⟩:=Al.mp hm;obtain⟨_,_,_,zs,q⟩:=sO b hb;have e':b.2=l:=e;rw[e',hl]at q;cases q
  ·intro b hb
   rcases Am.mp hb with hb | hb
   ·obtain⟨q1,q2,q3,zs,q4⟩:=sO b hb;refine⟨q1,q2,q3,zs,?_⟩;rw[av q1,av<|bq q4 gZ,av<|bq q4 hl];exact q4
   ·rw[Ad.mp hb];refine⟨sP,Q8,mq,row n i,?_⟩;rw[av sP,av<|CG HR,aA]
  ·intro c o hc;rw[av<|bq hc hD,av<|bq hc Q8,av<|bq hc mq];exact sm _ _ hc
 ·rintro σ' H' ⟨_,bs,rR,jw,HQ,qo,sO,sm⟩;rw[Aa]at rR;exact q D bs H' sm hD (λa ha=>⟨(sO a ha).2.1,(sO a ha).2.2.1⟩) ⟨by omega,jw,HQ,qo⟩
end
abbrev Tn(p:Str)(j:Int):HO:= .tup [.str p,.int j]
def vq:Sp:=λvs H Q _=>∃(t l:Addr) (p:Str) (zs:Ò),vs=[.ref t]/\H t=some (.tup [.str p,.ref l])/\H l=some (Ls zs)/\zs.length<=1000 /\
 ∀(L:Addr) (ts:List Addr) (H':Hp),aj H H'->H L=none->H' L=some (.lst<|ts.map V.ref)->ts.length=zs.length->(∀(j:Nat) t,ts[j]?=some t->H' t=some (Tn p j))->Q (.ref L) H'
section
variable{X:Cx}{elt tg:Expr}{ifs:Õ}{scope:Scope}{σ:St}{H:Hp}{N':Ò}{A:Addr}{after:Hp->Prop}
def k2m{lo:Int}{n:Nat}(Pv:Nat->St->Hp->Prop)(h0:Pv 0 σ H)
  (hs : ∀ i σ' H', i < n → Pv i σ' H' → xS X N' scope tg (.int<|lo + i) σ' H' λσ2 H3 => xT X N' scope ifs σ2 H3 λb H4 =>
   if b=true then xR X N' scope elt σ2 H4 λv H5=>∃ ys,H5 A=some (.lst ys)/\ys.length < sizeLine/\Pv (i+1) σ2 (upd H5 A<|.lst<|ys++[v])else Pv (i+1) σ2 H4)
  (hd:∀ σ' H',Pv n σ' H'->after H'):l9 X N' scope tg ifs elt (rm lo n) A after σ H:=by
 refine⟨λi m σ' H'=>m=n - i/\i<=n/\Pv i σ' H',⟨_,rfl,Bz _,h0⟩,?_⟩;rintro i m σ' H' ⟨rfl,hi,p⟩
 by_cases aY:i < n
 ·refine .inr ⟨aY,Pv<|i+1,λσ' H' p'=>⟨n - (i+1),by omega,rfl,aY,p'⟩,λx H2 y=>?_⟩;obtain⟨e,y⟩:=y;subst e y;exact hs i σ' _ aY p
 ·have e:i=n:=by omega
  subst e;exact .inl ⟨An _,hd σ' H' p⟩
end
section
variable{P:Program}{w:World}{K:PySem.W.Frag}{mg:Ó}{base:Heap}
abbrev Ra:Ò:=["row","point","ties"]
abbrev Rb:Ò:=["row","point","ties","place"]
def kA:ak Ra ["row"] (aU yl):=⟨rfl,rfl,rfl,by decide +kernel,rfl,by decide +kernel,by decide +kernel⟩
def x0i:Rb.Nodup:=by decide +kernel
def q6q{f:Addr}{fd:FuncData}(F:bE K "ends_round" "ends_round" yl f fd)(T:Txt mg):aG P w K mg base bH 1 f fd ["row"] vq:=by
 refine F.gb kA (λvs H Q E h=>?_) λb0 H vs Q E hr h=>?_
 ·obtain⟨t,l,p,zs,rfl,_⟩:=h;rfl
 obtain⟨t,l,p,zs,rfl,ht,hl,hz,q⟩:=h;have nd:=kA.nd;show Run _ _ _ [some<|.ref t,none,none] H;refine xQ<|ae 0<|jd rfl (aJ.of ht) (bg 1 nd<|bg 2 nd ?_);show Run _ _ _ [some<|.ref t,some<|.str p,some<|.ref l] H;refine bQ<|jv (aU yl) Ra Rb 1 (Mt rfl T.range (ta:=uh _ _) i0 (pf _ [] _ rfl)) ?_;show Ea _ _ _ _ _;refine ah (b4 dE T.len DR<|ah<|ae 2<|ax ⟨l,_,rfl,.inl<|aq.of hl,ax ⟨_,rfl,by omega,by rw[Aa];omega,λD hD=>?_⟩⟩);rw[Aa,Bd];refine k2m (λi σ' H'=>(∃ v,σ'=[some<|.ref t,some<|.str p,some<|.ref l]++[v])/\∃ ts:List Addr,ts.length=i/\H' D=some (.lst<|ts.map V.ref)/\(∀(j:Nat) t,ts[j]?=some t->H' t=some (Tn p j))/\aj H H')
  ⟨⟨none,rfl⟩,[],rfl,aA,λj t h=>by simp at h,aS hD _⟩ ?_ ?_
 ·rintro i σ' H' hi ⟨⟨v,rfl⟩,ts,gu,eD,HU,sm⟩;rw[Du];intro cl C' s₀ H₀ ex;refine bg 3 x0i ?_;intro cl C' s₀ H₀ ex;refine i6 ?_;rw[BP rfl];intro cl C' s₀ H₀ ex;refine dR<|ah<|ae 1<|ah<|ae 3<|ax ⟨Z2,λu hu=>?_⟩;have nu:u≠D:=λe=>by rw[e,eD]at hu;cases hu
  have hu0:=ie sm hu;refine⟨ts.map V.ref,by rw[av<|CG nu];exact eD,by rw[Aa];exact b5 (by omega),⟨_,rfl⟩,ts++[u],by rw[Af,gu];rfl,by rw[aA,Ak];rfl,?_,?_⟩
  ·intro j t' gZ
   by_cases hj:j < ts.length
   ·rw[As hj]at gZ;have e:=HU j t' gZ;have n1:t'≠D:=ce e eD λz=>nomatch z;rw[av n1,av<|bq e hu];exact e
   ·rw[Az<|by omega]at gZ;have fO:j - ts.length=0:=by
     have:=(Ac.mp gZ).1;simp at this;omega
    rw[fO]at gZ;cases gZ;have:j=i:=by omega
    rw[this,av nu,aA]
  ·intro c o hc;rw[av<|bq hc hD,av<|bq hc hu0];exact sm _ _ hc
 ·rintro σ' H' ⟨_,ts,gu,eD,HU,sm⟩;exact q D ts H' sm hD eD gu HU
def jg(g:Int->Int):Sp:=λvs H Q _=>∃(e:Addr) (p:Str) (j m:Int),vs=[.ref e,.int m]/\H e=some (Tn p j)/\0 < m/\∀ t H',aj H H'->H' t=some (Tn p<|g j % m)->Q (.ref t) H'
abbrev Rc:Ò:=["end","many","point","place"]
def kC:ak Rc ["end","many"] (aU EL):=⟨rfl,rfl,rfl,by decide +kernel,rfl,by decide +kernel,by decide +kernel⟩
def gG:ak Rc ["end","many"] (aU ER):=⟨rfl,rfl,rfl,by decide +kernel,rfl,by decide +kernel,by decide +kernel⟩
def q5e{f:Addr}{fd:FuncData}(F:bE K "turned_left" "turned_left" EL f fd)(T:Txt mg):aG P w K mg base bH 1 f fd ["end","many"] (jg λj=>j+1):=by
 refine F.gb kC (λvs H Q E h=>?_) λb0 H vs Q E hr h=>?_
 ·obtain⟨e,p,j,m,rfl,_⟩:=h;rfl
 obtain⟨e,p,j,m,rfl,he,hm,q⟩:=h;have nd:=kC.nd;show Run _ _ _ [some<|.ref e,some<|.int m,none,none] H;refine xQ<|ae 0<|jd rfl (aJ.of he) (bg 2 nd<|bg 3 nd ?_);refine bQ (dR<|ah<|ae 2<|ah<|a7 cL<|a7 gM<|ae 3<|aC ⟨_,_,rfl,rfl,ae 1 ⟨_,_,rfl,rfl,(by show 0 < m;exact hm),ax ⟨Z2,λt ht=>?_⟩⟩⟩);exact q t _ (aS ht _) aA
def k8n{f:Addr}{fd:FuncData}(F:bE K "turned_right" "turned_right" ER f fd)(T:Txt mg):aG P w K mg base bH 1 f fd ["end","many"] (jg λj=>j - 1):=by
 refine F.gb gG (λvs H Q E h=>?_) λb0 H vs Q E hr h=>?_
 ·obtain⟨e,p,j,m,rfl,_⟩:=h;rfl
 obtain⟨e,p,j,m,rfl,he,hm,q⟩:=h;have nd:=gG.nd;show Run _ _ _ [some<|.ref e,some<|.int m,none,none] H;refine xQ<|ae 0<|jd rfl (aJ.of he) (bg 2 nd<|bg 3 nd ?_);refine bQ (dR<|ah<|ae 2<|ah<|a7 cL<|a7 Mw<|ae 3<|aC ⟨_,_,rfl,rfl,ae 1 ⟨_,_,rfl,rfl,(by show 0 < m;exact hm),ax ⟨Z2,λt ht=>?_⟩⟩⟩);exact q t _ (aS ht _) aA
theorem Rf{kvs:List (Key×V)}:∀{acc:List (Key×V)},((acc++kvs).map (·.1)).Nodup->kvs.foldl (λa p=>putK a p.1 p.2) acc=acc++kvs:=by
 induction kvs with
 | nil=>intro acc _;simp
 | cons p r ih=>
  intro acc h;have hn:aD acc p.1=none:=by
   cases e:aD acc p.1 with
   | none=>rfl
   | some v=>
    have hm:=B7 e;rw[Ak,Bi]at h;exact absurd rfl ((Cj.mp h).2.2 _ hm _ Ae)
  rw[Dg,Nc _ hn,ih (by rw[Ar];exact h),Ar];rfl
theorem HV:∀{kvs:List (Key×V)} {i:Nat} {p:Key×V},(kvs.map (·.1)).Nodup->kvs[i]?=some p->aD kvs p.1=some p.2
 | [],_,_,_,h=>by simp at h
 | q :: r,0,p,_,h=>by
  cases h;exact g9 rfl
 | q :: r,i+1,p,hn,h=>by
  rw[Bi,Bc]at hn;have hm:r[i]?=some p:=by simpa using h
  rw[gN λe=>hn.1<|by rw[e];exact Al.mpr ⟨p,Au hm,rfl⟩];exact HV hn.2 hm
def du(n:Net)(as:Ð):List (Key×V):=List.zipWith (λr a=>(Sum.inr r.1,V.ref a.2)) n as
theorem HZ:∀(n:Net) (as:Ð),as.length=n.length->(du n as).map (·.1)=(n.map (·.1)).map Sum.inr
 | [],[],_=>rfl
 | [],_ :: _,h=>by simp at h
 | _ :: _,[],h=>by simp at h
 | r :: n,a :: as,h=>by
  have:=HZ n as (by simpa using h);show Sum.inr r.1 :: (du n as).map (·.1)=_;rw[this];rfl
def y4{n:Net}{as:Ð}{i:Nat}{r:Str×List Str}{a:Addr×Addr}(h1:n[i]?=some r)(h2:as[i]?=some a):(du n as)[i]?=some (Sum.inr r.1,.ref a.2):=by
 unfold du;rw[List.getElem?_zipWith,h1,h2]
def Rg{l:Ò}(h:l.Nodup):(l.map (Sum.inr:Str->Key)).Nodup:=by
 rw[Cg,Dz];exact(Cg.mp h).imp λh q=>h<|Sum.inr.inj q
end
def nameAt(n:Net)(r:Nat):Str:=((n[r]?).map (·.1)).getD ⟨#[]⟩
def key(n:Net)(e:Nt.End):List Key:=[Sum.inr<|nameAt n e.1,Sum.inl (e.2:Int)]
abbrev TN(n:Net)(e:Nt.End):HO:=Tn (nameAt n e.1) (e.2:Int)
def qt{n:Net}{r:Nat}(h:r < n.length):nameAt n r=n[r].1:=by unfold nameAt;rw[Ab h];rfl
def qu{n:Net}(hN:(n.map (·.1)).Nodup){a b:Nt.End}(ha:a.1 < n.length)(hb:b.1 < n.length)(h:key n a=key n b):a=b:=by
 unfold key at h
 injection h with h1 h2
 injection h2 with h2 _
 have e1:=Sum.inr.inj h1;have e2:=Sum.inl.inj h2;rw[qt ha,qt hb]at e1;have e3:a.1=b.1:=by
  have la:a.1 < (n.map (·.1)).length:=by rw[Aa];exact ha
  have lb:b.1 < (n.map (·.1)).length:=by rw[Aa];exact hb
  refine(Gf (i:=a.1) (j:=b.1) (h₀:=la) (h₁:=lb) hN).mp ?_;rw[Dq,Dq];exact e1
 exact HX e3<|by omega
def vt{n:Net}{r p:Nat}{z:Str}(hr:r < n.length)(hz:(row n r)[p]?=some z):∃ rest,bh n=(bh (n.take r)++bw r ((row n r).take p) 0)++(z,(r,p)) :: rest:=by
 have e1:bh n=bh (n.take<|r+1)++fz (0+(n.take<|r+1).length) (n.drop<|r+1):=by
  have:=EI (n.take<|r+1) (n.drop<|r+1) 0;rw[Dc]at this;exact this
 have e2:bw r (row n r) 0=bw r ((row n r).take<|p+1) 0++bw r ((row n r).drop<|p+1) (0+((row n r).take<|p+1).length):=by
  unfold bw;rw[<- Ak,<- List.zipIdx_append,Dc]
 rw[e1,rX hr,e2,pL hz];refine⟨bw r ((row n r).drop<|p+1) (0+((row n r).take<|p+1).length)++fz (0+(n.take<|r+1).length) (n.drop<|r+1),?_⟩;simp only[Ar,Fm,Fc]
def Rh{κ:Type} [DecidableEq κ] (kvs:List<|κ×V) (k:κ) (v:V):(putK kvs k v).map (·.1)=if k∈kvs.map (·.1)then kvs.map (·.1)else kvs.map (·.1)++[k]:=by
 have e:(kvs.any λkv=>decide (kv.1=k))=decide (k∈kvs.map (·.1)):=by
  rw[Cn,List.any_eq_true,CK,Al];exact⟨λ⟨p,h1,h2⟩=>⟨p,h1,BX h2⟩,λ⟨p,h1,h2⟩=>⟨p,h1,BW h2⟩⟩
 unfold putK;rw[e]
 by_cases h:k∈kvs.map (·.1)
 ·rw[BP<|BW h,BP h,Cd];refine Ao λp _=>?_;show(if p.1=k then(p.1,v)else p).1=p.1
  split <;> rfl
 ·rw[BL (by simpa using h),BL h,Ak];rfl
def gH{κ:Type} [DecidableEq κ] {kvs:List (κ×V)} {k j:κ} {v:V}:j∈(putK kvs k v).map (·.1)↔j∈kvs.map (·.1)\/j=k:=by
 rw[Rh]
 split
 ·exact⟨.inl,λh=>h.elim id λe=>by rw[e];assumption⟩
 ·rw[Am,Ad]
def Ri{κ:Type} [DecidableEq κ] {kvs:List (κ×V)} {k:κ} {v:V} (h:(kvs.map (·.1)).Nodup):((putK kvs k v).map (·.1)).Nodup:=by
 rw[Rh]
 split
 ·exact h
 ·rename_i hn;exact nJ h hn
structure jh(n:Net)(done:List<|Str×Nt.End)(H:Hp)(kM:List<|Key×V)(kO:List<|List Key×V):Prop where
 m0:∀ z,bL done z=[]->aD kM (Sum.inr z)=none
 m1:∀ z a rest,bL done z=a :: rest->∃ t,aD kM (Sum.inr z)=some (.ref t)/\H t=some (TN n a)
 o:∀ z a b rest,bL done z=a :: b :: rest->(∃ u,aD kO (key n a)=some (.ref u)/\H u=some (TN n b))/\∃ u,aD kO (key n b)=some (.ref u)/\H u=some (TN n a)
 sub:∀ p∈done,aI n p.2=some p.1
 dZ:kM.length<=done.length
 fG:kO.length<=2 * done.length
 ks:∀ k∈kO.map (·.1),∃ p∈done,k=key n p.2
 nd:(kO.map (·.1)).Nodup
def jh.keep{n:Net}{done:List (Str×Nt.End)}{H H':Hp}{kM:List (Key×V)}{kO:List (List Key×V)}(I:jh n done H kM kO)(k:∀ t p j,H t=some (Tn p j)->H' t=some (Tn p j)):jh n done H' kM kO where
 m0:=I.m0
 m1:=λz a rest h=>let ⟨t,e1,e2⟩:=I.m1 z a rest h;⟨t,e1,k _ _ _ e2⟩
 o:=λz a b rest h=>let ⟨⟨u,e1,e2⟩,⟨v,e3,e4⟩⟩:=I.o z a b rest h;⟨⟨u,e1,k _ _ _ e2⟩,⟨v,e3,k _ _ _ e4⟩⟩
 sub:=I.sub
 dZ:=I.dZ
 fG:=I.fG
 ks:=I.ks
 nd:=I.nd
def vw{done:List (Str×Nt.End)}{z:Str}{a:Nt.End}(h:a∈bL done z):(z,a)∈done:=by
 unfold bL at h;obtain⟨⟨y,b⟩,hm,rfl⟩:=Al.mp h;obtain⟨h1,h2⟩:=Bh.mp hm;have:y=z:=BX h2;subst this;exact h1
def jh.new{n:Net}{done:List (Str×Nt.End)}{H:Hp}{kM:List (Key×V)}{kO:List (List Key×V)}(I:jh n done H kM kO){z:Str}{e:Nt.End}{t:Addr}(ht:H t=some (TN n e))(hz:aI n e=some z)(h0:bL done z=[]) :
  jh n (done++[(z,e)]) H (putK kM (Sum.inr z)<|.ref t) kO where
 m0:=λy hy=>by
  rw[dk]at hy;obtain⟨h1,h2⟩:=Fa.mp hy;have bn:¬ z=y:=λq=>by rw[BP q]at h2;cases h2
  rw[dz,BL λq=>bn (Sum.inr.inj q).symm];exact I.m0 y h1
 m1:=λy a rest hy=>by
  rw[dk]at hy
  by_cases q:z=y
  ·subst q;rw[h0,BP rfl]at hy;cases hy;exact⟨t,by rw[dz,BP rfl],ht⟩
  ·rw[BL q,Bg]at hy;obtain⟨u,e1,e2⟩:=I.m1 y a rest hy;exact⟨u,by rw[dz,BL λp=>q (Sum.inr.inj p).symm];exact e1,e2⟩
 o:=λy a b rest hy=>by
  rw[dk]at hy
  by_cases q:z=y
  ·subst q;rw[h0,BP rfl]at hy;cases hy
  ·rw[BL q,Bg]at hy;exact I.o y a b rest hy
 sub:=λp hp=>by
  rcases Am.mp hp with h | h
  ·exact I.sub p h
  ·rw[Ad.mp h];exact hz
 dZ:=by
  have:=iB kM (Sum.inr z)<|.ref t;have:=I.dZ;rw[Af,Ct];omega
 fG:=by
  have:=I.fG;rw[Af,Ct];omega
 ks:=λk hk=>let ⟨p,hp,e⟩:=I.ks k hk;⟨p,Ba _ hp,e⟩
 nd:=I.nd
def jh.old{n:Net}(hN:(n.map (·.1)).Nodup){done:List (Str×Nt.End)}{H:Hp}{kM:List (Key×V)}{kO:List (List Key×V)}(I:jh n done H kM kO){z:Str}{e a:Nt.End}{te tm:Addr}(ht:H te=some (TN n e))(hm:H tm=some (TN n a))(hz:aI n e=some z)(h1:bL done z=[a])(hae:a≠e) :
  jh n (done++[(z,e)]) H kM (putK (putK kO (key n e)<|.ref tm) (key n a)<|.ref te) where
 m0:=λy hy=>by
  rw[dk]at hy;exact I.m0 y (Fa.mp hy).1
 m1:=λy c rest hy=>by
  rw[dk]at hy
  by_cases q:z=y
  ·subst q;rw[h1,BP rfl]at hy;cases hy;exact I.m1 z a [] h1
  ·rw[BL q,Bg]at hy;exact I.m1 y c rest hy
 o:=λy c b rest hy=>by
  rw[dk]at hy;have ta:aI n a=some z:=I.sub (z,a)<|vw<|by rw[h1];exact Ad.mpr rfl
  by_cases q:z=y
  ·subst q;rw[h1,BP rfl]at hy;cases hy;refine⟨⟨te,by rw[dz,BP rfl],ht⟩,⟨tm,?_,hm⟩⟩;rw[dz,BL λp=>hae (qu hN (cQ hz) (cQ ta) p).symm,dz,BP rfl]
  ·rw[BL q,Bg]at hy;have tc:aI n c=some y:=I.sub (y,c) (vw<|by rw[hy];exact Ae);have tb:aI n b=some y:=I.sub (y,b) (vw<|by rw[hy];exact Ah _ Ae);have ne:∀ x:Nt.End,aI n x=some y->¬ key n x=key n a/\¬ key n x=key n e:=λx hx=>by
    refine⟨λp=>?_,λp=>?_⟩
    ·have:=qu hN (cQ hx) (cQ ta) p;rw[this,ta]at hx;exact q<|Option.some.inj hx
    ·have:=qu hN (cQ hx) (cQ hz) p;rw[this,hz]at hx;exact q<|Option.some.inj hx
   obtain⟨⟨u,e1,e2⟩,⟨v,e3,e4⟩⟩:=I.o y c b rest hy;refine⟨⟨u,?_,e2⟩,⟨v,?_,e4⟩⟩
   ·rw[dz,BL (ne c tc).1,dz,BL (ne c tc).2];exact e1
   ·rw[dz,BL (ne b tb).1,dz,BL (ne b tb).2];exact e3
 sub:=λp hp=>by
  rcases Am.mp hp with h | h
  ·exact I.sub p h
  ·rw[Ad.mp h];exact hz
 dZ:=by
  have:=I.dZ;rw[Af,Ct];omega
 fG:=by
  have h1:=iB (putK kO (key n e)<|.ref tm) (key n a)<|.ref te;have h2:=iB kO (key n e)<|.ref tm;have:=I.fG;rw[Af,Ct];omega
 ks:=λk hk=>by
  rcases gH.mp hk with hk | rfl
  ·rcases gH.mp hk with hk | rfl
   ·obtain⟨p,hp,e⟩:=I.ks k hk;exact⟨p,Ba _ hp,e⟩
   ·exact⟨(z,e),Ax _<|Ad.mpr rfl,rfl⟩
  ·exact⟨(z,a),Ba _ (vw<|by rw[h1];exact Ad.mpr rfl),rfl⟩
 nd:=Ri<|Ri I.nd
def jh.whole{n:Net}(T:aw n){H:Hp}{kM:List (Key×V)}{kO:List (List Key×V)}(I:jh n (bh n) H kM kO){e:Nt.End}(he:e∈ends n):∃ u,aD kO (key n e)=some (.ref u)/\H u=some (TN n<|other n e):=by
 obtain⟨z,hz⟩:=af.mp he;obtain⟨a,b,hp,gn,rQ⟩:=pJ T hz;have km:bL (bh n) z=a :: b :: []:=hp;have ta:aI n a=some z:=aK.mp (by rw[hp];simp);have tb:aI n b=some z:=aK.mp (by rw[hp];simp);obtain⟨o1,o2⟩:=I.o z a b [] km
 rcases rQ with rfl | rfl
 ·have:b=other n e:=((li T hz).mp tb).resolve_left<|CG gn;rw[<- this];exact o1
 ·have:a=other n e:=((li T hz).mp ta).resolve_left gn;rw[<- this];exact o2
def mW:Sp:=λvs H Q _=>∃(R:Addr) (as:Ð) (n:Net),vs=[.ref R]/\ai H R as n/\(n.map (·.1)).Nodup/\aw n/\n.length<=1000/\(ag n).length<=1000 /\
 ∀(d:Addr) (kvs:List<|List Key×V) (H':Hp),aj H H'->H d=none->H' d=some (.dT kvs)->(∀ e∈ends n,∃ u,aD kvs (key n e)=some (.ref u)/\H' u=some (TN n<|other n e))->(kvs.map (·.1)).Nodup->(∀ k∈kvs.map (·.1),∃ e∈ends n,k=key n e)->kvs.length<=2000->Q (.ref d) H'
section
variable{X:Cx}{D:Ends}{σ:St}{H:Hp}{body:Ö}
def q04{tg:Expr}{a b:Addr}{xs ys:List V}{after:St->Hp->Prop}(hlen:xs.length=ys.length)(Pv:Nat->St->Hp->Prop)(h0:Pv 0 σ H)(hl:∀ i σ H,i<=xs.length->Pv i σ H->aq X.K H a xs/\aq X.K H b ys)
  (hs:∀ i x y T σ H,xs[i]?=some x->ys[i]?=some y->Pv i σ H->H T=none->Eg X tg (.ref T) σ (upd H T<|.tup [x,y]) λσ2 H2=>Run X body {D with nx:=Pv<|i+1,ct:=Pv<|i+1,bk:=after} σ2 H2) (hd:∀ σ H,Pv xs.length σ H->after σ H):Loop X tg body (yE X.K a b) D after σ H:=by
 refine⟨λi m σ H=>m=xs.length - i/\i<=xs.length/\Pv i σ H,⟨xs.length,by simp,Bz _,h0⟩,?_⟩;rintro i m σ H ⟨rfl,hi,p⟩;obtain⟨q1,q2⟩:=hl i σ H hi p
 by_cases aY:i < xs.length
 ·refine .inr ⟨⟨xs,ys,xs[i],ys[i],q1,q2,Ab aY,Ab<|by omega⟩,Pv<|i+1,λσ' H' p'=>⟨xs.length - (i+1),by omega,rfl,aY,p'⟩,λv H' y=>?_⟩;obtain⟨T,x,y,hT,rfl,rfl,y1,y2⟩:=y;exact hs i x y T σ _ (y1 xs q1) (y2 ys q2) p hT
 ·have e:i=xs.length:=by omega
  subst e;exact .inl ⟨⟨xs,ys,q1,q2,.inl<|An _⟩,hd σ H p⟩
end
section
variable{P:Program}{w:World}{K:PySem.W.Frag}{mg:Ó}{base:Heap}
abbrev NOE:Ò:=["rows","met","others","row","end","tie"]
def vx:ak NOE ["rows"] (aU EV):=⟨rfl,rfl,rfl,by decide +kernel,rfl,by decide +kernel,by decide +kernel⟩
def Rj{H:Hp}{t d:Addr}{xs:List V}{kvs:List (Key×V)}(h:H t=some (.tup xs))(g:H d=some (.dK kvs)):t≠d:=ce h g λz=>nomatch z
def ll{H:Hp}{t d:Addr}{xs:List V}{kvs:List (List Key×V)}(h:H t=some (.tup xs))(g:H d=some (.dT kvs)):t≠d:=ce h g λz=>nomatch z
def x1c{f:Addr}{fd:FuncData}(F:bE K "other_ends" "other_ends" EV f fd)(T:Txt mg)
  (GE:aQ P w K mg base 1 "ends_round" ["row"] vq) :
  aG P w K mg base bH 2 f fd ["rows"] mW:=by
 refine F.gb vx (λvs H Q E h=>?_) λb0 H vs Q E hr h=>?_
 ·obtain⟨R,as,n,rfl,_⟩:=h;rfl
 obtain⟨R,as,n,rfl,hR,hN,hT,hn,ht,q⟩:=h;have nd:=vx.nd;have bU:=hR.len;have hu:=hr.u1;show Run _ _ _ [some<|.ref R,none,none,none,none,none] H;refine aX 1 nd<|EF λdm pY=>?_;refine aX 2 nd<|Y8 λdO y7=>?_;show Run _ _ _ [some<|.ref R,some<|.ref dm,some<|.ref dO,none,none,none] (upd (upd H dm<|.dK []) dO<|.dT []);have vy:dO≠dm:=λe=>by rw[e,aA]at y7;cases y7
 have qv:H dO=none:=by rw[av vy]at y7;exact y7
 have em:(upd (upd H dm<|.dK []) dO<|.dT []) dm=some (.dK []):=by rw[av<|CG vy,aA]
 have eo:(upd (upd H dm<|.dK []) dO<|.dT []) dO=some (.dT []):=aA;have s0:aj H (upd (upd H dm<|.dK []) dO<|.dT []):=λb o h=>by rw[av<|bq h qv,av<|bq h pY];exact h
 generalize upd (upd H dm<|.dK []) dO (.dT [])=H1 at em eo s0 ⊢;refine jU<|ae 0 ⟨R,rfl,⟨_,aq.of<|s0 _ _ hR.lst⟩,jV (xs:=as.map λa=>V.ref a.1) (λr σ H'=>∃ kM kO u1 u2 u3,aj H H'/\H' dm=some (.dK kM)/\H' dO=some (.dT kO)/\jh n (bh<|n.take r) H' kM kO/\σ=[some<|.ref R,some<|.ref dm,some<|.ref dO,u1,u2,u3])
  ⟨[],[],_,_,_,s0,em,eo,⟨λ_ _=>rfl,λz a rest h=>(by cases h),λz a b rest h=>(by cases h),λp h=>(by cases h),Bz _,Bz _,λk h=>(by cases h),Ch⟩,rfl⟩ ?_ ?_ ?_⟩
 ·rintro r σ H' _ ⟨kM,kO,u1,u2,u3,sm,_⟩;exact aq.of<|sm _ _ hR.lst
 ·rintro r x σ H' hx ⟨kM,kO,u1,u2,u3,sm,Rk,Ia,I,rfl⟩;have hi:r < n.length:=by
   have:=(Ac.mp hx).1;rw[Aa]at this;omega
  obtain⟨a,ea,cW,et,el,er⟩:=(hR.same sm).at hi;rw[Ai,ea]at hx;cases hx;have fE:(row n r).length<=1000:=By (iD n r) ht;have enm:nameAt n r=n[r].1:=qt hi;refine bg 3 nd ?_;refine C0 (Pz rfl T.zip (ta:=uh _ _) i0) ?_;show Ea _ _ _ _ _;refine ah<|bj GE hr<|ah<|ae 3<|ax ⟨a.1,a.2,n[r].1,row n r,rfl,et,el,fE,λL ts H5 s5 n5 e5 l5 t5=>?_⟩;refine ah<|aP bt<|ae 3<|aC ⟨a.1,_,_,.ref a.2,rfl,rfl,aJ.of<|s5 _ _ et,rfl,ax ⟨L,a.2,rfl,⟨_,aq.of e5⟩,⟨_,aq.of<|s5 _ _ el⟩,?_⟩⟩;have y8:=s5 _ _ Rk;have y9:=s5 _ _ Ia;have sQ:=s5 _ _ el;refine q04 (xs:=ts.map V.ref) (ys:=(row n r).map V.str) (by rw[Aa,Aa,l5]) (λp σ' bR=>∃ kM kO u2 u3,(∀ b o,b≠dm->b≠dO->H5 b=some o->bR b=some o)/\bR dm=some (.dK kM)/\bR dO=some (.dT kO)/\jh n (bh (n.take r)++bw r ((row n r).take p) 0) bR kM kO/\σ'=[some<|.ref R,some<|.ref dm,some<|.ref dO,some<|.ref a.1,u2,u3])
   ⟨kM,kO,_,_,λb o _ _ h=>h,y8,y9,?_,rfl⟩ ?_ ?_ ?_
  ·have:bw r ((row n r).take 0) 0=[]:=by simp[bw]
   rw[this,Bg];exact I.keep λt p j h=>s5 _ _ h
  ·rintro p σ' bR _ ⟨kM,kO,u2,u3,kb,_,_,_,rfl⟩;exact⟨aq.of (kb _ _ (ce e5 y8 λz=>nomatch z) (ce e5 y9 λz=>nomatch z) e5),aq.of<|kb _ _ (ce sQ y8 λz=>nomatch z) (ce sQ y9 λz=>nomatch z) sQ⟩
  ·rintro p x y Tt σ' bR hx hy ⟨kM,kO,u2,u3,kb,zg,zh,I6,rfl⟩ ji;rw[Ai,Ay]at hx hy;obtain⟨te,ou,rfl⟩:=hx;obtain⟨z,hz,rfl⟩:=hy;have mX:=t5 p te ou;have vz:bR te=some (Tn n[r].1 p):=kb _ _ (Rj mX y8) (ll mX y9) mX;have mY:aI n (r,p)=some z:=hz;obtain⟨rest,dD⟩:=vt hi hz;have hlen:(bh (n.take r)++bw r ((row n r).take p) 0).length < 1000:=by
    have h1:(bh n).length=(ag n).length:=by
     have:=BZ List.length<|k6 n 0;rw[Aa]at this;exact this
    have h2:=BZ List.length dD;rw[Af,Ap]at h2;omega
   have iP:bh (n.take r)++bw r ((row n r).take<|p+1) 0=(bh (n.take r)++bw r ((row n r).take p) 0)++[(z,(r,p))]:=by
    rw[pL hz,Ar]
   have kD:∀ b,b∈bL (bh (n.take r)++bw r ((row n r).take p) 0) z->b≠(r,p):=λb hb e=>by
    have hm:=vw hb;have mr:=rV n;unfold ends at mr;rw[dD,Ak,Bi]at mr;exact(Cj.mp mr).2.2 _ (Al.mpr ⟨_,hm,rfl⟩) _ Ae e
   have vA:(bL (bh (n.take r)++bw r ((row n r).take p) 0) z).length<=1:=by
    have h1:(pos n z).length=2:=by rw[pI];exact hT z<|eU mY
    have h2:pos n z=bL (bh (n.take r)++bw r ((row n r).take p) 0) z++bL ((z,(r,p)) :: rest) z:=by
     show bL (bh n) z=_;rw[dD];unfold bL;rw[Cr,Ak]
    have h3:1<=(bL ((z,(r,p)) :: rest) z).length:=by
     unfold bL;rw[Db,BP<|by simp];simp
    rw[h2,Af]at h1;omega
   generalize bh (n.take r)++bw r ((row n r).take p) 0=done at I6 hlen iP kD vA;rw[iP];have hTm:Tt≠dm:=λe=>by rw[e,zg]at ji;cases ji
   have hTo:Tt≠dO:=λe=>by rw[e,zh]at ji;cases ji
   have s7:=aS ji<|.tup [.ref te,.str z];have Ib:∀ b o,b≠dm->b≠dO->H5 b=some o->(upd bR Tt<|.tup [.ref te,.str z]) b=some o:=λb o h1 h2 h=>s7 _ _<|kb b o h1 h2 h;have sR:=s7 _ _ zg;have sS:=s7 _ _ zh;have I7:=I6.keep (H':=upd bR Tt<|.tup [.ref te,.str z]) λt p j h=>s7 _ _ h;have mZ:=s7 _ _ vz;refine jd rfl (aJ.of aA) (bg 4 nd<|bg 5 nd ?_);show Run _ _ _ [some<|.ref R,some<|.ref dm,some<|.ref dO,some<|.ref a.1,some<|.ref te,some<|.str z] _;generalize upd bR Tt (.tup [.ref te,.str z])=H7 at Ib sR sS I7 mZ;have qw:H7 te=some (TN n (r,p)):=by
    show H7 te=some (Tn (nameAt n r) p);rw[enm];exact mZ
   have hM:kM.length < sizeLine:=b5 (by have:=I7.dZ;omega);have hO:kO.length < sizeLine:=b5 (by have:=I7.fG;omega);refine c9<|OW hu<|ae 5<|ae 1 ⟨dm,_,rfl,a8.k (k:=Sum.inr z) sR,?_⟩
   match jD:bL done z with
   | []=>
    rw[I7.m0 z jD];show if false=true then _ else _;rw[BL Av];refine uB hu<|ae 4<|ae 1<|ae 5 ⟨dm,_,rfl,bZ.k (k:=Sum.inr z) sR hM,aW<|aW ⟨_,kO,_,_,λb o h1 h2 h=>?_,aA,?_,?_,rfl⟩⟩
    ·rw[av h1];exact Ib b o h1 h2 h
    ·rw[av vy];exact sS
    ·exact(I7.new qw mY jD).keep λt p j h=>by rw[av<|Rj h sR];exact h
   | b :: more=>
    have vB:more=[]:=by
     rw[jD,Ap]at vA;exact Bj.mp<|by omega
    subst vB;obtain⟨tm,vm,Ic⟩:=I7.m1 z b [] jD;rw[vm];show if true=true then _ else _;rw[BP rfl];have lF:b≠(r,p):=kD b (by rw[jD];exact Ad.mpr rfl);refine uB hu (gR hu<|ae 1<|ae 5 ⟨dm,.ref tm,rfl,by rw[<- vm];exact a8.k (k:=Sum.inr z) sR,ae 2<|ae 4 ⟨dO,_,rfl,bZ.t (k:=key n (r,p)) sS qw hO,?_⟩⟩);have hO2:=iB kO (key n (r,p))<|.ref tm;have hO3:=I7.fG;have Rl:(upd H7 dO<|.dT<|putK kO (key n (r,p))<|.ref tm) dm=some (.dK kM):=by rw[av<|CG vy];exact sR
    have Ie:(upd H7 dO<|.dT<|putK kO (key n (r,p))<|.ref tm) tm=some (TN n b):=by rw[av<|ll Ic sS];exact Ic
    refine uB hu<|ae 4<|ae 2<|gR hu<|ae 1<|ae 5 ⟨dm,.ref tm,rfl,by rw[<- vm];exact a8.k (k:=Sum.inr z) Rl,dO,_,rfl,bZ.t (k:=key n b) aA Ie (b5<|by omega),aW<|aW ⟨kM,_,_,_,λb o h1 h2 h=>?_,?_,aA,?_,rfl⟩⟩
    ·rw[av h2,av h2];exact Ib b o h1 h2 h
    ·rw[av<|CG vy];exact Rl
    ·exact(I7.old hN qw Ic mY jD lF).keep λt p j h=>by rw[av<|ll h sS,av<|ll h sS];exact h
  ·rintro σ' bR ⟨kM,kO,u2,u3,kb,zg,zh,I6,rfl⟩;refine aW ⟨kM,kO,_,_,_,λb o h=>?_,zg,zh,?_,rfl⟩
   ·exact kb b o (bq h pY) (bq h qv)<|s5 _ _<|sm _ _ h
   ·rw[Aa,l5,Bx]at I6;rw[rX hi];exact I6
 ·rintro σ H' ⟨kM,kO,u1,u2,u3,sm,Rk,Ia,I,rfl⟩;rw[Aa,bU,Bx]at I;have lO:=I.fG;have ls:(bh n).length=(ag n).length:=by rw[<- k6 n 0,Aa];rfl
  exact bQ<|ae 2<|q dO kO H' sm qv Ia (λe he=>I.whole hT he) I.nd (λk hk=>let ⟨p,hp,e⟩:=I.ks k hk;⟨p.2,Al.mpr ⟨p,hp,rfl⟩,e⟩)<|by omega
end
def m4(n:Net)(H:Hp)(us:List Addr)(done:List<|Str×Nt.End):Prop:=us.length=done.length/\∀(j:Nat) u p,us[j]?=some u->done[j]?=some p->H u=some (TN n p.2)
def m4.keep{n:Net}{H H':Hp}{us:List Addr}{done:List (Str×Nt.End)}(h:m4 n H us done)(k:∀ t p j,H t=some (Tn p j)->H' t=some (Tn p j)):m4 n H' us done:=⟨h.1,λj u p h1 h2=>k _ _ _<|h.2 j u p h1 h2⟩
def m4.snoc{n:Net}{H H':Hp}{us:List Addr}{done:List (Str×Nt.End)}{u:Addr}{p:Str×Nt.End}(h:m4 n H us done)(k:∀ t p j,H t=some (Tn p j)->H' t=some (Tn p j))(hu:H' u=some (TN n p.2)):m4 n H' (us++[u]) (done++[p]):=by
 obtain⟨hl,ha⟩:=h;refine⟨by rw[Af,Af,hl];rfl,λj v x hv hx=>?_⟩
 by_cases hj:j < us.length
 ·rw[As hj]at hv;rw[As<|by omega]at hx;exact k _ _ _<|ha j v x hv hx
 ·rw[Az<|by omega]at hv hx;have fO:j - us.length=0:=by
   have:=(Ac.mp hv).1;simp at this;omega
  have hj3:j - done.length=0:=by omega
  rw[fO]at hv;rw[hj3]at hx;cases hv;cases hx;exact hu
section
variable{X:Cx}{tg:Expr}{ifs:Õ}{inner:Sem Unit}{σ:St}{H:Hp}{a b:Addr}{xs ys:List V}{after:St->Hp->Prop}
def vC(Pv:Nat->St->Hp->Prop)(h0:Pv 0 σ H)(hl:∀ i σ' H',i<=xs.length->Pv i σ' H'->aq X.K H' a xs)
  (hs:∀ i x σ' H',xs[i]?=some x->Pv i σ' H'->Eg X tg x σ' H' λσ2 H3=>Ei X ifs σ2 H3 λb H4=>if b=true then kW X inner σ2 H4 (Pv<|i+1)else Pv (i+1) σ2 H4)
  (hd:∀ σ' H',Pv xs.length σ' H'->after σ' H'):hG X tg ifs inner (oW X.K a) after σ H:=by
 refine⟨λi m σ' H'=>m=xs.length - i/\i<=xs.length/\Pv i σ' H',⟨_,rfl,Bz _,h0⟩,?_⟩;rintro i m σ' H' ⟨rfl,hi,p⟩;have q:=hl i σ' H' hi p
 by_cases aY:i < xs.length
 ·refine .inr ⟨⟨xs,xs[i],q,by simp[aY]⟩,Pv<|i+1,λσ' H' p'=>⟨xs.length - (i+1),by omega,rfl,aY,p'⟩,λx H2 y=>?_⟩;obtain⟨e,y⟩:=y;subst e;exact hs i x σ' _ (y xs q) p
 ·have e:i=xs.length:=by omega
  subst e;exact .inl ⟨⟨xs,q,An _⟩,hd σ' H' p⟩
def k2f(hlen:xs.length=ys.length)(Pv:Nat->St->Hp->Prop)(h0:Pv 0 σ H)(hl:∀ i σ' H',i<=xs.length->Pv i σ' H'->aq X.K H' a xs/\aq X.K H' b ys)
  (hs:∀ i x y T σ' H',xs[i]?=some x->ys[i]?=some y->Pv i σ' H'->H' T=none->Eg X tg (.ref T) σ' (upd H' T<|.tup [x,y]) λσ2 H3=>Ei X ifs σ2 H3 λb H4=>if b=true then kW X inner σ2 H4 (Pv<|i+1)else Pv (i+1) σ2 H4)
  (hd:∀ σ' H',Pv xs.length σ' H'->after σ' H'):hG X tg ifs inner (yE X.K a b) after σ H:=by
 refine⟨λi m σ' H'=>m=xs.length - i/\i<=xs.length/\Pv i σ' H',⟨_,rfl,Bz _,h0⟩,?_⟩;rintro i m σ' H' ⟨rfl,hi,p⟩;obtain⟨q1,q2⟩:=hl i σ' H' hi p
 by_cases aY:i < xs.length
 ·refine .inr ⟨⟨xs,ys,xs[i],ys[i],q1,q2,Ab aY,Ab<|by omega⟩,Pv<|i+1,λσ' H' p'=>⟨xs.length - (i+1),by omega,rfl,aY,p'⟩,λv H2 y=>?_⟩;obtain⟨T,x,y,hT,rfl,rfl,y1,y2⟩:=y;exact hs i x y T σ' _ (y1 xs q1) (y2 ys q2) p hT
 ·have e:i=xs.length:=by omega
  subst e;exact .inl ⟨⟨xs,ys,q1,q2,.inl<|An _⟩,hd σ' H' p⟩
end
def Ig:Sp:=λvs H Q _=>∃(R:Addr) (as:Ð) (n:Net),vs=[.ref R]/\ai H R as n/\n.length<=1000/\(ag n).length<=1000 /\
 ∀(L:Addr) (ts:List Addr) (H':Hp),aj H H'->H L=none->H' L=some (.lst<|ts.map V.ref)->m4 n H' ts (bh n)->Q (.ref L) H'
section
variable{P:Program}{w:World}{K:PySem.W.Frag}{mg:Ó}{base:Heap}
abbrev Rm:Ò:=["rows"]
abbrev Rn:Ò:=["rows","row","end"]
def iQ:ak Rm ["rows"] (aU ym):=⟨rfl,rfl,rfl,by decide +kernel,rfl,by decide +kernel,by decide +kernel⟩
def Ro:Rn.Nodup:=by decide +kernel
def q14{f:Addr}{fd:FuncData}(F:bE K "ends_in_order" "ends_in_order" ym f fd)(T:Txt mg)
  (GE:aQ P w K mg base 1 "ends_round" ["row"] vq) :
  aG P w K mg base bH 2 f fd ["rows"] Ig:=by
 refine F.gb iQ (λvs H Q E h=>?_) λb0 H vs Q E hr h=>?_
 ·obtain⟨R,as,n,rfl,_⟩:=h;rfl
 obtain⟨R,as,n,rfl,hR,hn,ht,q⟩:=h;have nd:=iQ.nd;have bU:=hR.len;show Run _ _ _ [some<|.ref R] H;refine bQ<|q1v (aU ym) Rm Rn 2 (fU bv)<|ae 0 ⟨R,rfl,⟨_,aq.of hR.lst⟩,λD hD cl C s₀ H₀ ex=>?_⟩;refine vC (xs:=as.map λa=>V.ref a.1) (λr σ' H'=>(∃ v1 v2,σ'=[some<|.ref R]++[v1,v2])/\∃ ts:List Addr,aj H H'/\H' D=some (.lst<|ts.map V.ref)/\m4 n H' ts (bh<|n.take r)) ⟨⟨none,none,rfl⟩,[],aS hD _,aA,⟨rfl,λj u p h=>(by cases h)⟩⟩ ?_ ?_ ?_
 ·rintro r σ' H' _ ⟨_,ts,sm,_⟩;exact aq.of<|sm _ _ hR.lst
 ·rintro r x σ' H' hx ⟨⟨v1,v2,rfl⟩,ts,sm,eD,AN⟩;have hi:r < n.length:=by
   have:=(Ac.mp hx).1;rw[Aa]at this;omega
  obtain⟨a,ea,cW,et,el,er⟩:=(hR.same sm).at hi;rw[Ai,ea]at hx;cases hx;have fE:(row n r).length<=1000:=By (iD n r) ht;refine bg 1 Ro ?_;refine i6 ?_;rw[BP rfl];refine q0c rfl rfl (fU bv) (bj GE hr<|ah<|ae 1<|ax ⟨a.1,a.2,n[r].1,row n r,rfl,et,el,fE,λL us H5 s5 n5 e5 l5 t5=>⟨L,rfl,⟨_,aq.of e5⟩,?_⟩⟩);have Ih:L≠D:=λe=>by rw[e,eD]at n5;cases n5
  refine vC (xs:=us.map V.ref) (λp σ' bR=>(∃ v2,σ'=[some<|.ref R]++[some<|.ref a.1,v2])/\∃ ts:List Addr,(∀ b o,b≠D->H5 b=some o->bR b=some o)/\bR D=some (.lst<|ts.map V.ref)/\m4 n bR ts (bh (n.take r)++bw r ((row n r).take p) 0))
   ⟨⟨_,rfl⟩,ts,λb o _ h=>h,s5 _ _ eD,by simpa[bw]using AN.keep (H':=H5) λt p j h=>s5 _ _ h⟩ ?_ ?_ ?_
  ·rintro p σ' bR _ ⟨_,ts,kb,_⟩;exact aq.of<|kb _ _ Ih e5
  ·rintro p x σ' bR hx ⟨⟨v2,rfl⟩,ts,kb,ig,vD⟩;rw[Ai,Ay]at hx;obtain⟨te,ou,rfl⟩:=hx;have hp:p < (row n r).length:=by have:=(Ac.mp ou).1;omega
   have hz:(row n r)[p]?=some (row n r)[p]:=Ab hp;generalize (row n r)[p]=z at hz;have mX:=t5 p te ou;have zi:te≠D:=ce mX (s5 _ _ eD) λz=>nomatch z;have vz:=kb _ _ zi mX;obtain⟨rest,dD⟩:=vt hi hz;have hlen:ts.length < 1000:=by
    have h1:(bh n).length=(ag n).length:=by
     have:=BZ List.length<|k6 n 0;rw[Aa]at this;exact this
    have h2:=BZ List.length dD;rw[Af,Ap]at h2;have:=vD.1;omega
   refine bg 2 Ro ?_;refine i6 ?_;rw[BP rfl];refine NY (ae 2 ⟨ts.map V.ref,ig,by rw[Aa];exact b5 (by omega),⟨_,rfl⟩,ts++[te],λb o hb h=>by rw[av hb];exact kb b o hb h,by rw[aA,Ak];rfl,?_⟩);rw[pL hz,<- Ar];refine vD.snoc (λt p j h=>by rw[av<|ce h ig λz=>nomatch z];exact h) ?_;rw[av zi];show bR te=some (Tn (nameAt n r) p);rw[qt hi];exact vz
  ·rintro σ' bR ⟨⟨v2,rfl⟩,ts,kb,ig,vD⟩;refine⟨⟨_,_,rfl⟩,ts,λb o h=>kb b o (bq h hD)<|s5 _ _<|sm _ _ h,ig,?_⟩;rw[Aa,l5,Bx,<- rX hi]at vD;exact vD
 ·rintro σ' H' ⟨_,ts,sm,eD,AN⟩;rw[Aa,bU,Bx]at AN;exact q D ts H' sm hD eD AN
end
section
variable{X:Cx}{H:Hp}
def Rp{k:Nat}(z:Str):j5 X H k (.str z) (.str z) true:=by
 have:=uz (X:=X) (H:=H) (k:=k) (x:= .str z) (y:= .str z) rfl rfl;have e:cM (.str z) (.str z)=true:=by show(z == z)=true;simp
 rw[e]at this;exact this
theorem q95{p p':Str}{j j':Int}:∀(i:Nat) (u v:V),[V.str p,.int j][i]?=some u->[V.str p',.int j'][i]?=some v->j5 X H 0 u v (if i=0 then cM (.str p) (.str p')else cM (.int j) (.int j'))
 | 0,u,v,h1,h2=>by
  cases h1;cases h2;exact uz rfl rfl
 | 1,u,v,h1,h2=>by
  cases h1;cases h2;exact uz rfl rfl
 | i+2,u,v,h1,h2=>by simp at h1
def q8t(p p':Str)(j j':Int):(cM (.str p) (.str p') && cM (.int j) (.int j'))=decide (p=p'/\j=j'):=by
 show((p == p') && (j == j'))=_
 by_cases h:p=p' <;> by_cases h2:j=j' <;> simp[h,h2]
def q8e{s t:Addr}{p p':Str}{j j':Int}(hs:H s=some (Tn p j))(ht:H t=some (Tn p' j')):rT X H 1 (.ref s) (.ref t) (decide (p=p'/\j=j')):=by
 have:=OT (X:=X) (k:=0) (λi=>if i=0 then cM (.str p) (.str p')else cM (.int j) (.int j')) (aJ.of hs) (aJ.of ht) rfl q95;rw[show([V.str p,.int j].length)=2 from rfl,all2]at this;have e:=q8t p p' j j';simp only[DN]at this;rw[BL (by decide),e]at this;exact this
def q23{a b:Addr}{zs:Ò}(ha:H a=some (Ls zs))(hb:H b=some (Ls zs)):mF X H 1 (.ref a) (.ref b) true:=by
 have q:=OO (X:=X) (k:=0) (λ_=>true) (aq.of (K:=X.K) ha) (aq.of (K:=X.K) hb) rfl λj x y hx hy=>by
  rw[hx]at hy;cases hy;rw[Ai,Ay]at hx;obtain⟨z,_,rfl⟩:=hx;exact Rp z
 rw[EC]at q;exact q
def Rq{k:Nat}{a b:Addr}(h:mF X H k (.ref a) (.ref b) true):j5 X H k (.ref a) (.ref b) true:=by
 by_cases e:a=b
 ·subst e;exact Y0
 ·exact Y1 e h
def q19{R R':Addr}{as bs:Ð}{n:Net}(h:ai H R as n)(g:ai H R' bs n):mF X H 3 (.ref R) (.ref R') true:=by
 have q:=OO (X:=X) (k:=2) (λ_=>true) (aq.of (K:=X.K) h.lst) (aq.of (K:=X.K) g.lst) (by rw[Aa,Aa,h.len,g.len]) λj x y hx hy=>by
  rw[Ai,Ay]at hx hy;obtain⟨a,ea,rfl⟩:=hx;obtain⟨b,eb,rfl⟩:=hy;have hj:j < n.length:=by
   have:=(Ac.mp ea).1;have:=h.len;omega
  obtain⟨q1,q2⟩:=h.tup j a n[j] ea<|Ab hj;obtain⟨q3,q4⟩:=g.tup j b n[j] eb<|Ab hj;have t:=OQ (X:=X) (k:=1) (λ_=>true) (aJ.of (K:=X.K) q1) (aJ.of (K:=X.K) q3) rfl λi x y hx hy=>by
   match i with
   | 0=>cases hx;cases hy;exact Rp _
   | 1=>cases hx;cases hy;exact Rq<|q23 q2 q4
   | i+2=>simp at hx
  rw[EC]at t;exact Rq t
 rw[EC]at q;exact q
end
def m5:Sp:=λvs H Q _=>∃(R:Addr) (as:Ð) (n:Net),vs=[.ref R]/\ai H R as n/\(n.map (·.1)).Nodup/\n.length<=1000/\(ag n).length<=1000 /\
 ∀(d:Addr) (kvs:List<|List Key×V) (H':Hp),aj H H'->H d=none->H' d=some (.dT kvs)->(∀ e z,aI n e=some z->aD kvs (key n e)=some (.str z))->Q (.ref d) H'
section
variable{P:Program}{w:World}{K:PySem.W.Frag}{mg:Ó}{base:Heap}
abbrev Rr:Ò:=["rows"]
abbrev Rt:Ò:=["rows","row","end","tie"]
def Ii:ak Rr ["rows"] (aU yn):=⟨rfl,rfl,rfl,by decide +kernel,rfl,by decide +kernel,by decide +kernel⟩
def Ij:Rt.Nodup:=by decide +kernel
def x0p{f:Addr}{fd:FuncData}(F:bE K "ties_by_end" "ties_by_end" yn f fd)(T:Txt mg)
  (GE:aQ P w K mg base 1 "ends_round" ["row"] vq) :
  aG P w K mg base bH 2 f fd ["rows"] m5:=by
 refine F.gb Ii (λvs H Q E h=>?_) λb0 H vs Q E hr h=>?_
 ·obtain⟨R,as,n,rfl,_⟩:=h;rfl
 obtain⟨R,as,n,rfl,hR,hN,hn,ht,q⟩:=h;have bU:=hR.len;have hu:=hr.u1;show Run _ _ _ [some<|.ref R] H;refine bQ<|k4y (aU yn) Rr Rt 3 (fU bv)<|ae 0 ⟨R,rfl,⟨_,aq.of hR.lst⟩,λD hD cl C s₀ H₀ ex=>?_⟩;refine vC (xs:=as.map λa=>V.ref a.1) (λr σ' H'=>(∃ v1 v2 v3,σ'=[some<|.ref R]++[v1,v2,v3])/\∃ kvs:List<|List Key×V,aj H H'/\H' D=some (.dT kvs)/\kvs.length<=(bh<|n.take r).length/\∀ p∈bh (n.take r),aI n p.2=some p.1/\aD kvs (key n p.2)=some (.str p.1)) ⟨⟨none,none,none,rfl⟩,[],aS hD _,aA,Bz _,λp h=>(by cases h)⟩ ?_ ?_ ?_
 ·rintro r σ' H' _ ⟨_,kvs,sm,_⟩;exact aq.of<|sm _ _ hR.lst
 ·rintro r x σ' H' hx ⟨⟨v1,v2,v3,rfl⟩,kvs,sm,eD,Ru,zj⟩;have hi:r < n.length:=by
   have:=(Ac.mp hx).1;rw[Aa]at this;omega
  obtain⟨a,ea,cW,et,el,er⟩:=(hR.same sm).at hi;rw[Ai,ea]at hx;cases hx;have fE:(row n r).length<=1000:=By (iD n r) ht;refine bg 1 Ij ?_;refine i6 ?_;rw[BP rfl];refine k6g rfl rfl (Pz rfl T.zip (ta:=uh _ _) i0) ?_;show Ea _ _ _ _ _;refine ah<|bj GE hr<|ah<|ae 1<|ax ⟨a.1,a.2,n[r].1,row n r,rfl,et,el,fE,λL us H5 s5 n5 e5 l5 t5=>?_⟩;refine ah<|aP bt<|ae 1<|aC ⟨a.1,_,_,.ref a.2,rfl,rfl,aJ.of<|s5 _ _ et,rfl,ax ⟨L,a.2,rfl,⟨_,aq.of e5⟩,⟨_,aq.of<|s5 _ _ el⟩,?_⟩⟩;have lq:=s5 _ _ eD;have sQ:=s5 _ _ el;refine k2f (xs:=us.map V.ref) (ys:=(row n r).map V.str) (by rw[Aa,Aa,l5]) (λp σ' bR=>(∃ v2 v3,σ'=[some<|.ref R]++[some<|.ref a.1,v2,v3])/\∃ kvs:List<|List Key×V,(∀ b o,b≠D->H5 b=some o->bR b=some o)/\bR D=some (.dT kvs)/\kvs.length<=(bh (n.take r)++bw r ((row n r).take p) 0).length/\∀ x∈bh (n.take r)++bw r ((row n r).take p) 0,aI n x.2=some x.1/\aD kvs (key n x.2)=some (.str x.1))
   ⟨⟨_,_,rfl⟩,kvs,λb o _ h=>h,lq,by simpa[bw]using Ru,by simpa[bw]using zj⟩ ?_ ?_ ?_
  ·rintro p σ' bR _ ⟨_,kvs,kb,_⟩;exact⟨aq.of (kb _ _ (ce e5 lq λz=>nomatch z) e5),aq.of<|kb _ _ (ce sQ lq λz=>nomatch z) sQ⟩
  ·rintro p x y Tt σ' bR hx hy ⟨⟨v2,v3,rfl⟩,kvs,kb,ig,qz,m6⟩ ji;rw[Ai,Ay]at hx hy;obtain⟨te,ou,rfl⟩:=hx;obtain⟨z,hz,rfl⟩:=hy;have mX:=t5 p te ou;have zi:te≠D:=ce mX lq λz=>nomatch z;have vz:=kb _ _ zi mX;have mY:aI n (r,p)=some z:=hz;obtain⟨rest,dD⟩:=vt hi hz;have hlen:(bh (n.take r)++bw r ((row n r).take p) 0).length < 1000:=by
    have h1:(bh n).length=(ag n).length:=by
     have:=BZ List.length<|k6 n 0;rw[Aa]at this;exact this
    have h2:=BZ List.length dD;rw[Af,Ap]at h2;omega
   have nTD:Tt≠D:=λe=>by rw[e,ig]at ji;cases ji
   have s7:=aS ji<|.tup [.ref te,.str z];refine jd rfl (aJ.of aA) (bg 2 Ij<|bg 3 Ij ?_);refine i6 ?_;rw[BP rfl];have mZ:(upd bR Tt<|.tup [.ref te,.str z]) te=some (.tup<|(key n (r,p)).map kV):=by
    rw[s7 _ _ vz];show some (Tn n[r].1 (p:Int))=some (Tn (nameAt n r) (p:Int));rw[qt hi]
   refine F9 hu<|ae 2<|ae 3 ⟨_,bZ.t (k:=key n (r,p)) (s7 _ _ ig) mZ (b5<|by omega),⟨_,_,rfl⟩,_,λb o hb h=>?_,aA,?_,?_⟩
   ·rw[av hb];exact s7 _ _<|kb b o hb h
   ·rw[pL hz,<- Ar,Af];have:=iB kvs (key n (r,p))<|.str z;show _<=_+1;omega
   ·rw[pL hz,<- Ar];intro x hx
    rcases Am.mp hx with h | h
    ·obtain⟨q1,q2⟩:=m6 x h;refine⟨q1,?_⟩;rw[dz]
     by_cases hk:key n x.2=key n (r,p)
     ·rw[BP hk];have:=qu hN (cQ q1) (cQ mY) hk;rw[this,mY]at q1;rw[Option.some.inj q1]
     ·rw[BL hk];exact q2
    ·rw[Ad.mp h];exact⟨mY,by rw[dz,BP rfl]⟩
  ·rintro σ' bR ⟨⟨v2,v3,rfl⟩,kvs,kb,ig,qz,m6⟩;rw[Aa,l5,Bx,<- rX hi]at qz m6;exact⟨⟨_,_,_,rfl⟩,kvs,λb o h=>kb b o (bq h hD)<|s5 _ _<|sm _ _ h,ig,qz,m6⟩
 ·rintro σ' H' ⟨_,kvs,sm,eD,Ru,zj⟩;rw[Aa,bU,Bx]at zj;exact q D kvs H' sm hD eD λe z he=>(zj (z,e)<|aT.mpr he).2
def Ik(K:PySem.W.Frag):PySem.W.kitOne K (.type "list") (.type "list")=some true:=by rfl
def Il(K:PySem.W.Frag):PySem.W.kitOne K (.type "tuple") (.type "tuple")=some true:=by rfl
def vE(K:PySem.W.Frag):PySem.W.kitOne K (.type "str") (.type "str")=some true:=by rfl
theorem Im{κ:Type} [DecidableEq κ]:∀{kvs:List (κ×V)} {i:Nat} {p:κ×V},(kvs.map (·.1)).Nodup->kvs[i]?=some p->aD kvs p.1=some p.2
 | [],_,_,_,h=>by simp at h
 | q :: r,0,p,_,h=>by
  cases h;exact g9 rfl
 | q :: r,i+1,p,hn,h=>by
  rw[Bi,Bc]at hn;have hm:r[i]?=some p:=by simpa using h
  rw[gN λe=>hn.1<|by rw[e];exact Al.mpr ⟨p,Au hm,rfl⟩];exact Im hn.2 hm
def Rv{κ:Type}{l:List κ}(h:l.Nodup){i j:Nat}{a:κ}(hi:l[i]?=some a)(hj:l[j]?=some a):i=j:=by
 have h1:=(Ac.mp hi).1;have h2:=(Ac.mp hj).1;have e1:=(Ac.mp hi).2;have e2:=(Ac.mp hj).2
 rcases RB i j with c | c | c
 ·exact absurd (e1.trans e2.symm)<|Bo.mp h i j h1 h2 c
 ·exact c
 ·exact absurd (e2.trans e1.symm)<|Bo.mp h j i h2 h1 c
def jj(c:Int):Sp:=λvs H Q _=>∃(R:Addr) (as:Ð) (n:Net),vs=[.ref R]/\ai H R as n/\(n.map (·.1)).Nodup/\aw n/\n.length<=1000/\(ag n).length<=1000 /\
 ∀(d:Addr) (kvs:List<|List Key×V) (H':Hp),aj H H'->H d=none->H' d=some (.dT kvs)->(∀ e∈ends n,∃ u,aD kvs (key n e)=some (.ref u)/\H' u=some (TN n<|go c n e))->Q (.ref d) H'
abbrev m7:Ò:=["rows","lists"]
abbrev qA:Ò:=["rows","lists","end","other"]
def zp:qA.Nodup:=by decide +kernel
def vF:ak m7 ["rows"] (aU yo):=⟨rfl,rfl,rfl,by decide +kernel,rfl,by decide +kernel,by decide +kernel⟩
def x02{f:Addr}{fd:FuncData}(F:bE K "left_steps" "left_steps" yo f fd)(T:Txt mg)
  (GO:aQ P w K mg base 2 "other_ends" ["rows"] mW)
  (GT:aQ P w K mg base 2 "turned_left" ["end","many"]<|jg λj=>j+1) :
  aG P w K mg base bH 3 f fd ["rows"] (jj<|1):=by
 refine F.gb vF (λvs H Q E h=>?_) λb0 H vs Q E hr h=>?_
 ·obtain⟨R,as,n,rfl,_⟩:=h;rfl
 obtain⟨R,as,n,rfl,hR,hN,hT,hn,ht,q⟩:=h;have nd:=vF.nd;have bU:=hR.len;have hu:=hr.u1;show Run _ _ _ [some<|.ref R,none] H;have keys:=HZ n as bU;have knd:((du n as).map (·.1)).Nodup:=by rw[keys];exact Rg hN
 have qB:(du n as).length=n.length:=by have:=BZ List.length keys;simpa using this
 refine aX 1 nd (lY (Pu rfl) T.nU SX (ah (ae 0 (ax ⟨R,as.map (·.1),du n as,rfl,?_,?_,?_,?_,λdl gP=>?_⟩))))
 ·rw[Cd];exact hR.lst
 ·rw[Aa,qB,bU]
 ·rw[Aa];exact b5<|by omega
 ·intro j t kv h1 h2;rw[Ai,Ay]at h1;obtain⟨a,ea,rfl⟩:=h1;have hj:j < n.length:=by have:=(Ac.mp ea).1;omega
  have e:=y4 (Ab hj) ea;rw[h2]at e;cases e;exact(hR.tup j a n[j] ea<|Ab hj).1
 have ef:(du n as).foldl (λa p=>putK a p.1 p.2) []=du n as:=by
  rw[Rf (acc:=[]) (by rw[Fc];exact knd),Fc]
 rw[ef];have s1:=aS gP<|.dK<|du n as;have el:(upd H dl<|.dK<|du n as) dl=some (.dK<|du n as):=aA;generalize upd H dl (.dK<|du n as)=H1 at s1 el;show Run _ _ _ [some<|.ref R,some<|.ref dl] H1;refine bQ<|PF (aU yo) m7 qA 2 (PU bv) ?_;refine bj GO hr<|ah<|ae 0<|ax ⟨R,as,n,rfl,hR.same s1,hN,hT,hn,ht,λd kvs H2 s2 n9 ed val kE Io vG=>?_⟩;refine⟨d,kvs,rfl,ed,λo D hD cl C s₀ H₀ ex=>?_⟩;have Ip:D≠d:=λe=>by rw[e,aA]at hD;cases hD
 have sV:H2 D=none:=by rw[av Ip]at hD;exact hD
 have vH:H d=none:=ie s1 n9;have sB:aj H (upd H2 d<|.bI o<|.dT kvs):=fb (s1.trans s2) vH;have kB:∀ b o',b≠d->H2 b=some o'->(upd H2 d<|.bI o<|.dT kvs) b=some o':=λb o' hb h=>by rw[av hb];exact h
 have tB:∀ b p j,H2 b=some (Tn p j)->(upd H2 d<|.bI o<|.dT kvs) b=some (Tn p j):=λb p j h=>kB b _ (ll h ed) h;have vI:(upd H2 d<|.bI o<|.dT kvs) d=some (.bI o<|.dT kvs):=aA;have vJ:(upd H2 d<|.bI o<|.dT kvs) dl=some (.dK<|du n as):=kB _ _ (λe=>by rw[e,n9]at el;cases el)<|s2 _ _ el;have Iq:=hR.same sB;generalize upd H2 d (.bI o<|.dT kvs)=HB at hD sB tB vI vJ Iq;have vK:=ie sB hD;refine PV (λi σ' H'=>(∃ v1 v2,σ'=[some<|.ref R,some<|.ref dl]++[v1,v2])/\∃ ii:List<|List Key×V,H' D=some (.dT ii)/\ii.length<=i/\aj HB H' /\
  (∀ j k x e,j < i->kvs[j]?=some (k,x)->e∈ends n->k=key n e->∃ u,aD ii (key n e)=some (.ref u)/\H' u=some (TN n<|go (1) n e)))
  ⟨⟨none,none,rfl⟩,[],aA,An _,aS hD _,λj k x e h=>absurd h<|Eb _⟩ ?_ ?_ ?_
 ·rintro i σ' H' _ ⟨_,_,_,_,sm,_⟩;exact sm _ _ vI
 ·rintro i k x b Tt σ' H' hx ⟨⟨v1,v2,rfl⟩,ii,eD,l2,sm,all⟩ hb ji;have hi:i < kvs.length:=(Ac.mp hx).1;obtain⟨e,he,rfl⟩:=Io k<|Al.mpr ⟨_,Au hx,rfl⟩;obtain⟨u,hv,nW⟩:=val e he;have vL:aD kvs (key n e)=some x:=Im kE hx;rw[hv]at vL;cases vL;have pB:=db hT he;obtain⟨zo,vM⟩:=af.mp pB;have fE:=cQ vM;have sM:=gy vM;have Ir:nameAt n (other n e).1=n[(other n e).1].1:=qt fE;have sT:=aS ji<|.tup [.ref b,.ref u];have vN:=sT _ _<|sm _ _<|tB _ _ _ nW;refine jd rfl (aJ.of aA) (bg 2 zp<|bg 3 zp ?_);refine i6 ?_;rw[BP rfl];have vO:as[(other n e).1]?=some (as[(other n e).1]'(by omega)):=Ab (by omega);have oz:n[(other n e).1]?=some n[(other n e).1]:=Ab fE;have ev:aD (du n as) (Sum.inr<|nameAt n (other n e).1)=some (.ref (as[(other n e).1]'(by omega)).2):=by rw[Ir];exact HV knd<|y4 oz vO
  have qC:=(hR.tup _ _ _ vO oz).2;have kF:row n (other n e).1=n[(other n e).1].2:=iJ fE;refine F9 hu<|ae 2<|bj GT hr<|ah<|ae 3<|ah<|b4 dE T.len DR<|ah<|gR hu<|ae 1<|aP bt<|ae 3<|aC ⟨u,_,_,.str<|nameAt n (other n e).1,rfl,rfl,aJ.of vN,rfl,?_⟩;refine⟨dl,.ref (as[(other n e).1]'(by omega)).2,rfl,by rw[<- ev];exact a8.k (k:=Sum.inr<|nameAt n (other n e).1)<|sT _ _<|sm _ _ vJ,ax ⟨_,_,rfl,.inl<|aq.of<|sT _ _<|sm _ _<|sB _ _ qC,ax ⟨u,_,_,_,rfl,vN,?_,λt2 H4 s4 fP=>?_⟩⟩⟩
  ·rw[Aa,<- kF];omega
  rw[Aa,<- kF]at fP;have qD:H4 t2=some (TN n<|go (1) n e):=by
   rw[fP];have:=sv (c:=1) pB;show some (Tn _ _)=some (Tn _ (((go (1) n e).2:Nat):Int));unfold go;rw[this];rfl
  have qo:=s4 _ _<|sT _ _ hb;refine⟨_,bZ.t (k:=key n e) (s4 _ _<|sT _ _ eD) qo (b5<|by omega),⟨_,_,rfl⟩,_,aA,?_,fb ((sm.trans sT).trans s4) hD,λj k' x' e' hj gg pC mj=>?_⟩
  ·have:=iB ii (key n e)<|.ref t2;omega
  ·subst mj
   by_cases qp:j=i
   ·subst qp;rw[hx]at gg;have Iu:key n e=key n e':=BZ Prod.fst<|Option.some.inj gg;obtain⟨z1,si⟩:=af.mp he;obtain⟨z2,sj⟩:=af.mp pC;have:=qu hN (cQ si) (cQ sj) Iu;subst this;exact⟨t2,by rw[dz,BP rfl],by rw[av<|ll qD<|s4 _ _<|sT _ _ eD];exact qD⟩
   ·obtain⟨u3,Iv,Iw⟩:=all j _ x' e' (by omega) gg pC rfl;refine⟨u3,?_,?_⟩
    ·rw[dz,BL,Iv];intro hk;have h1:(kvs.map (·.1))[j]?=some (key n e'):=by rw[Ai,gg];rfl
     have h2:(kvs.map (·.1))[i]?=some (key n e'):=by rw[Ai,hx,hk];rfl
     exact qp<|Rv kE h1 h2
    ·have q4:=s4 _ _<|sT _ _ Iw;rw[av<|ll q4<|s4 _ _<|sT _ _ eD];exact q4
 ·rintro σ' H' ⟨_,ii,eD,_,sm,all⟩;refine q D ii H' (sB.trans sm) vK eD λe he=>?_;obtain⟨u,hv,_⟩:=val e he;obtain⟨i,hi⟩:∃ i:Nat,(kvs.map (·.1))[i]?=some (key n e):=Br<|B7 hv;rw[Ai,Ay]at hi;obtain⟨⟨k,x⟩,hx,hk⟩:=hi;exact all i k x e (Ac.mp hx).1 hx he hk
def vP:ak m7 ["rows"] (aU yp):=⟨rfl,rfl,rfl,by decide +kernel,rfl,by decide +kernel,by decide +kernel⟩
def x0u{f:Addr}{fd:FuncData}(F:bE K "right_steps" "right_steps" yp f fd)(T:Txt mg)
  (GO:aQ P w K mg base 2 "other_ends" ["rows"] mW)
  (GT:aQ P w K mg base 2 "turned_right" ["end","many"]<|jg λj=>j - 1) :
  aG P w K mg base bH 3 f fd ["rows"] (jj (-1)):=by
 refine F.gb vP (λvs H Q E h=>?_) λb0 H vs Q E hr h=>?_
 ·obtain⟨R,as,n,rfl,_⟩:=h;rfl
 obtain⟨R,as,n,rfl,hR,hN,hT,hn,ht,q⟩:=h;have nd:=vP.nd;have bU:=hR.len;have hu:=hr.u1;show Run _ _ _ [some<|.ref R,none] H;have keys:=HZ n as bU;have knd:((du n as).map (·.1)).Nodup:=by rw[keys];exact Rg hN
 have qB:(du n as).length=n.length:=by have:=BZ List.length keys;simpa using this
 refine aX 1 nd (lY (Pu rfl) T.nU SX (ah (ae 0 (ax ⟨R,as.map (·.1),du n as,rfl,?_,?_,?_,?_,λdl gP=>?_⟩))))
 ·rw[Cd];exact hR.lst
 ·rw[Aa,qB,bU]
 ·rw[Aa];exact b5<|by omega
 ·intro j t kv h1 h2;rw[Ai,Ay]at h1;obtain⟨a,ea,rfl⟩:=h1;have hj:j < n.length:=by have:=(Ac.mp ea).1;omega
  have e:=y4 (Ab hj) ea;rw[h2]at e;cases e;exact(hR.tup j a n[j] ea<|Ab hj).1
 have ef:(du n as).foldl (λa p=>putK a p.1 p.2) []=du n as:=by
  rw[Rf (acc:=[]) (by rw[Fc];exact knd),Fc]
 rw[ef];have s1:=aS gP<|.dK<|du n as;have el:(upd H dl<|.dK<|du n as) dl=some (.dK<|du n as):=aA;generalize upd H dl (.dK<|du n as)=H1 at s1 el;show Run _ _ _ [some<|.ref R,some<|.ref dl] H1;refine bQ<|PF (aU yp) m7 qA 2 (PU bv) ?_;refine bj GO hr<|ah<|ae 0<|ax ⟨R,as,n,rfl,hR.same s1,hN,hT,hn,ht,λd kvs H2 s2 n9 ed val kE Io vG=>?_⟩;refine⟨d,kvs,rfl,ed,λo D hD cl C s₀ H₀ ex=>?_⟩;have Ip:D≠d:=λe=>by rw[e,aA]at hD;cases hD
 have sV:H2 D=none:=by rw[av Ip]at hD;exact hD
 have vH:H d=none:=ie s1 n9;have sB:aj H (upd H2 d<|.bI o<|.dT kvs):=fb (s1.trans s2) vH;have kB:∀ b o',b≠d->H2 b=some o'->(upd H2 d<|.bI o<|.dT kvs) b=some o':=λb o' hb h=>by rw[av hb];exact h
 have tB:∀ b p j,H2 b=some (Tn p j)->(upd H2 d<|.bI o<|.dT kvs) b=some (Tn p j):=λb p j h=>kB b _ (ll h ed) h;have vI:(upd H2 d<|.bI o<|.dT kvs) d=some (.bI o<|.dT kvs):=aA;have vJ:(upd H2 d<|.bI o<|.dT kvs) dl=some (.dK<|du n as):=kB _ _ (λe=>by rw[e,n9]at el;cases el)<|s2 _ _ el;have Iq:=hR.same sB;generalize upd H2 d (.bI o<|.dT kvs)=HB at hD sB tB vI vJ Iq;have vK:=ie sB hD;refine PV (λi σ' H'=>(∃ v1 v2,σ'=[some<|.ref R,some<|.ref dl]++[v1,v2])/\∃ ii:List<|List Key×V,H' D=some (.dT ii)/\ii.length<=i/\aj HB H' /\
  (∀ j k x e,j < i->kvs[j]?=some (k,x)->e∈ends n->k=key n e->∃ u,aD ii (key n e)=some (.ref u)/\H' u=some (TN n<|go (-1) n e)))
  ⟨⟨none,none,rfl⟩,[],aA,An _,aS hD _,λj k x e h=>absurd h<|Eb _⟩ ?_ ?_ ?_
 ·rintro i σ' H' _ ⟨_,_,_,_,sm,_⟩;exact sm _ _ vI
 ·rintro i k x b Tt σ' H' hx ⟨⟨v1,v2,rfl⟩,ii,eD,l2,sm,all⟩ hb ji;have hi:i < kvs.length:=(Ac.mp hx).1;obtain⟨e,he,rfl⟩:=Io k<|Al.mpr ⟨_,Au hx,rfl⟩;obtain⟨u,hv,nW⟩:=val e he;have vL:aD kvs (key n e)=some x:=Im kE hx;rw[hv]at vL;cases vL;have pB:=db hT he;obtain⟨zo,vM⟩:=af.mp pB;have fE:=cQ vM;have sM:=gy vM;have Ir:nameAt n (other n e).1=n[(other n e).1].1:=qt fE;have sT:=aS ji<|.tup [.ref b,.ref u];have vN:=sT _ _<|sm _ _<|tB _ _ _ nW;refine jd rfl (aJ.of aA) (bg 2 zp<|bg 3 zp ?_);refine i6 ?_;rw[BP rfl];have vO:as[(other n e).1]?=some (as[(other n e).1]'(by omega)):=Ab (by omega);have oz:n[(other n e).1]?=some n[(other n e).1]:=Ab fE;have ev:aD (du n as) (Sum.inr<|nameAt n (other n e).1)=some (.ref (as[(other n e).1]'(by omega)).2):=by rw[Ir];exact HV knd<|y4 oz vO
  have qC:=(hR.tup _ _ _ vO oz).2;have kF:row n (other n e).1=n[(other n e).1].2:=iJ fE;refine F9 hu<|ae 2<|bj GT hr<|ah<|ae 3<|ah<|b4 dE T.len DR<|ah<|gR hu<|ae 1<|aP bt<|ae 3<|aC ⟨u,_,_,.str<|nameAt n (other n e).1,rfl,rfl,aJ.of vN,rfl,?_⟩;refine⟨dl,.ref (as[(other n e).1]'(by omega)).2,rfl,by rw[<- ev];exact a8.k (k:=Sum.inr<|nameAt n (other n e).1)<|sT _ _<|sm _ _ vJ,ax ⟨_,_,rfl,.inl<|aq.of<|sT _ _<|sm _ _<|sB _ _ qC,ax ⟨u,_,_,_,rfl,vN,?_,λt2 H4 s4 fP=>?_⟩⟩⟩
  ·rw[Aa,<- kF];omega
  rw[Aa,<- kF]at fP;have qD:H4 t2=some (TN n<|go (-1) n e):=by
   rw[fP];have:=sv (c:=-1) pB;show some (Tn _ _)=some (Tn _ (((go (-1) n e).2:Nat):Int));unfold go;rw[this];rfl
  have qo:=s4 _ _<|sT _ _ hb;refine⟨_,bZ.t (k:=key n e) (s4 _ _<|sT _ _ eD) qo (b5<|by omega),⟨_,_,rfl⟩,_,aA,?_,fb ((sm.trans sT).trans s4) hD,λj k' x' e' hj gg pC mj=>?_⟩
  ·have:=iB ii (key n e)<|.ref t2;omega
  ·subst mj
   by_cases qp:j=i
   ·subst qp;rw[hx]at gg;have Iu:key n e=key n e':=BZ Prod.fst<|Option.some.inj gg;obtain⟨z1,si⟩:=af.mp he;obtain⟨z2,sj⟩:=af.mp pC;have:=qu hN (cQ si) (cQ sj) Iu;subst this;exact⟨t2,by rw[dz,BP rfl],by rw[av<|ll qD<|s4 _ _<|sT _ _ eD];exact qD⟩
   ·obtain⟨u3,Iv,Iw⟩:=all j _ x' e' (by omega) gg pC rfl;refine⟨u3,?_,?_⟩
    ·rw[dz,BL,Iv];intro hk;have h1:(kvs.map (·.1))[j]?=some (key n e'):=by rw[Ai,gg];rfl
     have h2:(kvs.map (·.1))[i]?=some (key n e'):=by rw[Ai,hx,hk];rfl
     exact qp<|Rv kE h1 h2
    ·have q4:=s4 _ _<|sT _ _ Iw;rw[av<|ll q4<|s4 _ _<|sT _ _ eD];exact q4
 ·rintro σ' H' ⟨_,ii,eD,_,sm,all⟩;refine q D ii H' (sB.trans sm) vK eD λe he=>?_;obtain⟨u,hv,_⟩:=val e he;obtain⟨i,hi⟩:∃ i:Nat,(kvs.map (·.1))[i]?=some (key n e):=Br<|B7 hv;rw[Ai,Ay]at hi;obtain⟨⟨k,x⟩,hx,hk⟩:=hi;exact all i k x e (Ac.mp hx).1 hx he hk
def eJ(n:Net)(H:Hp)(ts:List Addr)(es:List Nt.End):Prop:=ts.length=es.length/\∀(j:Nat) t e,ts[j]?=some t->es[j]?=some e->H t=some (TN n e)
def eJ.keep{n:Net}{H H':Hp}{ts:List Addr}{es:List Nt.End}(h:eJ n H ts es)(k:∀ t p j,H t=some (Tn p j)->H' t=some (Tn p j)):eJ n H' ts es:=⟨h.1,λj t e h1 h2=>k _ _ _<|h.2 j t e h1 h2⟩
def eJ.same{n:Net}{H H':Hp}{ts:List Addr}{es:List Nt.End}(h:eJ n H ts es)(s:aj H H'):eJ n H' ts es:=h.keep λ_ _ _ q=>s _ _ q
def eJ.append{n:Net}{H:Hp}{ts us:List Addr}{es fs:List Nt.End}(h:eJ n H ts es)(g:eJ n H us fs):eJ n H (ts++us) (es++fs):=by
 refine⟨by rw[Af,Af,h.1,g.1],λj t e h1 h2=>?_⟩;have hl:=h.1
 by_cases hj:j < ts.length
 ·rw[As hj]at h1;rw[As<|by omega]at h2;exact h.2 j t e h1 h2
 ·rw[Az<|by omega]at h1 h2;rw[<- hl]at h2;exact g.2 _ t e h1 h2
theorem eJ.two{n:Net}{H:Hp}{t u:Addr}{a b:Nt.End}(h1:H t=some (TN n a))(h2:H u=some (TN n b)):eJ n H [t,u] [a,b]:=⟨rfl,λj x e h3 h4=>by
 match j with
 | 0=>cases h3;cases h4;exact h1
 | 1=>cases h3;cases h4;exact h2
 | j+2=>simp at h3⟩
def x03{n:Net}(hN:(n.map (·.1)).Nodup){a b:Nt.End}(ha:a∈ends n)(hb:b∈ends n):decide (nameAt n a.1=nameAt n b.1/\(a.2:Int)=(b.2:Int))=decide (a=b):=by
 obtain⟨z1,h1⟩:=af.mp ha;obtain⟨z2,h2⟩:=af.mp hb;refine decide_eq_decide.mpr ⟨λ⟨p,q⟩=>qu hN (cQ h1) (cQ h2) (by unfold key;rw[p,q]),λe=>by rw[e];exact⟨rfl,rfl⟩⟩
def Iy{K:PySem.W.Frag}{H:Hp}{d:Addr}{xs:List V}(h:H d=some (.lst xs)):lQ K "list" (.ref d) H:=Or.inl ⟨rfl,xs,aq.of h⟩
def bC(n:Net)(H:Hp)(d:Addr)(c:Int):Prop:=∃ kvs,H d=some (.dT kvs)/\∀ e∈ends n,∃ u,aD kvs (key n e)=some (.ref u)/\H u=some (TN n<|go c n e)
def bC.same{n:Net}{H H':Hp}{d:Addr}{c:Int}(h:bC n H d c)(s:aj H H'):bC n H' d c:=let ⟨kvs,h1,h2⟩:=h;⟨kvs,s _ _ h1,λe he=>let ⟨u,a,b⟩:=h2 e he;⟨u,a,s _ _ b⟩⟩
def bC.get{n:Net}{H:Hp}{d t:Addr}{c:Int}{e:Nt.End}(h:bC n H d c)(he:e∈ends n)(ht:H t=some (TN n e)):∃ u,a8 H d (.ref t) (some<|.ref u)/\H u=some (TN n<|go c n e):=by
 obtain⟨kvs,h1,h2⟩:=h;obtain⟨u,a,b⟩:=h2 e he;exact⟨u,by rw[<- a];exact a8.t (k:=key n e) h1 ht,b⟩
def qF:Sp:=λvs H Q _=>∃(dl dr t:Addr) (n:Net) (e:Nt.End),vs=[.ref dl,.ref dr,.ref t]/\bC n H dl 1/\bC n H dr (-1)/\(n.map (·.1)).Nodup/\aw n/\(ag n).length<=1000/\e∈ends n/\H t=some (TN n e) /\
 ∀(l:Addr) (ts:List Addr) (k:Nat) (H':Hp),aj H H'->H l=none->H' l=some (.lst<|ts.map V.ref)->eJ n H' ts (wk n e k)->je n e k->k<=(ends n).length->Q (.ref l) H'
abbrev NWf:Ò:=["lefts","rights","first","walker","end"]
def vQ:ak NWf ["lefts","rights","first"] (aU pN):=⟨rfl,rfl,rfl,by decide +kernel,rfl,by decide +kernel,by decide +kernel⟩
def Iz(ts:List Addr)(a b:Addr):ts.map V.ref++[V.ref a,V.ref b]=(ts++[a]).map V.ref++[V.ref b]:=by rw[Ak,Ar];rfl
def x05{f:Addr}{fd:FuncData}(F:bE K "walker_from" "walker_from" pN f fd)(T:Txt mg):aG P w K mg base bH 1 f fd ["lefts","rights","first"] qF:=by
 refine F.gb vQ (λvs H Q E h=>?_) λb0 H vs Q E hr h=>?_
 ·obtain⟨dl,dr,t,n,e,rfl,_⟩:=h;rfl
 obtain⟨dl,dr,t,n,e,rfl,hL,sW,hN,hT,d3,he,ht,q⟩:=h;have nd:=vQ.nd;have sM:=jy n;have hu:=hr.u1;have un:=hr.hU;obtain⟨k,k0,k1,k2⟩:=EG (f:=two n) (S:=ends n) (λa ha=>mK hT ha) (λa ha b hb=>uO hT ha hb) he;obtain⟨u1,g1,e1⟩:=hL.get he ht;show Run _ _ _ [some<|.ref dl,some<|.ref dr,some<|.ref t,none,none] H;refine aX 3 nd<|dF<|ah<|ae 2<|ah<|gR hu<|ae 0<|ae 2 ⟨dl,.ref u1,rfl,g1,ax ⟨Z2,λl hl=>?_⟩⟩;have s1:=aS hl<|.lst [.ref t,.ref u1];have el:(upd H l<|.lst [.ref t,.ref u1]) l=some (.lst<|[t,u1].map V.ref):=aA;generalize upd H l (.lst [.ref t,.ref u1])=H1 at s1 el;obtain⟨u2,g2,e2⟩:=(sW.same s1).get (gD hT he)<|s1 _ _ e1;refine aX 4 nd<|gR hu<|ae 1<|aP cF<|ae 3<|Nu My<|aC ⟨1,rfl,l,_,_,.ref u1,rfl,rfl,aq.of el,rfl,dr,.ref u2,rfl,g2,?_⟩;show Run _ _ _ [some<|.ref dl,some<|.ref dr,some<|.ref t,some<|.ref l,some<|.ref u2] H1;refine yc (λm σ H2=>∃(j:Nat) (ts:List Addr) (u:Addr),m=k - j/\0 < j/\j<=k/\aj H H2/\H2 l=some (.lst<|ts.map V.ref)/\eJ n H2 ts (wk n e j)/\H2 u=some (TN n<|it (two n) j e)/\(∀ i,0 < i->i < j->it (two n) i e≠e)/\σ=[some<|.ref dl,some<|.ref dr,some<|.ref t,some<|.ref l,some<|.ref u])
  (m0:=k - 1) ⟨1,[t,u1],u2,rfl,Fh,k0,s1,el,eJ.two (s1 _ _ ht)<|s1 _ _ e1,e2,λi h1 h2=>by omega,rfl⟩ ?_
 rintro m σ H2 ⟨j,ts,u,rfl,j0,j1,sH,vR,at2,eu,hf,rfl⟩;have IA:it (two n) j e∈ends n:=j6 (λa ha=>mK hT ha) he j;refine b8 (uA un) (ae 4<|ae 2 ⟨1,_,by decide,q8e eu<|sH _ _ ht,_,rfl,?_⟩);rw[x03 hN IA he];have tl:=at2.1;rw[qb]at tl
 by_cases c:it (two n) j e=e
 ·rw[BW c];exact bu<|bQ<|ae 3<|q l ts j H2 sH hl vR at2 ⟨j0,c,hf⟩<|by omega
 ·rw[BR c];have jk:j < k:=by
   rcases Di j k with h | h
   ·exact h
   ·have:j=k:=by omega
    subst this;exact absurd k2 c
  obtain⟨v1,g3,e3⟩:=(hL.same sH).get IA eu;refine bY<|fM<|ED FJ PySem.F.slot_list_extend PySem.F.type_list_extend WB<|ae 3 (v:= .ref l) ⟨Iy vR,dF<|ah<|ae 4<|ah<|gR hu<|ae 0<|ae 4 ⟨dl,.ref v1,rfl,g3,ax ⟨Z2,λp hp=>?_⟩⟩⟩;have s3:=aS hp<|.lst [.ref u,.ref v1];have nlp:l≠p:=bq vR hp;refine⟨l,p,ts.map V.ref,[.ref u,.ref v1],rfl,rfl,s3 _ _ vR,aA,small (by rw[Aa];show _+2<=100000;omega),?_⟩;have IB:aj H (upd (upd H2 p<|.lst [.ref u,.ref v1]) l<|.lst<|ts.map V.ref++[.ref u,.ref v1]):=fb (sH.trans s3) hl;have IC:(upd (upd H2 p<|.lst [.ref u,.ref v1]) l<|.lst<|ts.map V.ref++[.ref u,.ref v1]) l=some (.lst<|(ts++[u,v1]).map V.ref):=by rw[aA,Ak];rfl
  have kt:∀ b p' j',H2 b=some (Tn p' j')->(upd (upd H2 p<|.lst [.ref u,.ref v1]) l<|.lst<|ts.map V.ref++[.ref u,.ref v1]) b=some (Tn p' j'):=λb p' j' h=>by
   rw[av<|ce h vR λz=>nomatch z];exact s3 _ _ h
  generalize upd (upd H2 p<|.lst [.ref u,.ref v1]) l (.lst<|ts.map V.ref++[.ref u,.ref v1])=H3 at IB IC kt;obtain⟨v2,g4,e4⟩:=(sW.same IB).get (gD hT IA)<|kt _ _ _ e3;refine aX 4 nd<|gR hu<|ae 1<|aP cF<|ae 3<|Nu My<|aC ⟨1,rfl,l,_,_,.ref v1,rfl,rfl,aq.of IC,?_,dr,.ref v2,rfl,g4,?_⟩
  ·rw[Ak];show dN (ts.map V.ref++[V.ref u,V.ref v1]) (-1)=_;rw[Iz];exact Wp _ _
  refine aW ⟨k - (j+1),by omega,j+1,ts++[u,v1],v2,rfl,Ga _,jk,IB,IC,(at2.keep kt).append<|eJ.two (kt _ _ _ eu)<|kt _ _ _ e3,e4,λi h1 h2=>?_,rfl⟩
  by_cases eV:i=j
  ·subst eV;exact c
  ·exact hf i h1<|by omega
open bF
theorem Rw{α β:Type}(f:α->β):∀ xs:List α,au (xs.map f)=(au xs).map f
 | []=>rfl
 | [a]=>rfl
 | a :: b :: r=>by
  show f a :: au (r.map f)=f a :: (au r).map f;rw[Rw f r]
def eJ.au{n:Net}{H:Hp}{ts:List Addr}{es:List Nt.End}(h:eJ n H ts es):eJ n H (L2.au ts) (L2.au es):=by
 refine⟨by rw[uN,uN,h.1],λj t e h1 h2=>?_⟩;rw[p8]at h1 h2;exact h.2 _ t e h1 h2
def oA{P:Program}{w:World}{H:Hp}{a d:Addr}{o:HO}{zs:Ò}(h:H a=some o)(g:H d=some (bb P w d zs))(ho:∀ φ,o ≠ .ext φ):a≠d:=λe=>by
 rw[e,g]at h;exact ho _ (Option.some.inj h).symm
structure jE(n:Net)(H:Hp)(L:Addr)(ls:List Addr)(ws:List<|List Nt.End):Prop where
 lst:H L=some (.lst<|ls.map V.ref)
 len:ls.length=ws.length
 gW:ls.Nodup
 out:L∉ls
 at':∀(j:Nat) l w,ls[j]?=some l->ws[j]?=some w->∃ ts,H l=some (.lst<|ts.map V.ref)/\eJ n H ts w
def jE.same{n:Net}{H H':Hp}{L:Addr}{ls:List Addr}{ws:List (List Nt.End)}(h:jE n H L ls ws)(s:aj H H'):jE n H' L ls ws:=
 ⟨s _ _ h.lst,h.len,h.gW,h.out,λj l w h1 h2=>let ⟨ts,a,b⟩:=h.at' j l w h1 h2;⟨ts,s _ _ a,b.same s⟩⟩
def jE.keep{n:Net}{H H':Hp}{L:Addr}{ls:List Addr}{ws:List (List Nt.End)}(h:jE n H L ls ws)(hL:H' L=H L)(kl:∀ l∈ls,∀ o,H l=some o->H' l=some o)(kt:∀ t p j,H t=some (Tn p j)->H' t=some (Tn p j)):jE n H' L ls ws:=
 ⟨by rw[hL];exact h.lst,h.len,h.gW,h.out,λj l w h1 h2=>let ⟨ts,a,b⟩:=h.at' j l w h1 h2;⟨ts,kl l (Au h1) _ a,b.keep kt⟩⟩
def jE.snoc{n:Net}{H H':Hp}{L l:Addr}{ls ts:List Addr}{ws:List (List Nt.End)}{v:List Nt.End}(h:jE n H L ls ws)(hL:H' L=some (.lst<|ls.map V.ref++[.ref l]))(kl:∀ l∈ls,∀ o,H l=some o->H' l=some o)(kt:∀ t p j,H t=some (Tn p j)->H' t=some (Tn p j))
  (hl:H' l=some (.lst<|ts.map V.ref)) (hv:eJ n H' ts v) (hn:l∉ls) (Rx:L≠l):jE n H' L (ls++[l]) (ws++[v]):=by
 refine⟨by rw[hL,Ak];rfl,by rw[Af,Af,h.len];rfl,nJ h.gW hn,λhm=>?_,λj a x h1 h2=>?_⟩
 ·rcases Am.mp hm with hm | hm
  ·exact h.out hm
  ·exact Rx<|Ad.mp hm
 ·have hlen:=h.len
  by_cases hj:j < ls.length
  ·rw[As hj]at h1;rw[As<|by omega]at h2;obtain⟨us,q1,q2⟩:=h.at' j a x h1 h2;exact⟨us,kl a (Au h1) _ q1,q2.keep kt⟩
  ·rw[Az<|by omega]at h1 h2;have fO:j - ls.length=0:=by
    have:=(Ac.mp h1).1;simp at this;omega
   rw[fO]at h1;rw[<- hlen,fO]at h2;cases h1;cases h2;exact⟨ts,hl,hv⟩
def IE:Sp:=λvs H Q _=>∃(R:Addr) (as:Ð) (n:Net),vs=[.ref R]/\ai H R as n/\(n.map (·.1)).Nodup/\aw n/\n.length<=1000/\(ag n).length<=400 /\
 ∀(L:Addr) (ls:List Addr) (H':Hp),aj H H'->H L=none->jE n H' L ls (dX n (ends n) [])->(∀ l∈ls,H l=none)->Q (.ref L) H'
def q45{n:Net}{i:Nat}{p:Str×Nt.End}(h:(bh n)[i]?=some p):(ends n)[i]?=some p.2:=by unfold ends;rw[Ai,h];rfl
abbrev NWs:Ò:=["rows","lefts","rights","names","told","walkers","first","walker","end"]
def vS:ak NWs ["rows"] (aU pM):=⟨rfl,rfl,rfl,by decide +kernel,rfl,by decide +kernel,by decide +kernel⟩
def q7c{f:Addr}{fd:FuncData}(F:bE K "walkers_of" "walkers_of" pM f fd)(T:Txt mg)
  (GL:aQ P w K mg base 3 "left_steps" ["rows"]<|jj 1)
  (GR:aQ P w K mg base 3 "right_steps" ["rows"]<|jj (-1))
  (GN:aQ P w K mg base 3 "ties_by_end" ["rows"] m5)
  (GO:aQ P w K mg base 3 "ends_in_order" ["rows"] Ig)
  (GW:aQ P w K mg base 3 "walker_from" ["lefts","rights","first"] qF) :
  aG P w K mg base bH 4 f fd ["rows"] IE:=by
 refine F.gb vS (λvs H Q E h=>?_) λb0 H vs Q E hr h=>?_
 ·obtain⟨R,as,n,rfl,_⟩:=h;rfl
 obtain⟨R,as,n,rfl,hR,hN,hT,hn,d3,q⟩:=h;have nd:=vS.nd;have sM:=jy n;have hu:=hr.u1;show Run _ _ _ [some<|.ref R,none,none,none,none,none,none,none,none] H;refine aX 1 nd (bj GL hr<|ah<|ae 0<|ax ⟨R,as,n,rfl,hR,hN,hT,hn,by omega,λdl kl H1 s1 n1 e1 v1=>?_⟩);refine aX 2 nd (bj GR hr<|ah<|ae 0<|ax ⟨R,as,n,rfl,hR.same s1,hN,hT,hn,by omega,λdr kr H2 s2 n2 e2 v2=>?_⟩);refine aX 3 nd (bj GN hr<|ah<|ae 0<|ax ⟨R,as,n,rfl,hR.same<|s1.trans s2,hN,hn,by omega,λdn kn H3 s3 n3 e3 v3=>?_⟩);refine aX 4 nd<|q5z T.pU λD hD=>?_;refine aX 5 nd<|dF<|ax ⟨Z0,λL hL=>?_⟩;have hSL:bC n H3 dl 1:=bC.same ⟨kl,e1,v1⟩<|s2.trans s3;have hSR:bC n H3 dr (-1):=bC.same ⟨kr,e2,v2⟩ s3;have qG:=(s1.trans s2).trans s3;have zq:L≠D:=λe=>by rw[e,aA]at hL;cases hL
 have hL3:H3 L=none:=by rw[av zq]at hL;exact hL
 have vK:=ie qG hD;have yY:=ie qG hL3;have sB:aj H3 (upd (upd H3 D<|bb P w D []) L<|.lst []):=(aS hD _).trans<|aS hL _;have Ry:(upd (upd H3 D<|bb P w D []) L<|.lst []) D=some (bb P w D []):=by rw[av<|CG zq,aA]
 have IG:(upd (upd H3 D<|bb P w D []) L<|.lst []) L=some (.lst []):=aA;have IH:=qG.trans sB;have vT:=hSL.same sB;have vU:=hSR.same sB;have RA:=sB _ _ e3;show Run _ _ _ [some<|.ref R,some<|.ref dl,some<|.ref dr,some<|.ref dn,some<|.ref D,some<|.ref L,none,none,none] (upd (upd H3 D<|bb P w D []) L<|.lst []);generalize upd (upd H3 D<|bb P w D []) L (.lst [])=HB at sB Ry IG IH vT vU RA;refine jU (bj GO hr<|ah<|ae 0<|ax ⟨R,as,n,rfl,hR.same IH,hn,by omega,λU us H5 s5 n5 e5 II=>⟨U,rfl,⟨_,aq.of e5⟩,?_⟩⟩);have vV:=IH.trans s5;have lq:=s5 _ _ Ry;have zu:=s5 _ _ IG;have IJ:=vT.same s5;have IL:=vU.same s5;have IM:=s5 _ _ RA;have nUL:U≠L:=λe=>by rw[e,IG]at n5;cases n5
 have IP:us.length=(ends n).length:=by rw[II.1];unfold ends;rw[Aa]
 refine jV (xs:=us.map V.ref) (λi σ H'=>∃(zs told:Ò) (ls:List Addr) (ws:List<|List Nt.End) (u1 u2 u3:Option V),(∀ b o,b≠D->b≠L->H5 b=some o->H' b=some o)/\H' D=some (bb P w D zs)/\zs.Nodup/\(∀ z∈zs,z∈ag n)/\(∀ z,z∈zs↔z∈told) /\
  jE n H' L ls ws/\(∀ l∈ls,H5 l=none)/\ls.length<=i/\dX n (ends n) []=ws++dX n ((ends n).drop i) told/\σ=[some<|.ref R,some<|.ref dl,some<|.ref dr,some<|.ref dn,some<|.ref D,some<|.ref L,u1,u2,u3])
  ⟨[],[],[],[],_,_,_,λb o _ _ h=>h,lq,Ch,λz h=>by simp at h,λz=>by simp,⟨zu,rfl,Ch,by simp,λj l w h=>by simp at h⟩,λl h=>by simp at h,An _,rfl,rfl⟩ ?_ ?_ ?_
 ·rintro i σ H' _ ⟨_,_,_,_,_,_,_,kp,_⟩;exact aq.of<|kp _ _ (oA e5 lq λφ z=>nomatch z) nUL e5
 ·rintro i x σ H' hx ⟨zs,told,ls,ws,u1,u2,u3,kp,eD,zn,zt,zm,hW,hf,rO,vW,rfl⟩;have hi:i < us.length:=by
   have:=(Ac.mp hx).1;rw[Aa]at this;exact this
  rw[Ai,Ab hi]at hx;cases hx;have IQ:i < (bh n).length:=by have:=II.1;omega
  have zv:H5 us[i]=some (TN n (bh n)[i].2):=II.2 i us[i] (bh n)[i] (Ab hi)<|Ab IQ;have sX:=q45<|Ab IQ;have jl:aI n (bh n)[i].2=some (bh n)[i].1:=aT.mp (by have:=Bu IQ;exact this);generalize (bh n)[i]=pr at zv sX jl;obtain⟨z,e⟩:=pr;have zv:H5 us[i]=some (TN n e):=zv;have jl:aI n e=some z:=jl;have sX:(ends n)[i]?=some e:=sX;have he:e∈ends n:=Au sX;have oB:(ends n).drop i=e :: (ends n).drop (i+1):=by
   have RC:i < (ends n).length:=by omega
   rw[RG RC]
   congr 1
   have:=Ab RC;rw[sX]at this;exact(Option.some.inj this).symm
  have RE:∀{b p j},H5 b=some (Tn p j)->H' b=some (Tn p j):=λ{b p j} h=>kp _ _ (oA h lq λφ z=>nomatch z) (ce h zu λz=>nomatch z) h;have gZ:=RE zv;have IT:H' dn=some (.dT kn):=kp _ _ (oA IM lq λφ z=>nomatch z) (ce IM zu λz=>nomatch z) IM;have cn:∀{d c},bC n H5 d c->bC n H' d c:=λ{d c} ⟨kvs,a,b⟩=>⟨kvs,kp _ _ (oA a lq λφ z=>nomatch z) (ce a zu λz=>nomatch z) a,λe he=>let ⟨u,p,r⟩:=b e he;⟨u,p,RE r⟩⟩;have hd1:a8 H' dn (.ref us[i]) (some<|.str z):=by rw[<- v3 e z jl];exact a8.t (k:=key n e) IT gZ
  refine bg 6 nd ?_;refine c9<|b8 j99<|gR hu<|ae 3<|ae 6 ⟨dn,.str z,rfl,hd1,ae 4 ⟨z,D,zs,rfl,rfl,eD,_,rfl,?_⟩⟩;refine jS (λc=>?_) λc=>?_
  ·have hz:z∉zs:=BX c;have g5:aF n e∉told:=by rw[fD jl];exact λh=>hz<|(zm z).mpr h
   refine aX 7 nd (bj GW hr<|ah<|ae 1<|ah<|ae 2<|ah<|ae 6<|ax ⟨dl,dr,us[i],n,e,rfl,cn IJ,cn IL,hN,hT,by omega,he,gZ,λl ts k H6 s6 n6 e6 at6 pr hk=>?_⟩);have IU:=uQ pr;have hwe:walker n e=wk n e k:=by unfold walker;rw[IU]
   have IY:=s6 _ _ hW.lst;have ig:=s6 _ _ eD;have IZ:L≠l:=bq hW.lst n6;have sP:D≠l:=bq eD n6;refine fM (j4<|ae 5 ⟨L,rfl,⟨_,IY⟩,ae 7 ⟨_,IY,by rw[Aa];exact b5 (by omega),?_⟩⟩);have k7:∀ b o,b≠L->H6 b=some o->(upd H6 L<|.lst<|ls.map V.ref++[.ref l]) b=some o:=λb o hb h=>by rw[av hb];exact h
   have vX:(upd H6 L<|.lst<|ls.map V.ref++[.ref l]) L=some (.lst<|ls.map V.ref++[.ref l]):=aA;generalize upd H6 L (.lst<|ls.map V.ref++[.ref l])=H7 at k7 vX;have RF:∀ t p j,H6 t=some (Tn p j)->H7 t=some (Tn p j):=λt p j h=>k7 _ _ (ce h IY λz=>nomatch z) h;have e7:=k7 _ _ (CG IZ) e6;have eD7:=k7 _ _ (CG zq) ig;have RH:=at6.keep RF;have Ja:l∉ls:=λhm=>by
    obtain⟨j,hj⟩:=Br hm;have hlen:=hW.len;have Jb:j < ws.length:=by have:=(Ac.mp hj).1;omega
    obtain⟨_,a,_⟩:=hW.at' j l ws[j] hj<|Ab Jb;rw[n6]at a;cases a
   have hW7:jE n H7 L (ls++[l]) (ws++[wk n e k]):=hW.snoc vX (λa ha o ho=>k7 _ _ (λq=>hW.out<|q ▸ ha)<|s6 _ _ ho) (λt p j h=>RF _ _ _<|s6 _ _ h) e7 RH Ja IZ;have l57:H5 l=none:=by
    cases q5:H5 l with
    | none=>rfl
    | some o=>rw[kp _ _ (CG sP) (CG IZ) q5]at n6;cases n6
   have hf7:∀ a∈ls++[l],H5 a=none:=λa ha=>by
    rcases Am.mp ha with ha | ha
    ·exact hf a ha
    ·rw[Ad.mp ha];exact l57
   have vh:∀ b o,b≠D->b≠L->H5 b=some o->H7 b=some o:=λb o h1 h2 h=>k7 _ _ h2<|s6 _ _<|kp b o h1 h2 h;have hll:(ls++[l]).length<=i+1:=by rw[Af];show ls.length+1<=_;omega
   have Jc:dX n (ends n) []=(ws++[wk n e k])++dX n ((ends n).drop<|i+1) (told++(au<|wk n e k).map (aF n)):=by
    rw[vW,oB];show ws++(if aF n e∈told then _ else _)=_;rw[BL g5,hwe,Ar];rfl
   have fH:=F' hT he k;refine jU<|q18<|ae 7 ⟨l,_,rfl,aq.of e7,λp hp=>⟨p,rfl,⟨_,aq.of aA⟩,?_⟩⟩;rw[Rw];have s8:=aS hp<|.lst<|(au ts).map V.ref;have e8:(upd H7 p<|.lst<|(au ts).map V.ref) p=some (.lst<|(au ts).map V.ref):=aA;have oD:=s8 _ _ eD7;have sY:=hW7.same s8;have zx:=(RH.same s8).au;have RO:∀ b o,b≠D->b≠L->H5 b=some o->(upd H7 p<|.lst<|(au ts).map V.ref) b=some o:=λb o h1 h2 h=>s8 _ _<|vh b o h1 h2 h;have Jd:=s8 _ _ (k7 _ _ (ce IT hW.lst λz=>nomatch z)<|s6 _ _ IT);generalize upd H7 p (.lst<|(au ts).map V.ref)=H8 at s8 e8 oD sY zx RO Jd;have Je:p≠D:=oA e8 oD λφ z=>nomatch z;refine jV (xs:=(au ts).map V.ref) (λm σ H9=>∃(iC:Ò) (u3:Option V),(∀ b o,b≠D->H8 b=some o->H9 b=some o)/\H9 D=some (bb P w D iC)/\iC.Nodup/\(∀ z∈iC,z∈ag n)/\(∀ z,z∈iC↔z∈told++((au<|wk n e k).take m).map (aF n)) /\
    σ=[some<|.ref R,some<|.ref dl,some<|.ref dr,some<|.ref dn,some<|.ref D,some<|.ref L,some<|.ref us[i],some<|.ref l,u3]) ⟨zs,_,λb o _ h=>h,oD,zn,zt,λz=>by rw[zm z];simp,rfl⟩ ?_ ?_ ?_
   ·rintro m σ H9 _ ⟨_,_,k9,_⟩;exact aq.of<|k9 _ _ Je e8
   ·rintro m x σ H9 hx ⟨iC,u3,k9,zy,vY,zA,zB,rfl⟩;have hm:m < (au ts).length:=by
     have:=(Ac.mp hx).1;rw[Aa]at this;exact this
    have l8:=zx.1;rw[Ai,Ab hm]at hx;cases hx;have gY:m < (au<|wk n e k).length:=by omega
    have Jf:=zx.2 m _ _ (Ab hm)<|Ab gY;have hcw:(au<|wk n e k)[m]∈wk n e k:=by
     have h1:(au<|wk n e k)[m]?=some (au<|wk n e k)[m]:=Ab gY;rw[p8]at h1;exact Au h1
    have yU:=fH _ hcw;obtain⟨y,hy⟩:=af.mp yU;have m8:(au<|wk n e k).take (m+1)=(au<|wk n e k).take m++[(au<|wk n e k)[m]]:=by rw[Ck,Ab gY];rfl
    generalize (au<|wk n e k)[m]=c at Jf yU hy m8;have hc9:H9 (au ts)[m]=some (TN n c):=k9 _ _ (oA Jf oD λφ z=>nomatch z) Jf;have ed9:H9 dn=some (.dT kn):=k9 _ _ (oA Jd oD λφ z=>nomatch z) Jd;have hd9:a8 H9 dn (.ref (au ts)[m]) (some<|.str y):=by rw[<- v3 c y hy];exact a8.t (k:=key n c) ed9 hc9
    have zl:iC.length<=(ag n).length:=aV vY zA;refine bg 8 nd ?_;refine fM<|q6f<|ae 4 ⟨D,rfl,⟨_,zy⟩,gR hu<|ae 3<|ae 8 ⟨dn,.str y,rfl,hd9,y,iC,rfl,zy,by omega,aW ⟨added iC y,_,λb o hb h=>?_,aA,?_,λz hz=>?_,λz=>?_,rfl⟩⟩⟩
    ·rw[av hb];exact k9 b o hb h
    ·unfold added
     split
     ·exact vY
     ·rename_i hny;exact nJ vY hny
    ·rcases (DZ iC y z).mp hz with h | h
     ·exact zA z h
     ·rw[h];exact eU hy
    ·rw[DZ,zB z,m8,Ak,<- Ar,Am (s:=told++_)];show _\/z=y↔_\/z∈[aF n c];rw[fD hy,Ad]
   ·rintro σ H9 ⟨iC,u3,k9,zy,vY,zA,zB,rfl⟩;have l8:=zx.1;rw[Aa,l8,Bx]at zB;refine aW<|aW ⟨iC,told++(au<|wk n e k).map (aF n),ls++[l],ws++[wk n e k],_,_,_,λb o h1 h2 h=>k9 _ _ h1<|RO b o h1 h2 h,zy,vY,zA,zB,?_,hf7,hll,Jc,rfl⟩;refine sY.keep ?_ (λa ha o ho=>k9 _ _ ?_ ho) λt p j h=>k9 _ _ (oA h oD λφ z=>nomatch z) h
    ·rw[sY.lst];exact k9 _ _ zq sY.lst
    ·intro q;rw[q,oD]at ho;obtain⟨j,hj⟩:=Br ha;have hlen:=sY.len;have Jb:j < (ws++[wk n e k]).length:=by have:=(Ac.mp hj).1;omega
     obtain⟨_,b,_⟩:=sY.at' j a _ hj<|Ab Jb;rw[q,oD]at b;cases b
  ·have hz:z∈zs:=Classical.not_not.mp<|HS<|Dy.mpr c;refine aW (aW ⟨zs,told,ls,ws,_,_,_,kp,eD,zn,zt,zm,hW,hf,by omega,?_,rfl⟩);rw[vW,oB];show ws++(if aF n e∈told then _ else _)=_;rw[BP<|by rw[fD jl];exact(zm z).mp hz]
 ·rintro σ H' ⟨zs,told,ls,ws,u1,u2,u3,kp,eD,zn,zt,zm,hW,hf,rO,vW,rfl⟩;rw[Aa,IP,List.drop_length]at vW;have Jg:dX n (ends n) []=ws:=by rw[vW];show ws++[]=ws;rw[Bg]
  refine bQ (ae 5<|q L ls H' (λb o h=>?_) yY (by rw[Jg];exact hW) λl hl=>ie vV<|hf l hl);exact kp _ _ (bq h vK) (bq h yY)<|vV _ _ h
end
end E6
namespace oE
open PySem PySem.W PyProof.Rows
section
variable{lt:Nat->Nat->Bool}{cmp:Nat->Nat->(Bool->Shared->Prop)->Shared->Prop}{J:Shared->Prop}{n:Nat}
structure d6(lt:Nat->Nat->Bool)(cmp:Nat->Nat->(Bool->Shared->Prop)->Shared->Prop)(J:Shared->Prop)(n:Nat):Prop where
 ask:∀(i j:Nat) (C:Bool->Shared->Prop) (s:Shared),i < n->j < n->i≠j->J s->(∀ s',J s'->C (lt i j) s')->cmp i j C s
 tot:∀ i j,i < n->j < n->i≠j->lt i j=true\/lt j i=true
 asy:∀ i j,lt i j=true->lt j i=false
 zC:∀ i j k,lt i j=true->lt j k=true->lt i k=true
def g(p:Array Nat)(i:Nat):Nat:=p.getD i 0
structure Pm(p:Array Nat)(n:Nat):Prop where
 size:p.size=n
 lt:∀ i,i < n->g p i < n
 inj:∀ i j,i < n->j < n->g p i=g p j->i=j
def jm{p:Array Nat}{i:Nat}{v:Nat}(h:p[i]?=some v):g p i=v:=by
 unfold g;rw[Dr,h];rfl
def kG{p q:Array Nat}{i j:Nat}(h:p[i]?=q[j]?):g p i=g q j:=by
 unfold g;rw[Dr,Dr,h]
def RU(n:Nat):Pm (List.toArray<|List.range n) n:=by
 have e:∀ i,i < n->g (List.toArray<|List.range n) i=i:=λi hi=>jm (by simp[hi]);exact⟨by simp,λi hi=>by rw[e i hi];exact hi,λi j hi hj h=>by rw[e i hi,e j hj]at h;exact h⟩
def Up(lt:Nat->Nat->Bool)(p:Array Nat)(m:Nat):Prop:=∀ i j,i < j->j < m->lt (g p i) (g p j)=true
def Dn(lt:Nat->Nat->Bool)(p:Array Nat)(m:Nat):Prop:=∀ i j,i < j->j < m->lt (g p j) (g p i)=true
def q9v(p:Array Nat):Up lt p 1:=λi j h1 h2=>by omega
def q4w(A:d6 lt cmp J n){p:Array Nat}{m:Nat}(h1:1<=m)(h:Up lt p m)(hm:lt (g p<|m - 1) (g p m)=true):Up lt p (m+1):=λi j hi hj=>by
 by_cases c:j < m
 ·exact h i j hi c
 ·have:j=m:=by omega
  subst this
  by_cases d:i=j - 1
  ·rw[d];exact hm
  ·exact A.zC _ _ _ (h i (j - 1) (by omega)<|by omega) hm
def q4b(A:d6 lt cmp J n){p:Array Nat}{m:Nat}(h1:1<=m)(h:Dn lt p m)(hm:lt (g p m) (g p<|m - 1)=true):Dn lt p (m+1):=λi j hi hj=>by
 by_cases c:j < m
 ·exact h i j hi c
 ·have:j=m:=by omega
  subst this
  by_cases d:i=j - 1
  ·rw[d];exact hm
  ·exact A.zC _ _ _ hm<|h i (j - 1) (by omega)<|by omega
def Jh(A:d6 lt cmp J n){i j:Nat}(hi:i < n)(hj:j < n)(bn:i≠j)(h:lt i j=false):lt j i=true:=by
 rcases A.tot i j hi hj bn with q | q
 ·rw[h]at q;cases q
 ·exact q
theorem Ji(A:d6 lt cmp J n){p:Array Nat}(P:Pm p n):∀(f m:Nat) (Q:Nat->Shared->Prop) (s:Shared),1<=m->m+f<=n->Up lt p m->J s ->
  (∀ k s',J s'->m<=k->k<=m+f->Up lt p k->(k < m+f->lt (g p k) (g p<|k - 1)=true)->Q k s')->(kas_asc p f m).kasWp cmp Q s
 | 0,m,Q,s,h1,h2,hu,hJ,k=>k m s hJ (An _) (An _) hu λh=>by omega
 | f+1,m,Q,s,h1,h2,hu,hJ,k=>by
  have bn:g p m≠g p (m - 1):=λh=>by have:=P.inj m (m - 1) (by omega) (by omega) h;omega
  refine A.ask _ _ _ _ (P.lt m<|by omega) (P.lt (m - 1)<|by omega) bn hJ λs' gI=>?_;cases e:lt (p.getD m 0) (p.getD (m - 1) 0) with
  | true=>exact k m s' gI (An _) (by omega) hu λ_=>e
  | false=>
   have vZ:Up lt p (m+1):=q4w A h1 hu (Jh A (P.lt m<|by omega) (P.lt (m - 1)<|by omega) bn e);exact Ji A P f (m+1) Q s' (by omega) (by omega) vZ gI λk' s2 j2 a b c d=>k k' s2 j2 (by omega) (by omega) c λh=>d<|by omega
theorem RY(A:d6 lt cmp J n){p:Array Nat}(P:Pm p n):∀(f m:Nat) (Q:Array Nat×Nat×Nat->Shared->Prop) (s:Shared),1<=m->m+f<=n->Dn lt p m->J s ->
  (∀ k s',J s'->m<=k->k<=m+f->Dn lt p k->Q (p,k,0) s')->(kas_desc f p m 0).kasWp cmp Q s
 | 0,m,Q,s,h1,h2,hd,hJ,k=>k m s hJ (An _) (An _) hd
 | f+1,m,Q,s,h1,h2,hd,hJ,k=>by
  have bn:g p m≠g p (m - 1):=λh=>by have:=P.inj m (m - 1) (by omega) (by omega) h;omega
  refine A.ask _ _ _ _ (P.lt m<|by omega) (P.lt (m - 1)<|by omega) bn hJ λs' gI=>?_;cases e:lt (p.getD m 0) (p.getD (m - 1) 0) with
  | true=>
   show(if true=true then(if 0 > 0 then _ else kas_desc f p (m+1) 0)else _:KasT _).kasWp cmp Q s';rw[BP rfl,BL<|by omega];exact RY A P f (m+1) Q s' (by omega) (by omega) (q4b A h1 hd e) gI λk' s2 j2 a b c=>k k' s2 j2 (by omega) (by omega) c
  | false=>
   refine A.ask _ _ _ _ (P.lt (m - 1)<|by omega) (P.lt m<|by omega) (CG bn) gI λs2 v5=>?_;have e2:lt (p.getD (m - 1) 0) (p.getD m 0)=true:=Jh A (P.lt m<|by omega) (P.lt (m - 1)<|by omega) bn e;rw[e2];exact k m s2 v5 (An _) (by omega) hd
def v6{p:Array Nat}{m k:Nat}(h:m<=p.size):g (kas_rev p 0 m) k=if k < m then g p (m - 1 - k)else g p k:=by
 have e:=getElem?_mirror_all (xs:=p) (i:=0) (j:=m) h k
 by_cases c:k < m
 ·rw[BP c];rw[BP ⟨Bz _,c⟩]at e;refine kG<|e.trans ?_
  congr 1
  omega
 ·rw[BL c];rw[BL λq=>c q.2]at e;exact kG e
def R0{p:Array Nat}{m:Nat}(P:Pm p n)(h:m<=n):Pm (kas_rev p 0 m) n:=by
 have hs:m<=p.size:=by rw[P.size];exact h
 refine⟨by rw[kas_rev_size];exact P.size,λi hi=>?_,λi j hi hj q=>?_⟩
 ·rw[v6 hs]
  split
  ·exact P.lt _<|by omega
  ·exact P.lt _ hi
 ·rw[v6 hs,v6 hs]at q
  by_cases c:i < m <;> by_cases d:j < m
  ·rw[BP c,BP d]at q;have:=P.inj _ _ (by omega) (by omega) q;omega
  ·rw[BP c,BL d]at q;have:=P.inj _ _ (by omega) hj q;omega
  ·rw[BL c,BP d]at q;have:=P.inj _ _ hi (by omega) q;omega
  ·rw[BL c,BL d]at q;exact P.inj _ _ hi hj q
def q69{p:Array Nat}{m:Nat}(P:Pm p n)(h:m<=n)(hd:Dn lt p m):Up lt (kas_rev p 0 m) m:=λi j hi hj=>by
 have hs:m<=p.size:=by rw[P.size];exact h
 rw[v6 hs,v6 hs,BP (by omega),BP hj];exact hd (m - 1 - j) (m - 1 - i) (by omega)<|by omega
def q2h(A:d6 lt cmp J n){p:Array Nat}(P:Pm p n){m:Nat}{Q:Nat×Array Nat->Shared->Prop}{s:Shared}(h1:1<=m)(h2:m<=n)(hd:Dn lt p m)(hJ:J s)
  (k:∀ r q s',J s'->1<=r->r<=n->Pm q n->Up lt q r->Q (r,q) s'):(kas_tail3 m n p).kasWp cmp Q s:=by
 unfold kas_tail3;rw[JZ];exact Ji A (R0 P h2) (n - m) m _ s h1 (by omega) (q69 P h2 hd) hJ λr s' j a b c _=>k r _ s' j (by omega) (by omega) (R0 P h2) c
def q1k(A:d6 lt cmp J n){p:Array Nat}(P:Pm p n){Q:Nat×Array Nat->Shared->Prop}{s:Shared}(h2:2<=n)(hJ:J s)
  (k:∀ r q s',J s'->1<=r->r<=n->Pm q n->Up lt q r->Q (r,q) s'):(kas_count n p).kasWp cmp Q s:=by
 unfold kas_count;rw[JZ];refine Ji A P (n - 1) 1 _ s (An _) (by omega) (q9v p) hJ λm s' gI m1 m2 hu v7=>?_
 by_cases c:m=n
 ·subst c;rw[BP<|by simp];exact k m p s' gI m1 (An _) P hu
 ·rw[BL<|by simpa using c]
  by_cases d:m > 1
  ·rw[BP d];have bn:g p 0≠g p (m - 1):=λh=>by have:=P.inj 0 (m - 1) (by omega) (by omega) h;omega
   refine A.ask _ _ _ _ (P.lt 0<|by omega) (P.lt (m - 1)<|by omega) bn gI λs2 v5=>?_;have e:lt (p.getD 0 0) (p.getD (m - 1) 0)=true:=hu 0 (m - 1) (by omega) (by omega);rw[e];exact k m p s2 v5 m1 (by omega) P hu
  ·rw[BL d];have em:m=1:=by omega
   subst em;unfold kas_descPart;rw[JZ];have hl:=v7 (by omega);have hd2:Dn lt p 2:=λi j hi hj=>by
    have:i=0/\j=1:=by omega
    rw[this.1,this.2];exact hl
   refine RY A P (n - (1+1)) (1+1) _ s' (by omega) (by omega) hd2 gI λr s2 v5 r1 r2 hd=>?_;show(if(0:Nat) > 0 then _ else kas_tail3 r n p:KasT _).kasWp cmp Q s2;rw[BL<|by omega];exact q2h A P (by omega) (by omega) hd v5 k
theorem Jj(A:d6 lt cmp J n){p:Array Nat}(P:Pm p n){k:Nat}(hk:k < n)(hu:Up lt p k):∀(f l r:Nat) (Q:Nat->Shared->Prop) (s:Shared),r<=k->l<=r->r - l<=f->J s->(∀ i,i < l->lt (g p i) (g p k)=true)->(∀ i,r<=i->i < k->lt (g p k) (g p i)=true) ->
  (∀ m s',J s'->m<=k->(∀ i,i < m->lt (g p i) (g p k)=true)->(∀ i,m<=i->i < k->lt (g p k) (g p i)=true)->Q m s')->(kas_place p k f l r).kasWp cmp Q s
 | 0,l,r,Q,s,h1,h2,h3,hJ,ha,hb,q=>q l s hJ (by omega) ha λi hi=>hb i<|by omega
 | f+1,l,r,Q,s,h1,h2,h3,hJ,ha,hb,q=>by
  unfold kas_place
  by_cases c:l>=r
  ·rw[BP c];exact q l s hJ (by omega) ha λi hi=>hb i<|by omega
  ·rw[BL c];have hmk:(l+r) / 2 < k:=by omega
   have bn:g p k≠g p ((l+r) / 2):=λh=>by have:=P.inj k _ hk (by omega) h;omega
   refine A.ask _ _ _ _ (P.lt k hk) (P.lt _<|by omega) bn hJ λs' gI=>?_;cases e:lt (p.getD k 0) (p.getD ((l+r) / 2) 0) with
   | true=>
    show(kas_place p k f l<|(l+r) / 2).kasWp cmp Q s';refine Jj A P hk hu f l ((l+r) / 2) Q s' (by omega) (by omega) (by omega) gI ha (λi hi R1=>?_) q
    by_cases d:i=(l+r) / 2
    ·rw[d];exact e
    ·exact A.zC _ _ _ e<|hu _ _ (by omega) R1
   | false=>
    show(kas_place p k f ((l+r) / 2+1) r).kasWp cmp Q s';have e2:=Jh A (P.lt k hk) (P.lt _<|by omega) bn e;refine Jj A P hk hu f ((l+r) / 2+1) r Q s' h1 (by omega) (by omega) gI (λi hi=>?_) hb q
    by_cases d:i=(l+r) / 2
    ·rw[d];exact e2
    ·exact A.zC _ _ _ (hu _ _ (by omega) hmk) e2
def v8{p:Array Nat}{k m i:Nat}(hk:k < p.size)(hm:m<=k):g (bubble p k<|k - m) i=if i=m then g p k else if m < i/\i<=k then g p (i - 1)else g p i:=by
 have e:=getElem?_bubble (xs:=p) hk (k - m) (by omega) i;rw[show k - (k - m)=m by omega]at e
 by_cases c:i=m
 ·rw[BP c];rw[BP c]at e;exact kG e
 ·rw[BL c];rw[BL c]at e
  by_cases d:m < i/\i<=k
  ·rw[BP d];rw[BP d]at e;exact kG e
  ·rw[BL d];rw[BL d]at e;exact kG e
def q8m{p:Array Nat}{k m:Nat}(P:Pm p n)(hk:k < n)(hm:m<=k):Pm (bubble p k<|k - m) n:=by
 have hs:k < p.size:=by rw[P.size];exact hk
 refine⟨by rw[bubble_size];exact P.size,λi hi=>?_,λi j hi hj q=>?_⟩
 ·rw[v8 hs hm]
  split
  ·exact P.lt k hk
  ·split
   ·exact P.lt _<|by omega
   ·exact P.lt _ hi
 ·rw[v8 hs hm,v8 hs hm]at q;have src:∀ a,a < n->∃ b,b < n/\(if a=m then g p k else if m < a/\a<=k then g p (a - 1)else g p a)=g p b/\((a=m/\b=k)\/(a≠m/\(m < a/\a<=k)/\b=a - 1)\/(a≠m/\¬(m < a/\a<=k)/\b=a)):=λa ha=>by
   by_cases c:a=m
   ·exact⟨k,hk,by rw[BP c],.inl ⟨c,rfl⟩⟩
   ·by_cases d:m < a/\a<=k
    ·exact⟨a - 1,by omega,by rw[BL c,BP d],.inr<|.inl ⟨c,d,rfl⟩⟩
    ·exact⟨a,ha,by rw[BL c,BL d],.inr<|.inr ⟨c,d,rfl⟩⟩
  obtain⟨x,x1,x2,x3⟩:=src i hi;obtain⟨y,y1,y2,y3⟩:=src j hj;rw[x2,y2]at q;have e:=P.inj x y x1 y1 q;subst e
  rcases x3 with ⟨a1,a2⟩ | ⟨a1,a2,a3⟩ | ⟨a1,a2,a3⟩
  ·rcases y3 with ⟨b1,b2⟩ | ⟨b1,b2,b3⟩ | ⟨b1,b2,b3⟩
   ·exact a1.trans b1.symm
   ·exact absurd (a2.symm.trans b3)<|Cp<|Be (Nat.sub_lt (Ge b2.1) Fh) b2.2
   ·exact absurd ⟨Fw (by rw[<- b3,a2];exact hm)<|CG b1,by rw[<- b3,a2];exact An _⟩ b2
  ·rcases y3 with ⟨b1,b2⟩ | ⟨b1,b2,b3⟩ | ⟨b1,b2,b3⟩
   ·exact absurd (b2.symm.trans a3)<|Cp<|Be (Nat.sub_lt (Ge a2.1) Fh) a2.2
   ·exact Nat.sub_one_cancel (Ge a2.1) (Ge b2.1)<|a3.symm.trans b3
   ·exact absurd ⟨Fw (by rw[<- b3,a3];exact Nat.le_sub_one_of_lt a2.1)<|CG b1,by rw[<- b3,a3];exact By (Nat.sub_le _ _) a2.2⟩ b2
  ·rcases y3 with ⟨b1,b2⟩ | ⟨b1,b2,b3⟩ | ⟨b1,b2,b3⟩
   ·exact absurd ⟨Fw (by rw[<- a3,b2];exact hm)<|CG a1,by rw[<- a3,b2];exact An _⟩ a2
   ·exact absurd ⟨Fw (by rw[<- a3,b3];exact Nat.le_sub_one_of_lt b2.1)<|CG a1,by rw[<- a3,b3];exact By (Nat.sub_le _ _) b2.2⟩ a2
   ·exact a3.symm.trans b3
def q71{p:Array Nat}{k m:Nat}(P:Pm p n)(hk:k < n)(hm:m<=k)(hu:Up lt p k)(ha:∀ i,i < m->lt (g p i) (g p k)=true)(hb:∀ i,m<=i->i < k->lt (g p k) (g p i)=true):Up lt (bubble p k<|k - m) (k+1):=λi j hi hj=>by
 have hs:k < p.size:=by rw[P.size];exact hk
 rw[v8 hs hm,v8 hs hm]
 by_cases c:i=m
 ·rw[BP c,BL (by omega),BP<|by omega];exact hb _ (by omega)<|by omega
 ·rw[BL c]
  by_cases d:j=m
  ·rw[BP d,BL<|by omega];exact ha i<|by omega
  ·rw[BL d]
   by_cases e:m < i/\i<=k
   ·rw[BP e,BP<|by omega];exact hu _ _ (by omega)<|by omega
   ·rw[BL e]
    by_cases f:m < j/\j<=k
    ·rw[BP f];exact hu _ _ (by omega)<|by omega
    ·rw[BL f];exact hu _ _ hi<|by omega
theorem R3(A:d6 lt cmp J n):∀(f:Nat) (p:Array Nat) (k:Nat) (Q:Array Nat->Shared->Prop) (s:Shared),Pm p n->1<=k->k+f=n->Up lt p k->J s->(∀ q s',J s'->Pm q n->Up lt q n->Q q s')->(kas_bin f p k).kasWp cmp Q s
 | 0,p,k,Q,s,P,h1,h2,hu,hJ,q=>by
  have:k=n:=by omega
  subst this;exact q p s hJ P hu
 | f+1,p,k,Q,s,P,h1,h2,hu,hJ,q=>by
  unfold kas_bin;rw[JZ];refine Jj A P (by omega) hu k 0 k _ s (An _) (Bz _) (by omega) hJ (λi hi=>by omega) (λi hi R1=>by omega) λm s' gI hm ha hb=>?_;exact R3 A f _ (k+1) Q s' (q8m P (by omega) hm) (by omega) (by omega) (q71 P (by omega) hm hu ha hb) gI q
def q6j(A:d6 lt cmp J n){Q:Array Nat->Shared->Prop}{s:Shared}(h2:2<=n)(hJ:J s)(q:∀ p s',J s'->Pm p n->Up lt p n->Q p s'):(kas_sort n).kasWp cmp Q s:=by
 unfold kas_sort;rw[JZ];refine q1k A (RU n) h2 hJ λr p s' gI r1 r2 P hu=>?_;show(if r < n then kas_bin (n - max r 1) p (max r 1)else .ret p:KasT _).kasWp cmp Q s';have em:max r 1=r:=by omega
 rw[em]
 by_cases c:r < n
 ·rw[BP c];exact R3 A (n - r) p r Q s' P r1 (by omega) hu gI q
 ·rw[BL c];have:r=n:=by omega
  subst this;exact q p s' gI P hu
end
def R5{p:Array Nat}{n:Nat}(P:Pm p n):p.toList.Nodup:=by
 rw[Cg,Bo];intro i j hi hj eV e;have rM:i < n:=by rw[Bq,P.size]at hi;exact hi
 have px:j < n:=by rw[Bq,P.size]at hj;exact hj
 have e1:g p i=p.toList[i]:=jm (by rw[<- Bs];exact Ab hi);have e2:g p j=p.toList[j]:=jm (by rw[<- Bs];exact Ab hj);have:=P.inj i j rM px (by rw[e1,e2,e]);omega
def Jk{p:Array Nat}{n v:Nat}(P:Pm p n)(h:v∈p.toList):v < n:=by
 obtain⟨i,hi⟩:=Br h;have hl:i < n:=by have:=(Ac.mp hi).1;rw[Bq,P.size]at this;exact this
 have e1:g p i=v:=jm (by rw[<- Bs];exact hi);rw[<- e1];exact P.lt i hl
def q56{p:Array Nat}{n:Nat}(P:Pm p n):p.toList.Perm (List.range n):=by
 rw[QS (R5 P) RL];intro v;rw[Bt];refine⟨λh=>Jk P h,λh=>DK λhn=>?_⟩;have l1:p.toList.length<=((List.range n).erase v).length:=Nt.aV (R5 P) λz hz=>by
  have bn:z≠v:=λe=>hn<|e ▸ hz;exact(Fg bn).mpr<|Bt.mpr<|Jk P hz
 rw[Fr<|Bt.mpr h,Bq,P.size,Em]at l1;omega
def Hd(h:Heap)(v:Value)(z:Str):Prop:=∃ a o xs n t,v = .ref a/\h.get? a=some o/\o.cls = .type "tuple"/\o.data = .seq xs n/\xs[0]?=some (.str z t)
def Hd.keep{h h':Heap}{v:Value}{z:Str}(x:Hd h v z)(k:∀ a o,v = .ref a->h.get? a=some o->h'.get? a=some o):Hd h' v z:=by
 obtain⟨a,o,xs,n,t,e,h1,h2⟩:=x;exact⟨a,o,xs,n,t,e,k a o e h1,h2⟩
def qH(h:Heap)(vs:Ô)(zs:Ò):Prop:=vs.length=zs.length/\∀(i:Nat) v z,vs[i]?=some v->zs[i]?=some z->Hd h v z
def ltZ(zs:Ò)(i j:Nat):Bool:=decide ((zs.getD i ⟨#[]⟩).cps.toList < (zs.getD j ⟨#[]⟩).cps.toList)
section
variable{prog:Program}{w:World}{A:Around}{E:Ï}{s:Shared}
theorem R9:∀{h:Heap} {vs:Ô} {zs:Ò},qH h vs zs->∃ fs,KatTups h vs fs/\fs.length=vs.length/\∀ f∈fs,∃ z t,f=Value.str z t
 | h,[],_,_=>⟨[],KatTups.nil,rfl,λf hf=>by cases hf⟩
 | h,v :: vs,[],hh=>by have:=hh.1;simp at this
 | h,v :: vs,z :: zs,hh=>by
  obtain⟨fs,k1,k2,k3⟩:=R9 (h:=h) (vs:=vs) (zs:=zs) ⟨by have:=hh.1;simpa using this,λi a b h1 h2=>hh.2 (i+1) a b (by simpa using h1)<|by simpa using h2⟩;obtain⟨a,o,xs,n,t,rfl,h1,h2,h3,h4⟩:=hh.2 0 v z rfl rfl;refine⟨.str z t :: fs,KatTups.cons h1 h2 h3 h4 k1,by rw[Ap,Ap,k2],λf hf=>?_⟩
  rcases Aj.mp hf with rfl | hf
  ·exact⟨z,t,rfl⟩
  ·exact k3 f hf
def q9c{x y:Value}{z u:Str}{Q:Bool->Shared->Prop}(hx:Hd s.heap x z)(hy:Hd s.heap y u)(bn:z≠u)(h:Q (decide (z.cps.toList < u.cps.toList)) s):wpAny (model prog w) A (keyLt' (tuples' true) x y) Q E s:=by
 obtain⟨a,o,xs,n,t,rfl,h1,h2,h3,h4⟩:=hx;obtain⟨b,o',ys,n',t',rfl,g1,g2,g3,g4⟩:=hy;refine kat_lt h1 h3 g1 g3 ?_;have ex:∃ r,xs.toList = .str z t :: r:=by
  have:xs.toList[0]?=some (.str z t):=by rw[Bs];exact h4
  cases e:xs.toList with
  | nil=>rw[e]at this;cases this
  | cons c r=>rw[e]at this;cases this;exact⟨r,rfl⟩
 have ey:∃ r,ys.toList = .str u t' :: r:=by
  have:ys.toList[0]?=some (.str u t'):=by rw[Bs];exact g4
  cases e:ys.toList with
  | nil=>rw[e]at this;cases this
  | cons c r=>rw[e]at this;cases this;exact⟨r,rfl⟩
 obtain⟨rx,ex⟩:=ex;obtain⟨ry,ey⟩:=ey;rw[ex,ey];show KatLex prog w A true _ Q ((.str z t,.str u t') :: rx.zip ry) 0 s;refine kat_cons<|eqBool_str ?_;have:(z == u)=false:=beq_eq_false_iff_ne.mpr bn;rw[this];exact kat_no<|oneLt_str h
def q5b{a b:Str}(h:a.cps.toList=b.cps.toList):a=b:=by
 apply Str.ext';exact Array.toList_inj.mp h
def q0g{vs:Ô}{zs:Ò}(hh:qH s.heap vs zs)(hn:zs.Nodup):d6 (ltZ zs) (kas_ask prog w A (tuples' true) vs) (λs'=>s'=s) vs.length:=by
 have hl:=hh.1;have gz:∀ i,(hi:i < zs.length)->zs.getD i ⟨#[]⟩=zs[i]:=λi hi=>by simp[hi]
 have gv:∀ i,(hi:i < vs.length)->vs.getD i Value.none=vs[i]:=λi hi=>by simp[hi]
 have ne:∀ i j,(hi:i < zs.length)->(hj:j < zs.length)->i≠j->zs[i]≠zs[j]:=λi j hi hj eV e=>by
  rcases Nat.lt_or_gt_of_ne eV with c | c
  ·exact Bo.mp (Cg.mp hn) i j hi hj c e
  ·exact Bo.mp (Cg.mp hn) j i hj hi c e.symm
 refine⟨λi j C s' hi hj eV hs hC=>?_,λi j hi hj eV=>?_,λi j h=>?_,λi j k h1 h2=>?_⟩
 ·subst hs;unfold kas_ask;rw[gv i hi,gv j hj];have e:ltZ zs i j=decide (zs[i].cps.toList < zs[j].cps.toList):=by unfold ltZ;rw[gz i (by omega),gz j<|by omega]
  refine q9c (hh.2 i _ zs[i] (Ab hi)<|Ab<|by omega) (hh.2 j _ zs[j] (Ab hj)<|Ab<|by omega) (ne i j (by omega) (by omega) eV) ?_;rw[<- e];exact hC s' rfl
 ·unfold ltZ;rw[gz i (by omega),gz j (by omega),CK,CK]
  by_cases c:zs[i].cps.toList < zs[j].cps.toList
  ·exact .inl c
  ·by_cases d:zs[j].cps.toList < zs[i].cps.toList
   ·exact .inr d
   ·have:zs[i].cps.toList=zs[j].cps.toList:=List.le_antisymm (List.not_lt.mp d)<|List.not_lt.mp c;exact absurd (q5b this)<|ne i j (by omega) (by omega) eV
 ·unfold ltZ at h ⊢;have:=BX h;exact BR λq=>Gc _<|Gj this q
 ·unfold ltZ at h1 h2 ⊢;exact BW<|Gj (BX h1)<|BX h2
def map_range(vs:Ô):(List.range vs.length).map (λi=>vs.getD i Value.none)=vs:=by
 apply RM
 ·simp
 ·intro i h1 h2;simp[h2]
def q0e{a:Addr}{vs:Ô}{zs:Ò}{n:Nat}{P:Fin->Shared->Prop}(ho:s.heap.get? a=some (seqObj "list" vs.toArray n))(bU:∀ v∈vs,v ≠ .ref a)(hh:qH s.heap vs zs)(hn:zs.Nodup)(pG:vs.length < 64)
  (h:∀ p:Array Nat,Pm p vs.length->Up (ltZ zs) p vs.length->P (.done<|.ret .none) {s with heap:=sortedHeap s.heap a vs (List.toArray<|p.toList.map λi=>vs.getD i Value.none)}) :
  wpAny (model prog w) A (Builtin.«list.sort» ⟨[.ref a],[]⟩) P E s:=by
 rw[list_sort_plain];have ha:a < s.heap.objs.size:=Aq ho;have Sd:vs.length<=sizeLine:=by rw[EY];omega
 refine BJ<|PK ho rfl ?_;refine BJ<|LR ho rfl ?_;obtain⟨e1,mB⟩:∃ e1,(s.heap.update a<|Obj.mapSeq λ_=>#[]).get? a=some (seqObj "list" #[] e1):=⟨_,get?_update_seq ho λ_=>#[]⟩;refine BJ<|QG mB rfl ?_;refine BJ<|QD ?_;refine BJ<|JV ?_;refine CJ ?_;have pH:(((s.heap.update a<|Obj.mapSeq λ_=>#[]).push<|seqObj "tuple" vs.toArray 0).push<|seqObj "list" #[] 0).get? a=some (seqObj "list" #[] e1):=Ag _<|Ag _ mB;show wpAny (model prog w) A _ P E {s with heap:=((s.heap.update a<|Obj.mapSeq λ_=>#[]).push<|seqObj "tuple" vs.toArray 0).push (seqObj "list" #[] 0)};have Se:qH (((s.heap.update a<|Obj.mapSeq λ_=>#[]).push<|seqObj "tuple" vs.toArray 0).push<|seqObj "list" #[] 0) vs zs:=⟨hh.1,λi v z h1 h2=>(hh.2 i v z h1 h2).keep λb o e q=>by
  have hb:a≠b:=λe2=>bU v (Au h1) (by rw[e,e2]);exact Ag _<|Ag _<|(Bw _ _ hb).trans q⟩
 dsimp only
 have hsz:vs.toArray.size=vs.length:=by simp
 by_cases h2:vs.toArray.size < 2
 ·rw[BP h2,BP h2];refine BJ<|BK ?_;rw[StateT.run_pure];refine BJ<|BK ?_
  dsimp only
  have e5:(arrOf<|SortSt.mk' general' (vs.toArray.zip vs.toArray) #[] 7 none).map (·.2)=vs.toArray:=by
   show(vs.toArray.zip vs.toArray).map (·.2)=_;apply Array.toList_inj.mp;simp[List.map_snd_zip]
  refine BJ<|QG pH rfl ?_;refine BJ (LR pH rfl ?_ (hsz2:=by rw[e5,hsz];omega));simp only[FZ,Bb,CV];refine BK ?_;rw[e5];have fin:=h (List.toArray<|List.range vs.length) (RU _) λi j hi hj=>by rw[hsz]at h2;omega
  have e6:(List.toArray<|List.range vs.length).toList.map (λi=>vs.getD i Value.none)=vs:=map_range vs;rw[e6]at fin;exact fin
 ·rw[BL h2,BL h2];obtain⟨fs,k1,k2,k3⟩:=R9 Se;rw[hsz]at h2;refine BJ<|kat_kind (T:= .type "str") k1 (by omega) (λf hf=>?_) (by decide) ?_
  ·obtain⟨z,t,rfl⟩:=k3 f hf;exact Looks.of_pure rfl
  refine BJ<|CP (kat_run (prog:=prog) (w:=w) (A:=A) (E:=E) (κ:=tuples' true) (ks:=vs) (vs:=vs) (Q:=λdC s'=>s'={s with heap:=((s.heap.update a<|Obj.mapSeq λ_=>#[]).push<|seqObj "tuple" vs.toArray 0).push (seqObj "list" #[] 0)}/\∃ p:Array Nat,Pm p vs.length/\Up (ltZ zs) p vs.length/\arrOf dC=p.map (kas_item<|vs.toArray.zip vs.toArray)/\failedOf dC=none)
   (G:=λp s'=>s'={s with heap:=((s.heap.update a<|Obj.mapSeq λ_=>#[]).push<|seqObj "tuple" vs.toArray 0).push (seqObj "list" #[] 0)}/\Pm p vs.length/\Up (ltZ zs) p vs.length) rfl (by omega) pG (λp dC s' _ a2 a3 a4=>⟨a4.1,p,a4.2.1,a4.2.2,a2,a3⟩)
   (q6j (q0g (s:={s with heap:=((s.heap.update a<|Obj.mapSeq λ_=>#[]).push<|seqObj "tuple" vs.toArray 0).push (seqObj "list" #[] 0)}) Se hn) (by omega) rfl λp s' e P U=>⟨e,P,U⟩)) ?_ λ_ _ e=>e
  rintro ⟨⟨⟩,dC⟩ s' ⟨rfl,p,P,U,x6,hf⟩
  dsimp only
  have e3:=kat_snds (ks:=vs) (vs:=vs) rfl x6;refine BJ<|QG pH rfl ?_;refine BJ (LR pH rfl ?_ (hsz2:=by rw[e3,Aw,Aa,Bq,P.size];omega));rw[hf];simp only[FZ,Bb,CV];refine BK ?_;rw[e3];exact h p P U
def q55{l:Addr}{vs:Ô}{zs:Ò}{Q:Ï}(hl:s.heap.IsList l vs.toArray)(hh:qH s.heap vs zs)(hn:zs.Nodup)(pG:vs.length < 64)
  (h:∀(h':Heap) (e:Nat) (p:Array Nat),Pm p vs.length->Up (ltZ zs) p vs.length->(∀ b u,s.heap.get? b=some u->h'.get? b=some u)->h'.get? (s.heap.objs.size+1)=some (seqObj "list" (List.toArray<|p.toList.map λi=>vs.getD i Value.none) e)->Q (.ref<|s.heap.objs.size+1) {s with heap:=h'}) :
  wpAny (model prog w) A (call (.builtin "sorted") [.ref l]) Q E s:=by
 have Sd:vs.length<=sizeLine:=by rw[EY];omega
 refine Calls.call_function_entry kind_sorted plain_sorted entry_sorted (args_sorted1 _) ?_;unfold Builtin.«sorted»;refine BJ (m:=checkCount "sorted" 1 1 _)<|BK ?_;refine BJ<|collect_list (vs:=vs) hl ?_;refine BJ<|JV ?_;have hsz:((s.heap.push<|seqObj "list" #[] 0).update s.heap.objs.size (Obj.mapSeq (·++vs.toArray))).objs.size=s.heap.objs.size+1:=by
  rw[Heap.size_update,size_push']
 have jt:(((s.heap.push<|seqObj "list" #[] 0).update s.heap.objs.size (Obj.mapSeq (·++vs.toArray))).push<|seqObj "list" vs.toArray 0).get? (s.heap.objs.size+1)=some (seqObj "list" vs.toArray 0):=by
  rw[<- hsz];exact At _ rfl
 have hhL:qH (((s.heap.push<|seqObj "list" #[] 0).update s.heap.objs.size (Obj.mapSeq (·++vs.toArray))).push<|seqObj "list" vs.toArray 0) vs zs:=⟨hh.1,λi v z h1 h2=>(hh.2 i v z h1 h2).keep λb o e q=>
  Ag _ ((Bw _ _<|Cp<|Aq q).trans<|Ag _ q)⟩
 have bn:∀ v∈vs,v ≠ .ref (s.heap.objs.size+1):=λv hv e=>by
  obtain⟨i,hi⟩:=Br hv;have hl:=hh.1;have hiz:i < zs.length:=by have:=(Ac.mp hi).1;omega
  obtain⟨b,o,xs,n,t,e2,h1,_⟩:=hh.2 i v zs[i] hi<|Ab hiz;rw[e2]at e;cases e;exact absurd (Nat.lt_of_succ_lt<|Aq h1)<|Cv _
 show wpAny _ _ _ _ _ {s with heap:=((s.heap.push<|seqObj "list" #[] 0).update s.heap.objs.size (Obj.mapSeq (·++vs.toArray))).push (seqObj "list" vs.toArray 0)};rw[hsz];refine BJ<|CJ<|DG slot_list_sort ⟨_,jt,rfl⟩ entry_list_sort (q0e jt bn hhL hn pG λp P U=>⟨_,rfl,?_⟩)<|args_list_sort _;obtain⟨e,he⟩:=sortedAll_at s.heap vs<|List.toArray<|p.toList.map λi=>vs.getD i Value.none;exact BK ⟨_,rfl,h _ e p P U (λb u hb=>sortedAll_old hb) he⟩
end
end oE
namespace L2
open PySem PySem.Spec PyProof.Rows oE
theorem Sg:∀{ts:List Addr} {its:Ô},ay (ts.map V.ref) its->its=ts.map Value.ref
 | [],its,r=>r.zero
 | t :: ts,its,r=>by
  cases r with
  | cons h1 h2=>
   rw[Sg h2];have:_=Value.ref t:=h1;rw[this];rfl
theorem Sh:∀(ts:List Addr),ay (ts.map V.ref)<|ts.map Value.ref
 | []=> .nil
 | t :: ts=> .cons rfl (Sh ts)
def k6z{α β:Type}(xs:List α)(ys:List β)(h:xs.length=ys.length)(a:α)(b:β):(List.range xs.length).map (λi=>(xs.getD i a,ys.getD i b))=xs.zip ys:=by
 apply RM
 ·simp[h]
 ·intro i h1 h2;have hx:i < xs.length:=by simp at h1;exact h1
  have hy:i < ys.length:=by omega
  simp[hx,hy]
section
variable{X:Cx}{σ:St}{H:Hp}
def k0m:eZ X (.builtin "sorted") (λxs H Q=>∃(l:Addr) (ts:List Addr) (zs:Ò),xs=[.ref l]/\aq X.K H l (ts.map V.ref)/\ts.length=zs.length/\zs.Nodup/\ts.length < 64/\(∀(i:Nat) t z,ts[i]?=some t->zs[i]?=some z->∃ r,H t=some (.tup<|.str z :: r)) /\
  ∀(r:Addr) (ps:List<|Addr×Str),H r=none->ps.Perm (ts.zip zs)->ps.Pairwise (λa b=>a.2.cps.toList < b.2.cps.toList)->Q (.ref r) (upd H r<|.lst<|ps.map λp=> .ref p.1)):=by
 intro pins s σ H xs us Q I r h;obtain⟨l,ts,zs,rfl,hl,hlen,hn,pG,hd,q⟩:=h;obtain⟨u,rfl,ru⟩:=vals1 r;cases (show u=Value.ref l from ru);obtain⟨its,rv,pl,_⟩:=I.list hl;have ei:=Sg rv;subst ei;have hh:qH s.heap (ts.map Value.ref) zs:=by
  refine⟨by rw[Aa];exact hlen,λi v z h1 h2=>?_⟩;rw[Ai,Ay]at h1;obtain⟨t,ht,rfl⟩:=h1;obtain⟨rr,hr⟩:=hd i t z ht h2;obtain⟨its,r3,tp,_⟩:=I.tuple<|aJ.of hr;cases r3 with
  | cons a1 a2=>
   obtain⟨tk,rfl⟩:=a1;obtain⟨o,ho,hc,n,hd2⟩:=tp;exact⟨t,o,_,n,tk,rfl,ho,hc,hd2,rfl⟩
 refine q55 pl.isList hh hn (by rw[Aa];exact pG) λh' e p P U kp he=>?_;rw[Aa]at P U;have gp:∀ i,i < ts.length->g p i < ts.length:=P.lt;have pl2:p.toList.length=ts.length:=by rw[Bq];exact P.size
 have e1:(p.toList.map λi=>(ts.map Value.ref).getD i Value.none)=((p.toList.map λi=>(ts.getD i 0,zs.getD i ⟨#[]⟩)).map λx=>x.1).map Value.ref:=by
  rw[Cd,Cd];refine Ao λi hi=>?_;have aY:=Jk P hi;show(ts.map Value.ref).getD i Value.none=Value.ref (ts.getD i 0);simp[aY]
 refine⟨.ref _,_,I.e9 (s':={s with heap:=h'}) kp rfl rfl (Ek _) (show aB X.prog X.w _ h' _ (.lst<|(p.toList.map λi=>(ts.getD i 0,zs.getD i ⟨#[]⟩)).map λx=>V.ref x.1)from ?_),rfl,q _ (p.toList.map λi=>(ts.getD i 0,zs.getD i ⟨#[]⟩)) (I.aE.fresh<|Ek _) ?_ ?_⟩
 ·refine⟨by rw[Aa,Aa,pl2,EY];omega,_,e,?_,he⟩;rw[e1];have:=Sh<|(p.toList.map λi=>(ts.getD i 0,zs.getD i (⟨#[]⟩:Str))).map λx=>x.1;rw[Cd]at this;exact this
 ·rw[<- k6z ts zs hlen 0 ⟨#[]⟩];exact(q56 P).map _
 ·rw[Bo];intro i j hi hj eV;rw[Aa]at hi hj;have:=U i j eV (by omega);have q1:g p i=p.toList[i]:=jm (by rw[<- Bs];exact Ab hi);have q2:g p j=p.toList[j]:=jm (by rw[<- Bs];exact Ab hj);rw[q1,q2]at this;rw[Dq,Dq];exact BX this
def k85{e1 e2 e3:Expr}{k:Nat}{pos:Pos}{t:Addr}{x y z:V}{R:St->Hp->Prop}(hc:X.calm=true)(ht:aJ X.K H t [x,y,z])(h:Eg X e1 x σ H λσ1 H1=>Eg X e2 y σ1 H1 λσ2 H2=>Eg X e3 z σ2 H2 R)
  (hn:(assignEach [e1,e2,e3] X.env).length=3:=by rfl) (cn:(assignEach [e1,e2,e3] X.env).findIdx? (·.1)=none:=by rfl)
  (jx:(assignEach [e1,e2,e3] X.env).map (·.2)=assign e1 X.env :: (assignEach [e2,e3] X.env).map (·.2):=by rfl) (sf:(assignEach [e2,e3] X.env).map (·.2)=assign e2 X.env :: (assignEach [e3] X.env).map (·.2):=by rfl) (xX:(assignEach [e3] X.env).map (·.2)=assign e3 X.env :: (assignEach [] X.env).map (·.2):=by rfl) :
  Eg X (.Tuple [e1,e2,e3] k pos) (.ref t) σ H R:=
 CL (Mp (t:=rk (λv σ H Q=>Eg X e1 v σ H Q)<|rk (λv σ H Q=>Eg X e2 v σ H Q)<|rk (λv σ H Q=>Eg X e3 v σ H Q) oV) hc (tL ph (tL ph (tL ph Mm xX) sf) jx) hn cn)
  ⟨t,_,rfl,ht,rfl,_,_,rfl,h.mono λσ1 H1 h1=>⟨_,_,rfl,h1.mono λσ2 H2 h2=>⟨_,_,rfl,h2.mono λσ3 H3 q=>⟨rfl,q⟩⟩⟩⟩
end
end L2
namespace E6
open PySem L2 Nt bA
abbrev T3(x:Lk):HO:= .tup [.str x.1,.str x.2.1,.str x.2.2]
def m9(H:Hp)(us:List Addr)(ls:List Lk):Prop:=us.length=ls.length/\∀(j:Nat) u x,us[j]?=some u->ls[j]?=some x->H u=some (T3 x)
def m9.keep{H H':Hp}{us:List Addr}{ls:List Lk}(h:m9 H us ls)(k:∀ t xs,H t=some (.tup xs)->H' t=some (.tup xs)):m9 H' us ls:=⟨h.1,λj u x h1 h2=>k _ _<|h.2 j u x h1 h2⟩
def m9.snoc{H:Hp}{us:List Addr}{ls:List Lk}{u:Addr}{x:Lk}(h:m9 H us ls)(hu:H u=some (T3 x)):m9 H (us++[u]) (ls++[x]):=by
 refine⟨by rw[Af,Af,h.1];rfl,λj v y h1 h2=>?_⟩;have hl:=h.1
 by_cases hj:j < us.length
 ·rw[As hj]at h1;rw[As<|by omega]at h2;exact h.2 j v y h1 h2
 ·rw[Az<|by omega]at h1 h2;have fO:j - us.length=0:=by
   have:=(Ac.mp h1).1;simp at this;omega
  rw[fO]at h1;rw[<- hl,fO]at h2;cases h1;cases h2;exact hu
def zD(ls:List Lk):Prop:=ls.Pairwise λx y=>x.1.cps.toList < y.1.cps.toList
def Jl:Sp:=λvs H Q _=>∃(R:Addr) (as:Ð) (n:Net),vs=[.ref R]/\ai H R as n/\aw n/\n.length<=1000/\(ag n).length<=60 /\
 ∀(L:Addr) (us:List Addr) (ls:List Lk) (H':Hp),aj H H'->H L=none->H' L=some (.lst<|us.map V.ref)->m9 H' us ls->zD ls->(∀ x,x∈ls↔oh n x)->ls.length<=60->Q (.ref L) H'
def q2b{n:Net}(T:aw n){r p:Nat}{z:Str}(hr:r < n.length)(hz:(row n r)[p]?=some z):(bL (bh (n.take r)++bw r ((row n r).take p) 0) z).length<=1:=by
 obtain⟨rest,h⟩:=vt hr hz;have h1:bL (bh n) z=bL (bh (n.take r)++bw r ((row n r).take p) 0) z++(r,p) :: bL rest z:=by
  rw[h];unfold bL;rw[Cr,Ak,RV<|by simp];rfl
 have h2:(bL (bh n) z).length=2:=by
  have:=pI n z;rw[T z<|eU (e:=(r,p)) hz]at this;exact this
 rw[h1,Af,Ap]at h2;omega
section
variable{P:Program}{w:World}{K:PySem.W.Frag}{mg:Ó}{base:Heap}
abbrev NLk:Ò:=["rows","met","links","point","ties","tie"]
def v9:ak NLk ["rows"] (aU EX):=⟨rfl,rfl,rfl,by decide +kernel,rfl,by decide +kernel,by decide +kernel⟩
def q1g{f:Addr}{fd:FuncData}(F:bE K "links_of" "links_of" EX f fd)(T:Txt mg):aG P w K mg base bH 1 f fd ["rows"] Jl:=by
 refine F.gb v9 (λvs H Q E h=>?_) λb0 H vs Q E hr h=>?_
 ·obtain⟨R,as,n,rfl,_⟩:=h;rfl
 obtain⟨R,as,n,rfl,hR,hT,hn,d3,q⟩:=h;have nd:=v9.nd;have bU:=hR.len;have hu:=hr.u1;show Run _ _ _ [some<|.ref R,none,none,none,none,none] H;refine aX 1 nd<|EF λdm pY=>?_;refine aX 2 nd<|dF<|ax ⟨Z0,λM hM=>?_⟩;have lv:M≠dm:=λe=>by rw[e,aA]at hM;cases hM
 have Si:H M=none:=by rw[av lv]at hM;exact hM
 have s0:aj H (upd (upd H dm<|.dK []) M<|.lst []):=(aS pY _).trans<|aS hM _;have wa:(upd (upd H dm<|.dK []) M<|.lst []) dm=some (.dK []):=by rw[av<|CG lv,aA]
 have wc:(upd (upd H dm<|.dK []) M<|.lst []) M=some (.lst []):=aA;show Run _ _ _ [some<|.ref R,some<|.ref dm,some<|.ref M,none,none,none] (upd (upd H dm<|.dK []) M<|.lst []);generalize upd (upd H dm<|.dK []) M (.lst [])=H0 at s0 wa wc;have Jm:(bh n).length=(ag n).length:=by rw[<- k6 n 0,Aa];rfl
 refine jU<|ae 0 ⟨R,rfl,⟨_,aq.of<|s0 _ _ hR.lst⟩,jV (xs:=as.map λa=>V.ref a.1) (λr σ H'=>∃(kM:List<|Key×V) (us:List Addr) (ls:List Lk) (u1 u2 u3:Option V),aj H H'/\H' dm=some (.dK kM)/\H' M=some (.lst<|us.map V.ref)/\m9 H' us ls/\iM n (bh<|n.take r) kM ls/\σ=[some<|.ref R,some<|.ref dm,some<|.ref M,u1,u2,u3])
  ⟨[],[],[],_,_,_,s0,wa,wc,⟨rfl,λj u x h=>by simp at h⟩,iM.start n,rfl⟩ ?_ ?_ ?_⟩
 ·rintro r σ H' _ ⟨_,_,_,_,_,_,sm,_⟩;exact aq.of<|sm _ _ hR.lst
 ·rintro r x σ H' hx ⟨kM,us,ls,u1,u2,u3,sm,ed,eM,ia,I,rfl⟩;have hi:r < n.length:=by
   have:=(Ac.mp hx).1;rw[Aa]at this;omega
  obtain⟨a,ea,cW,et,el,er⟩:=(hR.same sm).at hi;rw[Ai,ea]at hx;cases hx;refine jd rfl (aJ.of et) (bg 3 nd<|bg 4 nd ?_);refine jU<|ae 4 ⟨a.2,rfl,⟨_,aq.of el⟩,jV (xs:=(row n r).map V.str) (λp σ bR=>∃(kM:List<|Key×V) (us:List Addr) (ls:List Lk) (u3:Option V),aj H bR/\bR a.2=some (Ls<|row n r)/\bR dm=some (.dK kM)/\bR M=some (.lst<|us.map V.ref)/\m9 bR us ls/\iM n (bh (n.take r)++bw r ((row n r).take p) 0) kM ls/\σ=[some<|.ref R,some<|.ref dm,some<|.ref M,some<|.str n[r].1,some<|.ref a.2,u3])
   ⟨kM,us,ls,_,sm,el,ed,eM,ia,by simpa[bw]using I,rfl⟩ ?_ ?_ ?_⟩
  ·rintro p σ bR _ ⟨_,_,_,_,_,e,_⟩;exact aq.of e
  ·rintro p x σ bR hx ⟨kM,us,ls,u3,sm,el,ed,eM,ia,I,rfl⟩;have hp:p < (row n r).length:=by
    have:=(Ac.mp hx).1;rw[Aa]at this;exact this
   have hz:(row n r)[p]?=some (row n r)[p]:=Ab hp;rw[Ai,hz]at hx;cases hx;have jx:=pL (r:=r) hz;have hle:=q2b hT hi hz;have Sj:(bh (n.take r)++bw r ((row n r).take p) 0).length<=60:=by
    obtain⟨rest,we⟩:=vt hi hz;have h1:=BZ List.length we;simp only[Af]at h1 ⊢;omega
   have lM:=I.dZ;have lL:=I.mQ;have lA:=ia.1;have Sl:aH n r=n[r].1:=jf hi;have naM:a.2≠M:=λe=>by
    have:=(hR.tup r a n[r] ea<|Ab hi).2;rw[e,Si]at this;cases this
   generalize (row n r)[p]=z at hz jx hle;refine bg 5 nd ?_;refine c9<|OW hu<|ae 5<|ae 1 ⟨dm,_,rfl,a8.k (k:=Sum.inr z) ed,?_⟩;cases jD:bL (bh (n.take r)++bw r ((row n r).take p) 0) z with
   | nil=>
    rw[I.m0 z jD];show if false=true then _ else _;rw[BL<|by decide];refine uB hu<|ae 3<|ae 1<|ae 5 ⟨dm,_,rfl,bZ.k (k:=Sum.inr z) ed (b5<|by omega),aW<|aW ⟨_,us,ls,_,fb sm pY,?_,aA,?_,ia.keep λt xs h=>?_,?_,rfl⟩⟩
    ·rw[av<|ce el ed λz=>nomatch z];exact el
    ·rw[av lv];exact eM
    ·rw[av<|ce h ed λz=>nomatch z];exact h
    ·rw[jx,<- Ar];have:=I.new (e:=(r,p)) jD;show iM n _ (putK kM (Sum.inr z)<|.str n[r].1) ls;rw[<- Sl];exact this
   | cons b rest=>
    have hr0:rest=[]:=by
     rw[jD]at hle;exact Bj.mp<|by have:rest.length+1<=1:=hle;omega
    subst hr0;have vm:=I.m1 z b [] jD;rw[vm];show if true=true then _ else _;rw[BP rfl];refine fM (j4<|ae 2 ⟨M,rfl,⟨_,eM⟩,dR<|ah<|ae 5<|ah<|gR hu<|ae 1<|ae 5 ⟨dm,.str<|aH n b.1,rfl,by rw[<- vm];exact a8.k (k:=Sum.inr z) ed,ah<|ae 3<|ax ⟨Z3,λt ht=>?_⟩⟩⟩);have sT:=aS ht<|.tup [.str z,.str<|aH n b.1,.str n[r].1];have ntM:t≠M:=λe=>by rw[e,eM]at ht;cases ht
    have qD:(upd bR t<|.tup [.str z,.str<|aH n b.1,.str n[r].1]) t=some (T3 (z,aH n b.1,aH n (r,p).1)):=by
     rw[aA];show _=some (HO.tup [.str z,.str<|aH n b.1,.str<|aH n r]);rw[Sl]
    have kT:∀ c xs,(upd bR t<|.tup [.str z,.str<|aH n b.1,.str n[r].1]) c=some (.tup xs)->(upd (upd bR t<|.tup [.str z,.str<|aH n b.1,.str n[r].1]) M<|.lst<|us.map V.ref++[.ref t]) c=some (.tup xs):=λc xs h=>by
     rw[av<|ce h (sT _ _ eM) λz=>nomatch z];exact h
    refine⟨_,sT _ _ eM,by rw[Aa];exact b5 (by omega),aW<|aW ⟨kM,us++[t],ls++[(z,aH n b.1,aH n (r,p).1)],_,fb (sm.trans sT) Si,?_,?_,?_,?_,?_,rfl⟩⟩
    ·rw[av naM];exact sT _ _ el
    ·rw[av<|CG lv];exact sT _ _ ed
    ·rw[aA,Ak];rfl
    ·exact((ia.keep λc xs h=>sT _ _ h).snoc qD).keep kT
    ·rw[jx,<- Ar];exact I.old (e:=(r,p)) jD
  ·rintro σ bR ⟨kM,us,ls,u3,sm,_,ed,eM,ia,I,rfl⟩;rw[Aa,Bx]at I;refine aW ⟨kM,us,ls,_,_,_,sm,ed,eM,ia,?_,rfl⟩;rw[rX hi];exact I
 ·rintro σ H' ⟨kM,us,ls,u1,u2,u3,sm,ed,eM,ia,I,rfl⟩;rw[Aa,bU,Bx]at I;have lL:=I.mQ;have lA:=ia.1;have aY:us.length < 64:=by omega
  refine bQ (b4 k0m T.sorted DQ (ah (ae 2 (ax ⟨M,us,ls.map (·.1),rfl,aq.of eM,by rw[Aa];exact lA,I.gW,aY,λi t z h1 h2=>?_,λL ps hL hp hs=>?_⟩))))
  ·rw[Ai,Ay]at h2;obtain⟨x,hx,rfl⟩:=h2;exact⟨_,ia.2 i t x h1 hx⟩
  have pick:∀ p∈ps,∃ x,x∈ls/\x.1=p.2/\H' p.1=some (T3 x):=λp jc=>by
   have hz:=hp.mem_iff.mp jc;obtain⟨i,hi⟩:=Br hz;rw[List.getElem?_zip_eq_some]at hi;obtain⟨h1,h2⟩:=hi;rw[Ai,Ay]at h2;obtain⟨x,hx,e⟩:=h2;exact⟨x,Au hx,e,ia.2 i _ x h1 hx⟩
  obtain⟨xs,gT⟩:∃ xs:List Lk,xs.length=ps.length/\∀(j:Nat) p x,ps[j]?=some p->xs[j]?=some x->x∈ls/\x.1=p.2/\H' p.1=some (T3 x):=by
   clear hs hp
   induction ps with
   | nil=>exact⟨[],rfl,λj p x h=>by simp at h⟩
   | cons p r ih=>
    obtain⟨x,q1,q2,q3⟩:=pick p<|Ae ..;obtain⟨xs,l1,l2⟩:=ih λc hc=>pick c<|Ah _ hc;refine⟨x :: xs,by rw[Ap,Ap,l1],λj c y h1 h2=>?_⟩;cases j with
    | zero=>
     cases h1;cases h2;exact⟨q1,q2,q3⟩
    | succ j=>exact l2 j c y (by simpa using h1)<|by simpa using h2
  obtain⟨lx,gT⟩:=gT;have lp:ps.length=ls.length:=by rw[hp.length_eq,List.length_zip,Aa];omega
  have sL:=aS hL<|.lst<|ps.map λp=> .ref p.1;have Sn:zD xs:=by
   unfold zD;rw[Bo];intro i j hi hj eV;have a1:=(gT i ps[i] xs[i] (Ab<|by omega)<|Ab hi).2.1;have a2:=(gT j ps[j] xs[j] (Ab<|by omega)<|Ab hj).2.1;rw[a1,a2];exact Bo.mp hs i j (by omega) (by omega) eV
  have qI:(xs.map (·.1)).Nodup:=by
   rw[Cg,Dz];exact Sn.imp λh e=>by rw[e]at h;exact Gc _ h
  have qJ:∀ x,x∈xs↔x∈ls:=λx=>by
   constructor
   ·intro h;obtain⟨j,hj⟩:=Br h;have lh:=(Ac.mp hj).1;exact(gT j ps[j] x (Ab<|by omega) hj).1
   ·intro h;refine DK λhn=>?_;have Jn:xs.Nodup:=by
     rw[Cg]at qI ⊢;rw[Dz]at qI;exact qI.imp λh e=>h<|by rw[e]
    have:=aV Jn (b:=ls.erase x) λz hz=>by
     have hzl:z∈ls:=by
      obtain⟨j,hj⟩:=Br hz;have lh:=(Ac.mp hj).1;exact(gT j ps[j] z (Ab<|by omega) hj).1
     exact(Fg λe:z=x=>hn<|e ▸ hz).mpr hzl
    rw[Fr h]at this;have:0 < ls.length:=SN h;omega
  refine q L (ps.map (·.1)) xs _ (sm.trans sL) (ie sm hL) (by rw[aA,Cd];rfl) ⟨by rw[Aa];omega,λj u x h1 h2=>?_⟩ Sn (λx=>by rw[qJ x];exact I.whole hT x) (by omega);rw[Ai,Ay]at h1;obtain⟨p,HL,rfl⟩:=h1;exact sL _ _ (gT j p x HL h2).2.2
end
end E6
namespace L2
open PySem PySem.Spec PyProof.Rows
section
variable{X:Cx}{σ:St}{H:Hp}{Q:VK}
def q05{k v:Expr}{pos:Pos}(hu:X.A.units+1 < cLine)(h:∀ d,H d=none->Ev X k σ (upd H d<|.dK []) λy H1=>Ev X v σ H1 λx H2=>∃ H3,bZ H2 d y x H3/\Q (.ref d) H3):Ev X (.Dict [some k] [v] pos) σ H Q:=by
 refine⟨λpins s I=>wpAny_Dict_any rfl rfl (by simp) (by show 1<=15;decide) ?_⟩;have I0:Inv X pins σ (upd H s.heap.objs.size<|.dK []) {s with heap:=s.heap.push {cls:= .type "dict",data:= .dict #[]}}:=I.laid (a:=s.heap.objs.size) (o:= .dK []) (t':=s.toks) (λ_ _ q=>Ag _ q) (An _)<|Ni s.heap I.big;show wpAny _ _ (evalPairs [(eval k X.env,do let x <- eval v X.env;standAt pos;pure x)]) _ _ _;unfold evalPairs;refine BJ<|aN ((h _ I.fresh).run pins _ I0) λkv s1 ⟨y,H1,I1,r1,h1⟩=>?_;refine BJ<|CJ<|BJ<|aN (h1.run pins s1 I1) λvv s2 ⟨x,H2,I2,r2,H3,dp,q⟩=>?_;refine BJ<|FW<|BK ?_;unfold evalPairs;refine BJ<|CJ<|BK<|BK ?_;unfold storeAll;rw[Gq];refine BJ<|BJ<|PD hu I2 dp r1 r2 λs' I'=>BK ?_;exact BK ⟨.ref _,H3,I',rfl,q⟩
end
open bF
section
variable{prog:Program}{w:World}{A:Around}{E:Ï}{s:Shared}{T:String}{r d:Addr}{n:Nat}{P:Nat->Value->Prop}{OK:Heap->Prop}
end
section
variable{X:Cx}
end
end L2
namespace L2
open PySem PySem.Spec PyProof.Rows
section
end
section
variable{X:Cx}
theorem Sq(z:Str):∀ zs:Ò,countIn (.str z) (zs.map PyData.str)=(zs.count z:Int)
 | []=>rfl
 | y :: r=>by
  rw[Bi,countIn,Sq z r,Da];simp only[same]
  rcases Bool.eq_false_or_eq_true (y == z)with hb | hb <;> simp only[hb,Bb,DN,CV] <;> push_cast <;> omega
def q8x(K:PySem.W.Frag):V->List V->Hp->VK->Prop:=λx vs H Q=>∃(l:Addr) (zs:Ò) (z:Str),x = .ref l/\vs=[.str z]/\aq K H l (zs.map V.str)/\Q (.int (zs.count z:Int)) H
def q2w:o9 X "list.count" (q8x X.K):=by
 intro pins s σ H x vs v us Q I rx rv h;obtain⟨l,zs,z,rfl,rfl,hH,q⟩:=h;cases rx;obtain⟨u,rfl,ru⟩:=rv.one;obtain⟨tk,rfl⟩:=ru;obtain⟨its,r,pl,hz⟩:=I.list hH;refine count_list_strs pl.isList (D8 r) ?_;rw[Sq];exact⟨.int (zs.count z:Int),H,I.tok _,⟨_,rfl⟩,q⟩
end
section
variable{X:Cx}{σ:St}{H:Hp}{D:Ends}{body:Ö}
end
end L2
namespace Nt
open PySem L2
theorem Ss(x:Str):∀{sd:Ò},b9 sd->∃ gX,b9 gX/\∀ y,y∈gX↔y=x\/y∈sd
 | [],_=>⟨[x],Fy _ _,λy=>by simp⟩
 | a :: r,h=>by
  have h':=Cs.mp h
  by_cases q:x.cps.toList < a.cps.toList
  ·refine⟨x :: a :: r,Cs.mpr ⟨λy hy=>?_,h⟩,λy=>by simp⟩
   rcases Aj.mp hy with e | e
   ·rw[e];exact q
   ·exact Gj q<|h'.1 y e
  ·rcases Gn.mp (List.not_lt.mp q)with q2 | q2
   ·obtain⟨gX,s1,s2⟩:=Ss x h'.2;refine⟨a :: gX,Cs.mpr ⟨λy hy=>?_,s1⟩,λy=>?_⟩
    ·rcases (s2 y).mp hy with e | e
     ·rw[e];exact q2
     ·exact h'.1 y e
    ·rw[Aj,s2,Aj]
     constructor
     ·rintro (e | e | e)
      ·exact .inr<|.inl e
      ·exact .inl e
      ·exact .inr<|.inr e
     ·rintro (e | e | e)
      ·exact .inr<|.inl e
      ·exact .inl e
      ·exact .inr<|.inr e
   ·refine⟨a :: r,h,λy=>?_⟩;have:a=x:=bF.fw q2;subst this;simp
theorem Sv:∀ L:Ò,∃ sd,b9 sd/\∀ y,y∈sd↔y∈L
 | []=>⟨[],List.Pairwise.nil,λ_=>Iff.rfl⟩
 | x :: L=>by
  obtain⟨sd,h1,h2⟩:=Sv L;obtain⟨gX,h3,h4⟩:=Ss x h1;exact⟨gX,h3,λy=>by rw[h4,h2,Aj]⟩
theorem wg(z:Str):∀ L:Ò,decide (L.count z % 2=1)=ao (L.map λy=>decide (z=y))
 | []=>rfl
 | y :: L=>by
  show _=(decide (z=y) ^^ ao (L.map λy=>decide (z=y)));rw[<- wg z L,Da]
  by_cases h:z=y
  ·subst h;rw[BW rfl,MF,BP rfl,Bool.true_xor,<- decide_not];exact decide_eq_decide.mpr<|by omega
  ·rw[BR h,BL λq=>h (eq_of_beq q).symm,Fj];rfl
theorem wj{α β:Type}(f:α->β->Bool)(M:List β):∀ L:List α,ao (L.map λa=>ao<|M.map λb=>f a b)=ao (M.map λb=>ao<|L.map λa=>f a b)
 | []=>(iN M).symm
 | a :: L=>by
  show(ao (M.map λb=>f a b) ^^ ao (L.map λa=>ao<|M.map λb=>f a b))=ao (M.map λb=>f a b ^^ ao (L.map λa=>f a b));rw[wj f M L,ic (λb=>f a b) λb=>ao<|L.map λa=>f a b]
def map_range{α β:Type}(l:List α)(f:α->β)(g:Nat->β)(h:∀ k x,l[k]?=some x->g k=f x):l.map f=(List.range l.length).map g:=by
 apply Ds;intro k;rw[Ai,Ai]
 by_cases hk:k < l.length
 ·rw[Ab hk,Ed hk];exact BZ some (h k _<|Ab hk).symm
 ·rw[Bf (by omega),Bf<|by simp;omega];rfl
def k9f{α:Type}(l:List α)(f g:α->Bool)(h:∀ k,k < l.length->∃ x y,l[k]?=some x/\l[(k+1) % l.length]?=some y/\g x=f y):ao (l.map g)=ao (l.map f):=by
 let F:Nat->Bool:=λk=>match l[k]? with | some x=>f x | none=>false
 have hf:l.map f=(List.range l.length).map F:=map_range l f F λk x hk=>by show(match l[k]? with | some x=>f x | none=>false)=_;rw[hk]
 have hg:l.map g=(List.range l.length).map λk=>F ((k+1) % l.length):=map_range l g _ λk x hk=>by
  obtain⟨x',y,h1,h2,h3⟩:=h k (Ac.mp hk).1;rw[hk]at h1;cases h1;show(match l[(k+1) % l.length]? with | some x=>f x | none=>false)=_;rw[h2];exact h3.symm
 rw[hf,hg,G']
theorem Jo(F:Nat->Bool):∀ m,(∀ i,i < m->F (2 * i+1)=F (2 * i))->ao ((List.range<|2 * m).map F)=false
 | 0,_=>rfl
 | m+1,h=>by
  rw[show 2 * (m+1)=2 * m+1+1 by omega,Do,Do,Ak,Ak,mP,mP,Jo F m λi hi=>h i<|by omega];show((false ^^ (F (2 * m) ^^ false)) ^^ (F (2 * m+1) ^^ false))=false;rw[h m<|by omega];cases F (2 * m) <;> rfl
def Sw{n:Net}(T:aw n){e:End}(h:e∈ends n):step n (other n<|go (-1) n e)=other n e:=by
 have h1:=gD (c:=-1) T h;obtain⟨z,hz⟩:=af.mp h1;show left n (other n<|other n<|go (-1) n e)=_;rw[(dU T hz).2.1,P6 h1];show dW 1 n (dW (-1) n<|other n e)=_;have:=p9 (c:=-1)<|db T h;rw[Int.neg_neg]at this;exact this
def cz(n:Net)(w:List End)(z:Str):Bool:=decide ((w.map<|aF n).count z % 2=1)
def k9g{n:Net}(T:aw n){w:List End}(W:kd n w):eG n (cz n w):=λr=>by
 have e1:(row n r).map (cz n w)=(row n r).map λz=>ao (w.map λe=>decide (z=aF n e)):=Ao λz _=>by
  unfold cz;rw[wg,Cd];rfl
 rw[e1,wj λz e=>decide (z=aF n e)];have e2:(w.map λe=>ao<|(row n r).map λz=>decide (z=aF n e))=w.map λe=>(decide (r=e.1) ^^ decide (r=(other n e).1)):=Ao λe he=>by
  obtain⟨z,hz⟩:=af.mp<|W.ends e he;rw[fD hz];exact Qz T hz r
 rw[e2,ic (λe=>decide (r=e.1)) λe=>decide (r=(other n e).1)];rw[k9f w (λe=>decide (r=e.1)) (λe=>decide (r=(other n e).1)) λk hk=>by
  obtain⟨c,h1,h2⟩:=W.at' k hk;exact⟨c,_,h1,h2,rfl⟩]
 cases ao (w.map λe=>decide (r=e.1)) <;> rfl
def k8q{n:Net}(T:aw n){w:List End}(W:kd n w){t:Str->Bool}{χ:End->Bool}(h:aZ n t χ):ao (w.map λe=>t<|aF n e)=false:=by
 have e1:(w.map λe=>t<|aF n e)=w.map λe=>(χ e ^^ χ (other n e)):=Ao λe he=>by
  obtain⟨z,hz⟩:=af.mp<|W.ends e he;rw[fD hz];exact h.de e z hz
 rw[e1,ic χ λe=>χ<|other n e];obtain⟨m,hm⟩:∃ m,w.length=2 * m:=⟨w.length / 2,by have:=W.even;omega⟩;have a1:ao (w.map χ)=false:=by
  let F:Nat->Bool:=λk=>match w[k]? with | some x=>χ x | none=>false
  rw[map_range w χ F λk x hk=>by show(match w[k]? with | some x=>χ x | none=>false)=_;rw[hk],hm];refine Jo F m λi hi=>?_;obtain⟨c,h1,h2⟩:=W.at' (2 * i) (by omega);rw[Cc (by omega),show(1:Int) - 2 * (((2 * i:Nat):Int) % 2)=1 by omega]at h2;show(match w[2 * i+1]? with | some x=>χ x | none=>false)=(match w[2 * i]? with | some x=>χ x | none=>false);rw[h1,h2];have hc:=W.ends c<|Au h1;show χ (go 1 n c)=χ c;rw[<- P7 T hc];exact h.go c hc
 have a2:ao (w.map λe=>χ<|other n e)=false:=by
  let F:Nat->Bool:=λk=>match w[k]? with | some x=>χ (other n x) | none=>false
  rw[map_range w (λe=>χ<|other n e) F λk x hk=>by show(match w[k]? with | some x=>χ (other n x) | none=>false)=_;rw[hk],<- G' F,hm];refine Jo (λp=>F<|(p+1) % (2 * m)) m λi hi=>?_;obtain⟨c,h1,h2⟩:=W.at' (2 * i+1) (by omega);rw[hm,show(1:Int) - 2 * (((2 * i+1:Nat):Int) % 2)=-1 by omega]at h2;show(match w[(2 * i+1+1) % (2 * m)]? with | some x=>χ (other n x) | none=>false)=(match w[(2 * i+1) % (2 * m)]? with | some x=>χ (other n x) | none=>false);rw[h2,Cc (show 2 * i+1 < 2 * m by omega),h1];have hc:=W.ends c<|Au h1;show χ (other n<|go (-1) n c)=χ (other n c);rw[<- Sw T hc];exact(h.go _<|db T<|gD T hc).symm
 rw[a1,a2];rfl
def bf(zs:Ò)(t s:Str->Bool):Bool:=ao<|zs.map λz=>t z && s z
def Jp(zs:Ò)(t u s:Str->Bool):bf zs (λz=>t z ^^ u z) s=(bf zs t s ^^ bf zs u s):=by
 unfold bf;rw[<- ic (λz=>t z && s z) λz=>u z && s z]
 congr 1
 refine Ao λz _=>?_;show((t z ^^ u z) && s z)=_;cases t z <;> cases u z <;> cases s z <;> rfl
theorem zE{s:Str->Bool}{y:Str}:∀{zs:Ò},zs.Nodup->y∈zs->bf zs (λz=>decide (z=y)) s=s y
 | z :: zs,hn,hy=>by
  have hn:=Bc.mp hn;show((decide (z=y) && s z) ^^ bf zs (λz=>decide (z=y)) s)=s y
  by_cases h:z=y
  ·subst h;have:bf zs (λx=>decide (x=z)) s=false:=by
    unfold bf;have e:(zs.map λx=>decide (x=z) && s x)=zs.map λ_=>false:=Ao λx hx=>by
     have ne:¬ x=z:=λq=>hn.1<|q ▸ hx;rw[BR ne];rfl
    rw[e,iN]
   rw[this,BW rfl];cases s z <;> rfl
  ·rw[BR h,zE hn.2<|(Aj.mp hy).resolve_left<|CG h];cases s y <;> rfl
theorem Jq{n:Net}{zs:Ò}(hz:zs.Nodup){t:Str->Bool}:∀{L:Ò},(∀ y∈L,y∈zs)->bf zs t (λz=>decide (L.count z % 2=1))=ao (L.map t)
 | L,hL=>by
  unfold bf;have e:(zs.map λz=>t z && decide (L.count z % 2=1))=zs.map λz=>ao (L.map λy=>t z && decide (z=y)):=Ao λz _=>by
   rw[wg];cases t z
   ·show false=ao (L.map λ_=>false);rw[iN]
   ·rfl
  rw[e,wj λz y=>t z && decide (z=y)]
  congr 1
  refine Ao λy hy=>?_;have:=zE (s:=t) hz<|hL y hy;rw[<- this];unfold bf
  congr 1
  refine Ao λz _=>?_;rw[Fs]
theorem Sx{n:Net}(T:aw n)(hN:(n.map (·.1)).Nodup){ss zs:Ò}(hz:zs.Nodup)(hm:∀ z,z∈zs↔z∈ag n){x:Str}{b:Bool}(h:Way (df n ss) (bN n) x b) :
  ∃ t:Str->Bool,(∀ r,r < n.length->ao ((row n r).map t)=(decide (aH n r=bN n) ^^ decide (aH n r=x)))/\bf zs t (λz=>decide (z∈ss))=b:=by
 have add:∀{x y:Str} {o b:Bool},(∃ e z,aI n e=some z/\((x=aH n e.1/\y=aH n (other n e).1)\/(y=aH n e.1/\x=aH n (other n e).1))/\o=decide (z∈ss))->(∃ t:Str->Bool,(∀ r,r < n.length->ao ((row n r).map t)=(decide (aH n r=bN n) ^^ decide (aH n r=x)))/\bf zs t (λz=>decide (z∈ss))=b) ->
   ∃ t:Str->Bool,(∀ r,r < n.length->ao ((row n r).map t)=(decide (aH n r=bN n) ^^ decide (aH n r=y)))/\bf zs t (λz=>decide (z∈ss))=(b != o):=by
  rintro x y o b ⟨e,z,g5,FR,rfl⟩ ⟨t,h1,h2⟩;refine⟨λu=>t u ^^ decide (u=z),λr hr=>?_,?_⟩
  ·rw[ic t λu=>decide (u=z),h1 r hr,Qz T g5 r];have e1:∀ i,i < n.length->decide (r=i)=decide (aH n r=aH n i):=λi hi=>decide_eq_decide.mpr ⟨λq=>by rw[q],λq=>sK hN hr hi q⟩;rw[e1 _<|cQ g5,e1 _<|qe T g5]
   rcases FR with ⟨a1,a2⟩ | ⟨a1,a2⟩
   ·rw[<- a1,<- a2];cases decide (aH n r=bN n) <;> cases decide (aH n r=x) <;> cases decide (aH n r=y) <;> rfl
   ·rw[<- a1,<- a2];cases decide (aH n r=bN n) <;> cases decide (aH n r=x) <;> cases decide (aH n r=y) <;> rfl
  ·rw[Jp,h2,zE hz<|(hm z).mpr<|eU g5]
 have lk:∀{x y:Str} {o:Bool},(x,y,o)∈df n ss->∃ e z,aI n e=some z/\((x=aH n e.1/\y=aH n (other n e).1))/\o=decide (z∈ss):=λ{x y o} hm=>by
  obtain⟨e,z,h1,h2⟩:=(sJ (n:=n) (ss:=ss)).Qn _ hm;exact⟨e,z,h1,⟨BZ (·.1) h2,BZ (·.2.1) h2⟩,BZ (·.2.2) h2⟩
 induction h with
 | here=>exact⟨λ_=>false,λr _=>by rw[iN];cases decide (aH n r=bN n) <;> rfl,by unfold bf;exact iN zs⟩
 | there _ ht ih=>
  obtain⟨e,z,h1,h2,h3⟩:=lk ht;exact add ⟨e,z,h1,.inl h2,h3⟩ ih
 | back _ ht ih=>
  obtain⟨e,z,h1,h2,h3⟩:=lk ht;exact add ⟨e,z,h1,.inr ⟨h2.1,h2.2⟩,h3⟩ ih
def k20{n:Net}(T:aw n)(hg:dA n)(hN:(n.map (·.1)).Nodup)(h0:0 < n.length){ss zs:Ò}(hz:zs.Nodup)(hm:∀ z,z∈zs↔z∈ag n)(hs:∀ z∈ss,z∈ag n)(Jr:∀ t,eG n t->bf zs t (λz=>decide (z∈ss))=false):∃ sd,bB n ss sd:=by
 classical
 have uniq:∀{x b c},Way (df n ss) (bN n) x b->Way (df n ss) (bN n) x c->b=c:=λ{x b c} h1 h2=>by
  obtain⟨t,t1,t2⟩:=Sx T hN hz hm h1;obtain⟨u,u1,u2⟩:=Sx T hN hz hm h2;have:=Jr (λz=>t z ^^ u z) λr=>by
   by_cases hr:r < n.length
   ·rw[ic t u,t1 r hr,u1 r hr];cases decide (aH n r=bN n) <;> cases decide (aH n r=x) <;> rfl
   ·have:row n r=[]:=by
     unfold row;rw[Bf<|by omega];rfl
    rw[this];rfl
  rw[Jp,t2,u2]at this;cases b <;> cases c <;> first | rfl | cases this
 have next:∀{e:End} {z:Str} {b:Bool},aI n e=some z->Way (df n ss) (bN n) (aH n e.1) b->Way (df n ss) (bN n) (aH n (other n e).1) (b != decide (z∈ss)):=λ{e z b} he h=>by
  rcases (sJ (n:=n) (ss:=ss)).to e z he with t | t
  ·exact .there h t
  ·exact .back h t
 have all:∀ r,r < n.length->∃ b,Way (df n ss) (bN n) (aH n r) b:=λr hr=>by
  have:=hg (λx=>∃ b,Way (df n ss) (bN n) x b) ⟨n[0],Bu h0,false,by rw[<- jf h0];exact .here⟩ (λr hr s i8 t tr ts ⟨b,hb⟩=>?_) n[r]<|Bu hr
  ·rw[<- jf hr]at this;exact this
  ·obtain⟨i,hi,rfl⟩:=Cy.mp hr;obtain⟨j,hj,rfl⟩:=Cy.mp i8;obtain⟨p,hp⟩:=Br tr;obtain⟨q,hq⟩:=Br ts;have h1:aI n (i,p)=some t:=by show(row n i)[p]?=_;rw[iJ hi];exact hp
   have h2:aI n (j,q)=some t:=by show(row n j)[q]?=_;rw[iJ hj];exact hq
   rcases (li T h1).mp h2 with e | e
   ·have:j=i:=BZ (·.1) e;subst this;exact⟨b,hb⟩
   ·rw[<- jf hi]at hb;have:=next h1 hb;rw[<- e]at this;exact⟨_,by rw[<- jf hj];exact this⟩
 obtain⟨sd,h1,h2⟩:=Sv<|((List.range n.length).filter λ(r:Nat)=>decide (Way (df n ss) (bN n) (aH n r) true)).map<|aH n;have mem:∀ r,r < n.length->∀ b,Way (df n ss) (bN n) (aH n r) b->decide (aH n r∈sd)=b:=λr hr b hb=>by
  have:aH n r∈sd↔b=true:=by
   rw[h2,Al]
   constructor
   ·rintro ⟨i,hi,e⟩;rw[Bh,Bt]at hi;have:=sK hN hi.1 hr e;subst this;exact uniq hb<|BX hi.2
   ·intro e;subst e;exact⟨r,Bh.mpr ⟨Bt.mpr hr,BW hb⟩,rfl⟩
  by_cases q:b=true
  ·rw[q];exact BW<|this.mpr q
  ·rw[Bool.not_eq_true]at q;rw[q];exact BR λk=>by rw[this.mp k]at q;cases q
 refine⟨sd,h1,λx hx=>?_,λhx=>?_,λz=>?_⟩
 ·obtain⟨i,hi,rfl⟩:=Al.mp<|(h2 x).mp hx;exact jB<|Bt.mp (Bh.mp hi).1
 ·have:=mem 0 h0 false .here;exact absurd hx<|HS this
 ·by_cases g5:z∈ag n
  ·obtain⟨p,hp⟩:∃ p,p∈pos n z:=by
    have:pos n z≠[]:=λq=>by have:=pI n z;rw[q,T z g5]at this;cases this
    exact Fo _ this
   have he:=aK.mp hp;obtain⟨b,hb⟩:=all p.1<|cQ he;have hc:=next he hb;rw[mS T he,mem _ (cQ he) b hb,mem _ (qe T he) _ hc]
   constructor
   ·intro h;rw[BW h];cases b <;> rfl
   ·intro h;refine DK λk=>?_;rw[BR k]at h;cases b <;> cases h
  ·exact⟨λh=>absurd (hs z h) g5,λh=>absurd (uV h) g5⟩
def Js{n:Net}(T:aw n){e:End}(h:e∈ends n):two n (other n<|two n e)=other n e:=by
 have g1:=gD (c:=1) T h;have h2:=mK T h;obtain⟨z,hz⟩:=af.mp h2;obtain⟨y,hy⟩:=af.mp g1;have e1:go 1 n (other n<|two n e)=other n (go 1 n e):=by
  show dW 1 n (other n<|other n<|two n e)=_;rw[(dU T hz).2.1];show dW 1 n (dW (-1) n<|other n<|go 1 n e)=_;have:=p9 (c:=-1)<|db T g1;rw[Int.neg_neg]at this;exact this
 show go (-1) n (go 1 n<|other n<|two n e)=_;rw[e1];show dW (-1) n (other n<|other n<|go 1 n e)=_;rw[(dU T hy).2.1];exact p9<|db T h
def jF{n:Net}(T:aw n){e:End}(h:e∈ends n)(k:Nat):it (two n) k e∈ends n:=j6 (λa ha=>mK T ha) h k
theorem Sy{α:Type}(f:α->α)(a:α):∀ k,it f k (f a)=it f (k+1) a
 | 0=>rfl
 | k+1=>by show f (it f k<|f a)=f (it f (k+1) a);rw[Sy f a k]
theorem sZ{α:Type}(f:α->α)(a:α)(i:Nat):∀ j,it f (i+j) a=it f j (it f i a)
 | 0=>rfl
 | j+1=>by show f (it f (i+j) a)=f (it f j<|it f i a);rw[sZ f a i j]
def q86{n:Net}(T:aw n){e:End}(h:e∈ends n):two n e≠other n e:=λq=>by
 have g1:=gD (c:=1) T h;obtain⟨y,hy⟩:=af.mp g1;have h1:dW (-1) n (go 1 n e)=other n e:=p9<|db T h;have h2:dW (-1) n (other n<|go 1 n e)=other n e:=q;exact(dU T hy).2.2<|P5 (c:=-1) (db T g1) g1<|h2.trans h1.symm
theorem Sz{n:Net}(T:aw n):∀(k:Nat) {e:End},e∈ends n->it (two n) k e≠other n e
 | 0,e,h=>λq=>by
  obtain⟨z,hz⟩:=af.mp h;exact(dU T hz).2.2 q.symm
 | 1,e,h=>q86 T h
 | k+2,e,h=>λq=>by
  have e1:two n (it (two n) (k+1) e)=two n (other n<|two n e):=by rw[Js T h];exact q
  have e2:=uO T (jF T h<|k+1) (db T<|mK T h) e1;rw[<- Sy]at e2;exact Sz T k (mK T h) e2
def zF{n:Net}(T:aw n){a b:End}(ha:a∈ends n)(hb:b∈ends n)(h:aF n a=aF n b):b=a\/b=other n a:=by
 obtain⟨z,hz⟩:=af.mp ha;obtain⟨y,hy⟩:=af.mp hb;rw[fD hz,fD hy]at h;subst h;exact(li T hz).mp hy
def x0e{n:Net}(T:aw n){e:End}(h:e∈ends n){k:Nat}(p:je n e k){i j:Nat}(eV:i < j)(hj:j < k):it (two n) i e≠it (two n) j e:=λq=>by
 have inj:∀(m:Nat) {a b:End},a∈ends n->b∈ends n->it (two n) m a=it (two n) m b->a=b:=λm=>by
  induction m with
  | zero=>intro a b _ _ q;exact q
  | succ m ih=>intro a b ha hb q;exact ih ha hb<|uO T (jF T ha m) (jF T hb m) q
 have e1:it (two n) j e=it (two n) i (it (two n) (j - i) e):=by rw[<- sZ,show j - i+i=j by omega]
 rw[e1]at q;have:=inj i h (jF T h _) q;exact p.first (j - i) (by omega) (by omega) this.symm
def k8f{n:Net}(T:aw n){e:End}(h:e∈ends n){k:Nat}(p:je n e k){i j:Nat}(eV:i < j)(hj:j < k):aF n (it (two n) i e)≠aF n (it (two n) j e):=λq=>by
 rcases zF T (jF T h i) (jF T h j) q with c | c
 ·exact x0e T h p eV hj c.symm
 ·rw[show j=i+(j - i) by omega,sZ]at c;exact Sz T (j - i) (jF T h i) c
def q4g{n:Net}(T:aw n){x y:End}(hx:x∈ends n)(hy:y∈ends n)(q:aF n (go 1 n x)=aF n (go 1 n y)):x=y\/two n y=other n x:=by
 have g1:=gD (c:=1) T hx
 rcases zF T g1 (gD (c:=1) T hy) q with c | c
 ·exact .inl (go_inj T hy hx c).symm
 ·refine .inr ?_;obtain⟨z,hz⟩:=af.mp g1;show go (-1) n (go 1 n y)=_;rw[c];show dW (-1) n (other n<|other n<|go 1 n x)=_;rw[(dU T hz).2.1];exact p9<|db T hx
theorem SA(n:Net)(e:End):∀ k,((wk n e k).map<|aF n).Perm<|((List.range k).map λi=>aF n<|it (two n) i e)++(List.range k).map λi=>aF n<|go 1 n<|it (two n) i e
 | 0=>List.Perm.refl _
 | k+1=>by
  rw[Do,Ak,Ak];show((wk n e k++[it (two n) k e,go 1 n<|it (two n) k e]).map<|aF n).Perm _;rw[Ak];refine((SA n e k).append_right _).trans ?_;generalize ((List.range k).map λi=>aF n<|it (two n) i e)=A;generalize ((List.range k).map λi=>aF n<|go 1 n<|it (two n) i e)=B;show(A++B++[aF n<|it (two n) k e,aF n<|go 1 n<|it (two n) k e]).Perm ((A++[aF n<|it (two n) k e])++(B++[aF n<|go 1 n<|it (two n) k e]));rw[Ar,Ar];refine MJ A ?_;show(B++([aF n<|it (two n) k e]++[aF n<|go 1 n<|it (two n) k e])).Perm ([aF n<|it (two n) k e]++(B++[aF n<|go 1 n<|it (two n) k e]));rw[<- Ar,<- Ar];exact TF _ Ci
noncomputable def dv(n:Net)(e:End):List End:=au<|walker n e
def Jt{n:Net}{e:End}{k:Nat}(p:je n e k):dv n e=(List.range k).map λi=>it (two n) i e:=by
 unfold dv walker;rw[uQ p,q2i]
theorem SD{n:Net}{e:End}{k:Nat}(h:it (two n) k e=e):∀ m,it (two n) (k * m) e=e
 | 0=>rfl
 | m+1=>by rw[Nat.mul_succ,Nat.add_comm,sZ,h,SD h m]
def lz{n:Net}(T:aw n){e:End}(h:e∈ends n){x:End}:x∈dv n e↔∃ i,it (two n) i e=x:=by
 obtain⟨k,p,_⟩:=sw T h;rw[Jt p,Al]
 constructor
 ·rintro ⟨i,_,q⟩;exact⟨i,q⟩
 ·rintro ⟨i,q⟩;have p0:=p.pos;refine⟨i % k,Bt.mpr<|Gw _ p0,?_⟩;rw[<- q];have:=Nat.div_add_mod i k
  conv=>rhs;rw[<- this]
  rw[sZ,SD p.back]
def zG{n:Net}(T:aw n){e:End}(h:e∈ends n):∀ x∈dv n e,x∈ends n:=λx hx=>by
 obtain⟨i,q⟩:=(lz T h).mp hx;rw[<- q];exact jF T h i
def SE{n:Net}(T:aw n){e:End}(h:e∈ends n){x:End}(hx:x∈dv n e):∃ y∈dv n e,two n y=x:=by
 obtain⟨i,q⟩:=(lz T h).mp hx;obtain⟨k,p,_⟩:=sw T h;have p0:=p.pos;refine⟨it (two n) (i+k - 1) e,(lz T h).mpr ⟨_,rfl⟩,?_⟩;show it (two n) (i+k - 1+1) e=x;rw[show i+k - 1+1=k+i by omega,sZ,p.back,q]
def Ju{n:Net}(T:aw n){e:End}(h:e∈ends n){x:End}(hx:x∈dv n e):two n x∈dv n e:=by
 obtain⟨i,q⟩:=(lz T h).mp hx;exact(lz T h).mpr ⟨i+1,by rw[<- q];rfl⟩
def SF{n:Net}(T:aw n){e:End}(h:e∈ends n){x:End}(hx:x∈ends n):aF n x∈(dv n e).map (aF n)↔x∈dv n e\/other n x∈dv n e:=by
 rw[Al]
 constructor
 ·rintro ⟨y,hy,q⟩
  rcases zF T hx (zG T h y hy) q.symm with c | c
  ·exact .inl<|c ▸ hy
  ·exact .inr<|c ▸ hy
 ·rintro (c | c)
  ·exact⟨x,c,rfl⟩
  ·refine⟨_,c,?_⟩;obtain⟨z,hz⟩:=af.mp hx;rw[fD hz,fD (dU T hz).1]
def SG{n:Net}(T:aw n){e:End}(h:e∈ends n):other n (other n e)=e:=by
 obtain⟨z,hz⟩:=af.mp h;exact(dU T hz).2.1
def wm(n:Net)(told:Ò):Prop:=∀ x∈ends n,(aF n (two n x)∈told↔aF n x∈told)
theorem SH{n:Net}(T:aw n){told:Ò}(C:wm n told){e:End}(h:e∈ends n):∀ i,aF n (it (two n) i e)∈told↔aF n e∈told
 | 0=>Iff.rfl
 | i+1=>(C _<|jF T h i).trans<|SH T C h i
def q9y{n:Net}(T:aw n){e:End}(h:e∈ends n):wm n ((dv n e).map<|aF n):=λx hx=>by
 rw[SF T h<|mK T hx,SF T h hx]
 constructor
 ·rintro (c | c)
  ·obtain⟨y,hy,q⟩:=SE T h c;exact .inl<|uO T (zG T h y hy) hx q ▸ hy
  ·have:=Ju T h c;rw[Js T hx]at this;exact .inr this
 ·rintro (c | c)
  ·exact .inl<|Ju T h c
  ·obtain⟨y,hy,q⟩:=SE T h c;have zH:=zG T h y hy;have e1:two n x=other n y:=by
    rw[<- SG T hx,<- q,Js T zH]
   exact .inr<|by rw[e1,SG T zH];exact hy
structure oF(n:Net)(es:List End)(told:Ò)(ws:List<|List End):Prop where
 nd:((ws.flatMap au).map<|aF n).Nodup
 new:∀ x∈ws.flatMap au,x∈ends n/\aF n x∉told
 cov:∀ e∈es,aF n e∈told\/aF n e∈(ws.flatMap au).map (aF n)
 wk:∀ w∈ws,∃ e,e∈ends n/\w=walker n e
theorem Jv{n:Net}(T:aw n):∀(es:List End) (told:Ò),(∀ e∈es,e∈ends n)->wm n told->oF n es told (dX n es told)
 | [],told,_,_=>by
  unfold dX;exact⟨Ch,λx hx=>(nomatch hx),λe he=>(nomatch he),λw hw=>(nomatch hw)⟩
 | e :: r,told,he,C=>by
  have h:=he e<|Ae ..;unfold dX
  by_cases q:aF n e∈told
  ·rw[BP q];have I:=Jv T r told (λa ha=>he a<|Ah _ ha) C;refine⟨I.nd,I.new,λa ha=>?_,I.wk⟩
   rcases Aj.mp ha with rfl | ha
   ·exact .inl q
   ·exact I.cov a ha
  ·rw[BL q];have C':wm n (told++(au<|walker n e).map (aF n)):=λx hx=>by
    rw[Am,Am];exact or_congr (C x hx)<|q9y T h x hx
   have I:=Jv T r _ (λa ha=>he a<|Ah _ ha) C';have fresh:∀ x∈dv n e,x∈ends n/\aF n x∉told:=λx hx=>by
    obtain⟨i,k⟩:=(lz T h).mp hx;refine⟨zG T h x hx,λz=>q ?_⟩;rw[<- k]at z;exact(SH T C h i).mp z
   refine⟨?_,λx hx=>?_,λa ha=>?_,λw hw=>?_⟩
   ·rw[Cf,Ak,Cj];refine⟨?_,I.nd,λa ha b hb k=>?_⟩
    ·obtain⟨k,p,_⟩:=sw T h;show((dv n e).map<|aF n).Nodup;rw[Jt p,Cd,Cg,Dz,Bo];intro i j hi hj eV;rw[Ez,Ez];rw[Em]at hj;exact k8f T h p eV hj
    ·subst k;obtain⟨x,hx,rfl⟩:=Al.mp hb;exact(I.new x hx).2<|Ax _ ha
   ·rw[Cf]at hx
    rcases Am.mp hx with k | k
    ·exact fresh x k
    ·exact⟨(I.new x k).1,λz=>(I.new x k).2<|Ba _ z⟩
   ·rw[Cf,Ak]
    rcases Aj.mp ha with rfl | ha
    ·exact .inr<|Ba _<|Al.mpr ⟨a,(lz T h).mpr ⟨0,rfl⟩,rfl⟩
    ·rcases I.cov a ha with k | k
     ·rcases Am.mp k with k | k
      ·exact .inl k
      ·exact .inr<|Ba _ k
     ·exact .inr<|Ax _ k
   ·rcases Aj.mp hw with rfl | hw
    ·exact⟨e,h,rfl⟩
    ·exact I.wk w hw
def SK{n:Net}(T:aw n){e:End}(h:e∈ends n):((walker n e).map<|aF n).Perm ((dv n e).map (aF n)++(dv n e).map λx=>aF n<|go 1 n x):=by
 obtain⟨k,p,_⟩:=sw T h;rw[Jt p,Cd,Cd];unfold walker;rw[uQ p];exact SA n e k
theorem SL{n:Net}(T:aw n):∀{ws:List (List End)},(∀ w∈ws,∃ e,e∈ends n/\w=walker n e)->(ws.flatMap λw=>w.map<|aF n).Perm ((ws.flatMap au).map (aF n)++(ws.flatMap au).map λx=>aF n<|go 1 n x)
 | [],_=>List.Perm.refl _
 | w :: ws,h=>by
  obtain⟨e,he,rfl⟩:=h w<|Ae ..;have I:=SL T (ws:=ws) λw hw=>h w<|Ah _ hw;rw[Cf,Cf,Ak,Ak];refine((SK T he).append I).trans ?_;show(((dv n e).map (aF n)++(dv n e).map λx=>aF n<|go 1 n x)++_).Perm (((dv n e).map (aF n)++_)++((dv n e).map (λx=>aF n<|go 1 n x)++_));generalize (dv n e).map (aF n)=A;generalize ((dv n e).map λx=>aF n<|go 1 n x)=B;generalize (ws.flatMap au).map (aF n)=D;generalize ((ws.flatMap au).map λx=>aF n<|go 1 n x)=F;rw[Ar,Ar];refine MJ A ?_;rw[<- Ar,<- Ar];exact TF _ Ci
noncomputable abbrev bd(n:Net):List (List End):=dX n (ends n) []
def q5v(n:Net):wm n []:=λx _=>by simp
def qK{n:Net}(T:aw n):oF n (ends n) [] (bd n):=Jv T (ends n) [] (λ_ h=>h)<|q5v n
def Jw{n:Net}(T:aw n){z:Str}(hz:z∈ag n):(((bd n).flatMap au).map<|aF n).count z=1:=by
 have I:=qK T;rw[List.Nodup.count I.nd,BP];have:pos n z≠[]:=λq=>by have:=pI n z;rw[q,T z hz]at this;cases this
 obtain⟨p,hp⟩:=Fo _ this;have hp:=aK.mp hp;have:=I.cov p<|af.mpr ⟨z,hp⟩;rw[fD hp]at this
 rcases this with k | k
 ·cases k
 ·exact k
def q5x{n:Net}(T:aw n){x:End}(hx:x∈(bd n).flatMap au):two n x∈(bd n).flatMap au:=by
 obtain⟨w,hw,hx⟩:=Gi.mp hx;obtain⟨e,he,rfl⟩:=(qK T).wk w hw;exact Gi.mpr ⟨_,hw,Ju T he hx⟩
theorem SR{α β:Type}{f:α->β}:∀{l:List α},l.Nodup->(∀ a∈l,∀ b∈l,f a=f b->a=b)->(l.map f).Nodup
 | [],_,_=>Ch
 | a :: l,h,inj=>by
  have h:=Bc.mp h;refine Bc.mpr ⟨λhm=>?_,SR h.2 λx hx y hy=>inj x (Ah _ hx) y<|Ah _ hy⟩;obtain⟨b,hb,q⟩:=Al.mp hm;have:=inj a (Ae ..) b (Ah _ hb) q.symm;exact h.1<|this ▸ hb
theorem Jx{α β:Type}{f:α->β}:∀{l:List α},(l.map f).Nodup->∀ a∈l,∀ b∈l,f a=f b->a=b
 | c :: l,h,a,ha,b,hb,q=>by
  rw[Bi,Bc]at h
  rcases Aj.mp ha with ea | yR
  ·rcases Aj.mp hb with eb | iK
   ·rw[ea,eb]
   ·exact absurd (Al.mpr ⟨b,iK,by rw[<- q,ea]⟩) h.1
  ·rcases Aj.mp hb with eb | iK
   ·exact absurd (Al.mpr ⟨a,yR,by rw[q,eb]⟩) h.1
   ·exact Jx h.2 a yR b iK q
theorem Jy{α β:Type}{f:α->β}:∀{l:List α},(l.map f).Nodup->l.Nodup
 | [],_=>Ch
 | a :: l,h=>by
  rw[Bi,Bc]at h;exact Bc.mpr ⟨λk=>h.1<|Al.mpr ⟨a,k,rfl⟩,Jy h.2⟩
def SU{n:Net}(T:aw n):(((bd n).flatMap au).map λx=>aF n<|go 1 n x).Perm (((bd n).flatMap au).map<|aF n):=by
 have I:=qK T;refine uS (SR (Jy I.nd) λx hx y hy q=>?_) (λz hz=>?_)<|by rw[Aa,Aa];exact An _
 ·have i5:=(I.new x hx).1;have zH:=(I.new y hy).1
  rcases q4g T i5 zH q with c | c
  ·exact c
  ·exfalso
   have t:aF n (two n y)=aF n x:=by
    obtain⟨z,hz⟩:=af.mp i5;rw[c,fD hz,fD (dU T hz).1]
   have:=Jx I.nd _ (q5x T hy) x hx t;obtain⟨z,hz⟩:=af.mp i5;exact(dU T hz).2.2<|c.symm.trans this
 ·obtain⟨x,hx,rfl⟩:=Al.mp hz;obtain⟨y,hy⟩:=af.mp<|gD (c:=1) T (I.new x hx).1;rw[fD hy];refine De.mp ?_;rw[Jw T<|eU hy];exact Fh
def k8p{n:Net}(T:aw n){z:Str}(hz:z∈ag n):((bd n).flatMap λw=>w.map<|aF n).count z=2:=by
 rw[(SL T (qK T).wk).count_eq,Ep,(SU T).count_eq,Jw T hz]
theorem SV(n:Net)(z:Str):∀ ws:List<|List End,(ws.flatMap λw=>w.map<|aF n).count z=(ws.map λw=>(w.map<|aF n).count z).sum
 | []=>rfl
 | w :: ws=>by rw[Cf,Ep,SV n z ws];rfl
theorem SW:∀(l:List Nat) (x:Nat),x∈l->x<=l.sum
 | y :: l,x,h=>by
  rw[Gk]
  rcases Aj.mp h with rfl | h
  ·omega
  ·have:=SW l x h;omega
def q0d{n:Net}(T:aw n){z:Str}(hz:z∈ag n){w:List End}(hw:w∈bd n):(w.map<|aF n).count z<=2:=by
 have h:=k8p T hz;rw[SV]at h;have:=SW ((bd n).map λw=>(w.map<|aF n).count z) _<|Al.mpr ⟨w,hw,rfl⟩;omega
def zI{n:Net}{w:List End}{ss:Ò}(hw:∀ c∈w,c∈ends n)(h:∀ z,z∈ss↔(w.map<|aF n).count z=1):∀ z∈ss,z∈ag n:=λz hz=>by
 have:=De.mp (by rw[(h z).mp hz];exact Fh);obtain⟨e,he,rfl⟩:=Al.mp this;obtain⟨y,hy⟩:=af.mp<|hw e he;rw[fD hy];exact eU hy
def Jz{n:Net}(T:aw n){w:List End}(hw:w∈bd n){ss:Ò}(h:∀ z,z∈ss↔(w.map<|aF n).count z=1){z:Str}(hz:z∈ag n):decide (z∈ss)=cz n w z:=by
 have:=q0d T hz hw;unfold cz;refine decide_eq_decide.mpr<|(h z).trans ?_;omega
def k66{n:Net}(T:aw n){w:List End}(hw:w∈bd n){ss:Ò}(h:∀ z,z∈ss↔(w.map<|aF n).count z=1):eI n ss=true:=by
 refine k6o (k9g T<|nX T (ends n) [] (λ_ h=>h) w hw) λz hz=>?_;rw[<- Jz T hw h hz]
 by_cases k:z∈ss
 ·rw[BW k];exact Ce.mpr k
 ·rw[BR k];exact Dy.mpr λq=>k<|Ce.mp q
def k6l{n:Net}(T:aw n)(hf:HF n)(hN:(n.map (·.1)).Nodup)(h0:0 < n.length){w:List End}(hw:w∈bd n){ss:Ò}(h:∀ z,z∈ss↔(w.map<|aF n).count z=1):∃ sd,bB n ss sd:=by
 have W:=nX T (ends n) [] (λ_ h=>h) w hw;have inT:=zI W.ends h;obtain⟨zs,sz,mz⟩:=qg<|ag n;refine k20 T hf.1 hN h0 (jA sz) mz inT λt ht=>?_;obtain⟨χ,hχ⟩:=hf.2.2 t ht;have:=k8q T W hχ;have e:bf zs t (λz=>decide (z∈ss))=bf zs t (λz=>decide ((w.map<|aF n).count z % 2=1)):=by
  unfold bf
  congr 1
  refine Ao λz hz=>?_;show(t z && decide (z∈ss))=(t z && decide ((w.map<|aF n).count z % 2=1));rw[Jz T hw h<|(mz z).mp hz];rfl
 rw[e,Jq (n:=n) (jA sz) λy hy=>?_]
 ·rw[Cd];exact this
 ·obtain⟨x,hx,rfl⟩:=Al.mp hy;obtain⟨y,hy⟩:=af.mp<|W.ends x hx;rw[fD hy];exact(mz y).mpr<|eU hy
end Nt
namespace L2
open PySem PySem.Spec PyProof.Rows
section
variable{X:Cx}{σ:St}{H:Hp}
end
structure Xo(h:Heap)(e T:Addr)(C fl:Value):Prop where
 ex:∃ oe vs,h.get? e=some oe/\oe.cls=C/\oe.dict=none/\oe.data = .fields vs/\vs[1]?=some (.ref T)/\vs[2]?=some .none
 ne:T≠e
 tr:∃ oT ts,h.get? T=some oT/\oT.data = .fields ts/\ts[3]?=some fl
structure Kp(fs bad:List Addr)(h h':Heap):Prop where
 keep:∀ b o,h.get? b=some o->b∉fs->b∉bad->h'.get? b=some o
 slot:∀ b o,h.get? b=some o->b∈fs->∃ sl,h'.get? b=some {o with slots:=sl}
def j7v(o:Obj)(f:Array Value->Array Value):(o.mapFields f).dict=o.dict:=by
 obtain⟨c,d,dt,sl⟩:=o;cases dt <;> rfl
section
variable{M:Model}{A:Around}{E:Ï}{s:Shared}
def SY{base:Heap}{env:Env}{outer:List Env}{L e:Addr}{oe:Obj}{vs:Array Value}{head:Value}{nx:Bool}{Q:Unit->Shared->Prop}(gO:A.frames=some (env :: outer))(hl:s.heap.FunFrames base<|env :: outer)(hf:env.frame=some L)
  (he:s.heap.get? e=some oe) (hd:oe.data = .fields vs) (ng:oe.dict=none) (h1:1 < vs.size) (h2:vs[2]?=some .none)
  (h:∀ h' T,s.heap.get? T=none->Xo h' e T oe.cls .none->Kp (cU<|env :: outer) [e] s.heap h'->Q () {s with heap:=h'}) :
  wpAny M A (do let a <- frameOf env;let pl <- entryPlaceOf L nx;let b <- EntryCells.newEntry head a .none (rawInt L) .none pl;setField (.ref e) 1 b) (λ_ s'=>wpAny M A (setFlight (.ref e) none) Q E s') E s:=by
 have SZ:e∉cU (env :: outer):=λhm=>by
  obtain⟨_,o,ho,hn⟩:=hl.mem hm;rw[he]at ho;cases ho;exact hn vs hd
 refine BJ<|wpAny_frameOf_fun gO hl hf λha sa=>?_;refine BJ<|wpAny_entryPlaceOf λpl ip=>?_;unfold EntryCells.newEntry newFields;refine BJ<|CZ ?_<|ip.sizeOk5 _ _ _ _ _;generalize hT:({cls:= .type "traceback",dict:=none,data:= .fields ([head,.ref L,.none,rawInt L,.none]++(if pl.isEmpty then List.replicate 6 Value.none else pl)).toArray}:Obj)=oT;have ea:ha.get? e=some oe:=(sa.2.1 e SZ).trans he;have eb:(ha.push oT).get? e=some oe:=Ag _ ea;have tb:(ha.push oT).get? ha.objs.size=some oT:=At ha (by rw[<- hT];rfl);have JA:ha.objs.size≠e:=Cp<|Aq ea;refine DP eb hd h1 ?_;have dc:=KN hd (·.setIfInBounds 1 (Value.ref ha.objs.size));have ec:=Cu (Obj.mapFields (·.setIfInBounds 1 (Value.ref ha.objs.size))) eb<|JN dc;have tc:((ha.push oT).update e (Obj.mapFields (·.setIfInBounds 1 (Value.ref ha.objs.size)))).get? ha.objs.size=some oT:=(Bw _ _<|CG JA).trans tb;unfold setFlight;refine BJ (IW ec dc (x:= .ref ha.objs.size) (by simp[h1]) ?_);rw[BP (show(Value.ref ha.objs.size != Value.none)=true from by simp)];have dT:oT.data = .fields ([head,.ref L,.none,rawInt L,.none]++(if pl.isEmpty then List.replicate 6 Value.none else pl)).toArray:=by rw[<- hT]
 have sz:3 < ([head,.ref L,.none,rawInt L,.none]++(if pl.isEmpty then List.replicate 6 Value.none else pl)).toArray.size:=by
  simp only[Aw,Af,Ap,Ej];omega
 refine DP tc dT sz<|h _ ha.objs.size (by
  cases hq:s.heap.get? ha.objs.size with
  | none=>rfl
  | some o=>
   obtain⟨sl,z⟩:=sa.2.2 _ o hq;exact absurd (Aq z)<|Cv _) ?_ ?_
 ·have dd:=KN dT (·.setIfInBounds 3 ((none:Option Addr).elim Value.none λf=>rawInt f));refine⟨⟨_,_,(Bw _ _ JA).trans ec,Obj.cls_mapFields _ _,by rw[j7v];exact ng,dc,by simp[h1],by rw[Array.getElem?_setIfInBounds_ne<|by decide];exact h2⟩,JA,⟨_,_,Cu _ tc<|JN dd,dd,?_⟩⟩;rw[Ff sz];rfl
 ·have kp:∀ b o,b≠e->ha.get? b=some o->(((ha.push oT).update e (Obj.mapFields (·.setIfInBounds 1 (Value.ref ha.objs.size)))).update ha.objs.size (Obj.mapFields (·.setIfInBounds 3 ((none:Option Addr).elim Value.none λf=>rawInt f)))).get? b=some o:=λb o hb q=>by
   rw[Bw _ _<|Cp<|Aq q,Bw _ _<|CG hb];exact Ag _ q
  refine⟨λb o q nf nb=>kp b o (λz=>nb<|by simp[z])<|(sa.2.1 b nf).trans q,λb o q hb=>?_⟩;obtain⟨sl,z⟩:=sa.2.2 b o q;exact⟨sl,kp b _ (λy=>SZ<|y ▸ hb) z⟩
def q0f{base:Heap}{env:Env}{outer:List Env}{L e:Addr}{oe:Obj}{vs:Array Value}{Q:Unit->Shared->Prop}(gO:A.frames=some (env :: outer))(hl:s.heap.FunFrames base<|env :: outer)(hf:env.frame=some L)
  (he:s.heap.get? e=some oe) (hd:oe.data = .fields vs) (ng:oe.dict=none) (h1:vs[1]?=some .none) (h2:vs[2]?=some .none)
  (h:∀ h' T,s.heap.get? T=none->Xo h' e T oe.cls .none->Kp (cU<|env :: outer) [e] s.heap h'->Q () {s with heap:=h'}) :
  wpAny M A (noteFrame (.ref e) env) (λ_ s'=>wpAny M A (setFlight (.ref e) none) Q E s') E s:=by
 unfold noteFrame;simp only[hf];refine BJ<|IW he hd h1 ?_;rw[BL<|by decide];exact SY gO hl hf he hd ng (Eh.mp h1).1 h2 h
def JE{base:Heap}{env:Env}{outer:List Env}{L e T:Addr}{C:Value}{Q:Unit->Shared->Prop}(gO:A.frames=some (env :: outer))(hl:s.heap.FunFrames base<|env :: outer)(hf:env.frame=some L)(x:Xo s.heap e T C .none)
  (h:∀ h' T',s.heap.get? T'=none->Xo h' e T' C .none->Kp (cU<|env :: outer) [e,T] s.heap h'->Q () {s with heap:=h'}) :
  wpAny M A (noteFrame (.ref e) env) (λ_ s'=>wpAny M A (setFlight (.ref e) none) Q E s') E s:=by
 obtain⟨⟨oe,vs,he,hc,ng,hd,h1,h2⟩,bn,⟨oT,ts,hT,dT,h3⟩⟩:=x;subst hc;unfold noteFrame;simp only[hf];refine BJ<|IW he hd h1 ?_;rw[BP (show(Value.ref T != Value.none)=true from by simp)];refine BJ<|IW hT dT h3 ?_;rw[BL (show ¬((Value.none == rawInt L)=true)from by simp[rawInt])];refine BJ<|DP hT dT (Eh.mp h3).1 ?_;have nT:∀ b,b≠T->(s.heap.update T (Obj.mapFields (·.setIfInBounds 3 Value.none))).get? b=s.heap.get? b:=λb hb=>Bw _ _<|CG hb;have S0:∀ b o,s.heap.get? b=some o->(∀ vs,o.data ≠ .fields vs)->b≠T:=λb o q hn z=>by
  rw[z,hT]at q;cases q;exact hn ts dT
 have nf:T∉cU (env :: outer):=λhm=>by
  obtain⟨_,o,ho,hn⟩:=hl.mem hm;exact S0 T o ho hn rfl
 refine SY gO (hl.of_keeps λb o q hn=>⟨o,(nT b<|S0 b o q hn).trans q,rfl⟩) hf ((nT e<|CG bn).trans he) hd ng (Eh.mp h1).1 h2 λh' T' z x k=>h h' T' ?_ x ⟨λb o q n1 n2=>?_,λb o q hb=>?_⟩
 ·cases hq:s.heap.get? T' with
  | none=>rfl
  | some o=>
   by_cases y:T'=T
   ·have:=Cu (Obj.mapFields (·.setIfInBounds 3 Value.none)) hT<|JN<|KN dT _;rw[y]at z;exact absurd (this.symm.trans z)<|by simp
   ·have:=(nT T' y).trans hq;exact absurd (this.symm.trans z)<|by simp
 ·have n3:b≠T:=λy=>n2 (by simp[y]);exact k.keep b o ((nT b n3).trans q) n1 λy=>n2<|by simp at y;simp[y]
 ·exact k.slot b o ((nT b λy=>nf<|y ▸ hb).trans q) hb
def S6{e T:Addr}{C:Value}{Q:Unit->Shared->Prop}(x:Xo s.heap e T C .none)(h:∀ h',Xo h' e T C .none->(∀ b o,b≠T->s.heap.get? b=some o->h'.get? b=some o)->Q () {s with heap:=h'}):wpAny M A (setFlight (.ref e) none) Q E s:=by
 obtain⟨⟨oe,vs,he,hc,ng,hd,h1,h2⟩,bn,⟨oT,ts,hT,dT,h3⟩⟩:=x;unfold setFlight;refine BJ<|IW he hd h1 ?_;rw[BP (show(Value.ref T != Value.none)=true from by simp)];have sz:=(Eh.mp h3).1;have dd:=KN dT (·.setIfInBounds 3 ((none:Option Addr).elim Value.none λf=>rawInt f));refine DP hT dT sz<|h _ ⟨⟨oe,vs,(Bw _ _ bn).trans he,hc,ng,hd,h1,h2⟩,bn,⟨_,_,Cu _ hT<|JN dd,dd,?_⟩⟩ λb o hb q=>(Bw _ _<|CG hb).trans q;rw[Ff sz];rfl
end
def zJ{fs f2 bad:List Addr}{H H':Hp}{h h1 h2:Heap}(u:Un fs [] H H' h h1)(k:Kp f2 bad h1 h2)(hf:∀ b o,h.get? b=some o->b∈f2->b∈fs)(hb:∀ b∈bad,h.get? b=none):Un fs [] H H' h h2:=by
 have nb:∀ b o,h.get? b=some o->b∉bad:=λb o q z=>by rw[hb b z]at q;cases q
 refine⟨λb o q n nf _=>k.keep b o (u.keep b o q n nf<|by simp) (λz=>nf<|hf b o q z)<|nb b o q,λb o q n hm _=>?_,u.free,λb o q _=>?_,u.dI,u.dw,u.dJ⟩
 ·obtain⟨sl,z⟩:=u.slot b o q n hm<|by simp
  by_cases y:b∈f2
  ·obtain⟨xv,z'⟩:=k.slot b _ z y;exact⟨xv,z'⟩
  ·exact⟨sl,k.keep b _ z y<|nb b o q⟩
 ·obtain⟨o',z⟩:=u.there b o q<|by simp
  by_cases y:b∈f2
  ·obtain⟨xv,z'⟩:=k.slot b _ z y;exact⟨_,z'⟩
  ·exact⟨o',k.keep b _ z y<|nb b o q⟩
def JI{P:Program}{w:World}{f2 bad:List Addr}{H:Hp}{h1 h2:Heap}(x:b7 P w H h1)(k:Kp f2 bad h1 h2)(hf:∀ b∈f2,H b=none)(hb:∀ b∈bad,H b=none):b7 P w H h2:=λa o e=>by
 refine(x a o e).fh (λb u hh q=>k.keep b u q (λz=>?_) λz=>?_) (λ_ q=>q) λ_ _ q=>q
 ·have:=hf b z
  rcases hh with y | y
  ·rw[y,e]at this;cases this
  ·rw[y]at this;cases this
 ·have:=hb b z
  rcases hh with y | y
  ·rw[y,e]at this;cases this
  ·rw[y]at this;cases this
theorem q9g{P:Program}{w:World}{H:Hp}{h:Heap}{a:Addr}{o:HO}(x:aB P w H h a o):∃ u,h.get? a=some u:=by
 cases o with
 | lst xs=>obtain⟨_,_,_,_,q⟩:=x;exact⟨_,q⟩
 | tup xs=>obtain⟨_,_,_,u,q,_⟩:=x;exact⟨_,q⟩
 | dK kvs=>obtain⟨_,_,_,_,u,_,_,q,_⟩:=x;exact⟨_,q⟩
 | dT kvs=>obtain⟨_,_,_,_,u,_,_,q,_⟩:=x;exact⟨_,q⟩
 | set S n=>obtain⟨u,_,_,_,q,_⟩:=x;exact⟨_,q⟩
 | ins C dx fs=>obtain⟨_,_,_,q,_⟩:=x;exact⟨_,q⟩
 | own y=>exact x
 | xd fs=>obtain⟨_,⟨_,_,_,q,_⟩,_⟩:=x;exact⟨_,q⟩
 | xr lo hi=>obtain⟨_,_,_,q⟩:=x;exact⟨_,q⟩
 | bI ob u=>obtain⟨q,_⟩:=x;exact⟨_,q⟩
 | nA ps=>exact⟨_,x⟩
 | met f y=>exact⟨_,x⟩
 | ext φ=>obtain⟨_,q,_⟩:=x;exact q
def XF(P:Program)(w:World):fX:=λouter H s E e s'=>∃(ea T:Addr) (C:Value) (H':Hp),e = .ref ea/\E C none H'/\s'.os=s.os/\AllBare s'.gens/\Un (cU outer) [] H H' s.heap s'.heap/\b7 P w H' s'.heap/\Xo s'.heap ea T C .none /\
 s.heap.get? ea=none/\s.heap.get? T=none/\H' ea=none/\H' T=none
section
variable{P:Program}{w:World}{K:PySem.W.Frag}{mg:Ó}{base:Heap}{N:Ò}{qual:Str}{scope:Scope}{f:Addr}{cd:Value}{A:Around}{outer:List Env}{s:Shared}{H:Hp}{E:XK}
def S7:cU (envOfC qual scope s.heap.objs.size f cd :: outer)=s.heap.objs.size :: cU outer:=rfl
theorem tj{b:Addr}{fs ex:List Addr}{Ha Hb:Hp}{h h1:Heap}(u:Un fs ex Ha Hb h h1)(hx:b∉ex)(n:h1.get? b=none):h.get? b=none:=by
 cases q:h.get? b with
 | none=>rfl
 | some o=>obtain⟨o',z⟩:=u.there b o q hx;rw[n]at z;cases z
theorem wn{P:Program}{w:World}{Ha:Hp}{h1:Heap}{b:Addr}(x:b7 P w Ha h1)(n:h1.get? b=none):Ha b=none:=by
 cases q:Ha b with
 | none=>rfl
 | some o=>
  exfalso
  obtain⟨u,z⟩:=q9g<|x b o q;rw[n]at z;cases z
def q5m{pins:Ñ}{σ:St}{H1:Hp}{s1:Shared}{e T:Addr}{C:Value}(I:Inv (c8 (XF P w) P w K mg base N qual scope f cd A outer s H E) pins σ H1 s1)(x:Xo s1.heap e T C .none)(hE:E C none H1)
  (n1:s.heap.get? e=none) (n2:s.heap.get? T=none) (n3:H1 e=none) (n4:H1 T=none):(c8 (XF P w) P w K mg base N qual scope f cd A outer s H E).xe (.ref e) s1:=by
 show wpAny (model P w) (A.deeper<|envOfC qual scope s.heap.objs.size f cd) (leaving (envOfC qual scope s.heap.objs.size f cd)<|.ref e) _ _ s1;unfold leaving;refine BJ<|JE (base:=base) (outer:=outer) I.ok.frames I.stack rfl x λh' T' z x' k=>?_;refine⟨e,T',C,H1,rfl,hE,I.os,I.bare,zJ (H:=H) (h:=s.heap) I.base k (λb o q hb=>?_) λb hb=>?_,JI I.aE k (λb hb=>I.cN b hb) λb hb=>?_,x',n1,tj (ex:=[]) (Hb:=H1) I.base (by simp) z,n3,wn I.aE z⟩
 ·rw[S7]at hb
  rcases Aj.mp hb with y | y
  ·exact absurd (Aq q)<|by rw[y];exact Cv _
  ·exact y
 ·rcases Aj.mp hb with y | y
  ·rw[y];exact n1
  ·rw[Ad.mp y];exact n2
 ·rcases Aj.mp hb with y | y
  ·rw[y];exact n3
  ·rw[Ad.mp y];exact n4
def x0z:lK (XF P w) (c8 (XF P w) P w K mg base N qual scope f cd A outer s H E) E:=by
 rintro pins σ H1 s1 e s2 I ⟨ea,T,C,H',rfl,hE,os,bare,un,aE,x,n1,n2,n3,n4⟩;have I2:=I.call' (ch:=[]) os un aE bare (λb z=>absurd z<|by simp);exact q5m I2 x hE (tj (ex:=[]) (Hb:=H1) I.base (by simp) n1) (tj (ex:=[]) (Hb:=H1) I.base (by simp) n2) n3 n4
end
abbrev nh:Ô:=[.type "ValueError",.type "Exception",.type "BaseException",.type "object"]
def XC(K:PySem.W.Frag)(C:Addr):Prop:=PySem.W.excIn K C nh "ValueError.__new__" = true
def XC.obj{K:PySem.W.Frag}{h:Heap}{C:Addr}(q:XC K C)(X:K.In h):∃ bm N nm qn bs hdct sn sub ab col dd k0 k1 k2 k3 k5 mN,h.get? C=some (excClassObj nm qn C N bs bm hdct sn sub ab col dd k0 k1 k2 k3 k5 "ValueError.__new__")/\h.Ns N mN/\mN "__init__" = none/\OwnTail h nh bm:=by
 unfold XC PySem.W.excIn at q
 split at q
 ·rename_i dd cd sl ho
  split at q
  ·rename_i D bm k0 k1 k2 k3 n k5 hm hs;simp only[Bn,HJ,KY]at q;obtain⟨⟨⟨⟨⟨eD,en⟩,wo⟩,ht⟩,aE⟩,oz⟩:=q;obtain⟨nm,bs,mro,ns,qn,hd,sn,sub,ab,col,del⟩:=cd
   dsimp only at hm wo aE oz
   subst eD en hm wo;have esl:sl=#[k0,k1,k2,k3,some<|.builtin "ValueError.__new__",k5]:=by
    cases sl;simp only at hs;rw[hs]
   subst esl;exact⟨bm,ns,nm,qn,bs,hd,sn,sub,ab,col,dd,k0,k1,k2,k3,k5,_,X _ _ ho,.of_isNs<|PySem.W.isNs_of_in X aE,PySem.W.nsMap_none_of_in X aE oz,PySem.W.tail_of_in X ht⟩
  ·cases q
 ·cases q
section
variable{X:Cx}{σ:St}{H:Hp}{D:Ends}{rest:Ö}
def Rz(X:Cx)(E:St->XK):Prop:=∀(pins:Ñ) (σ:St) (H:Hp) (s:Shared) (h':Heap) (e C:Addr) (args:Ô),Inv X pins σ H s->Heap.MadeExcOf s.heap h' e (.ref C) args->E σ (.ref C) none H->X.xe (.ref e) {s with heap:=h'}
def k8t{E:St->XK}(hz:Rz X E){x:Str}{C:Addr}{a:Expr}{np cp pos:Pos}(hm:X.mg x=some (.ref C))(hC:XC X.K C)(hc:X.calm=true)(h:Ea X [a] σ H λvs H1=>vs.length<=sizeLine/\E σ (.ref C) none H1)(hg:Gl X x:=by rfl)(cw:(x == ("__debug__" : Str))=false:=by decide)
  (he:starEach [a] X.env=(false,eval a X.env) :: starEach [] X.env:=by rfl):Run X (.Raise (some<|.Call (.Name x np) [a] [] cp) none pos :: rest) D σ H:=by
 refine ju (t:=λD σ H=>Ea X [a] σ H λvs H1=>vs.length<=sizeLine/\E σ (.ref C) none H1) ?_ h;intro pins s σ H D I h;obtain⟨bm,N,nm,qn,bs,hdct,sn,sub,ab,col,dd,k0,k1,k2,k3,k5,mN,oC,oN,oi,oT⟩:=hC.obj I.ok.mod.oO;refine wpAny_Raise_call_subT (C:=C) (nm:=nm) (q:=qn) (N:=N) (bs:=bs) (bm:=bm) (hdct:=hdct) (sn:=sn) (sub:=sub) (ab:=ab) (col:=col) (dd:=dd) (k0:=k0) (k1:=k1) (k2:=k2) (k3:=k3) (k5:=k5) PySem.F.excBase_ValueError (mN:=mN) (oT.hasType PySem.F.excBase_ValueError.hasBase) (I.ok.hd hc) (by rw[he];rfl) oi<|ri I hg hm ⟨rfl,?_⟩ cw;have q:=h.run cp pins s I;rw[he]at q ⊢;refine NZ<|aN q λus s2 ⟨vs,H2,I2,r,z2,q2⟩=>⟨rfl,by rw[<- r.length];exact z2,I2.bk _ _ oC,oN.keeps I2.bk,oT.keeps I2.bk,λh' e hx=>hz pins σ H2 s2 h' e C us I2 hx q2⟩
end
section
variable{P:Program}{w:World}{K:PySem.W.Frag}{mg:Ó}{base:Heap}{N:Ò}{qual:Str}{scope:Scope}{f:Addr}{cd:Value}{A:Around}{outer:List Env}{s:Shared}{H:Hp}{E:XK}
def q8r{h h':Heap}(k:∀ b o,h.get? b=some o->h'.get? b=some o):Kp [] [] h h':=⟨λb o q _ _=>k b o q,λb o q z=>absurd z<|by simp⟩
def x0h:Rz (c8 (XF P w) P w K mg base N qual scope f cd A outer s H E) (λ_=>E):=by
 intro pins σ H1 s1 h' e C args I hx hE;obtain⟨t,he,_,_⟩:=hx.there;show wpAny (model P w) (A.deeper<|envOfC qual scope s.heap.objs.size f cd) (leaving (envOfC qual scope s.heap.objs.size f cd)<|.ref e) _ _ _;unfold leaving;have n0:H1 e=none:=wn I.aE hx.new;have k1:=q8r hx.keeps;refine BJ<|q0f (s:={s1 with heap:=h'}) (base:=base) (outer:=outer) I.ok.frames (I.stack.of_keeps λb o q _=>⟨o,hx.keeps b o q,rfl⟩) rfl he rfl rfl rfl rfl λh2 T z x k=>?_;have JO:b7 P w H1 h':=I.aE.kept hx.keeps;have un1:Un (cU outer) [] H H1 s.heap h':=zJ (H:=H) (h:=s.heap) I.base k1 (λb o q hb=>absurd hb<|by simp) λb hb=>absurd hb (by simp);have nT:s1.heap.get? T=none:=by
  cases q:s1.heap.get? T with
  | none=>rfl
  | some o=>have:=hx.keeps _ _ q;exact absurd (this.symm.trans z)<|by simp
 have ns:s.heap.get? e=none:=tj (ex:=[]) (Hb:=H1) I.base (by simp) hx.new;refine⟨e,T,.ref C,H1,rfl,hE,I.os,I.bare,zJ un1 k (λb o q hb=>?_) λb hb=>?_,JI JO k (λb hb=>I.cN b hb) λb hb=>?_,x,ns,tj (ex:=[]) (Hb:=H1) I.base (by simp) nT,n0,wn I.aE nT⟩
 ·rw[S7]at hb
  rcases Aj.mp hb with y | y
  ·exact absurd (Aq q)<|by rw[y];exact Cv _
  ·exact y
 ·rw[Ad.mp hb];exact ns
 ·rw[Ad.mp hb];exact n0
def JP(N:Ò)(qual:Str)(scope:Scope)(P:Program)(w:World)(K:PySem.W.Frag)(mg:Ó)(base:Heap)(b:rH):Cx:=c8 (XF P w) P w K mg base N qual scope b.f b.bJ b.A b.outer b.s b.H b.E
def bE.gx{x:Str}{st:Stmt}{fd:FuncData}{ps:Ò}{k:Nat}{sp:Sp}(F:bE K x qual st f fd)(S:ak N ps<|aU st)(len:∀ vs H Q E,sp vs H Q E->vs.length=ps.length)
  (cP:∀(b:rH) (H:Hp) (vs:List V) (Q:VK),bo k (b.A.deeper<|envOfC qual (aU st) b.s.heap.objs.size b.f b.bJ)->sp vs H Q b.E->Run (JP N qual (aU st) P w K mg base b) (iX st) (En Q) (start N vs) H):aG P w K mg base (XF P w) (k+1) f fd ps sp:=by
 obtain⟨oc,od,kV,doc,pm,an,bJ,ct,jO,rfl,lk,iw⟩:=F.ex;refine MU lk iw S len λA outer s H vs Q E hr dD=>?_;exact⟨_,pj,cP ⟨f,bJ,A,outer,s,H,E⟩ H vs Q hr dD⟩
def x0t{b:rH}:lK (XF P w) (JP N qual scope P w K mg base b) b.E:=x0z
def rzX{b:rH}:Rz (JP N qual scope P w K mg base b) (λ_=>b.E):=x0h
end
structure d7(P:Program)(w:World)(K:PySem.W.Frag)(mg:Ó)(base:Heap)(k:Nat)(x:Str)(ps:Ò)(sp:Sp):Prop where
 ex:∃ f fd,aG P w K mg base (XF P w) k f fd ps sp/\Binds K fd ps []/\PySem.W.keepIn K (.ref f)=true/\mg x=some (.ref f)
def d7.mono{P:Program}{w:World}{K:PySem.W.Frag}{mg:Ó}{base:Heap}{j k:Nat}{x:Str}{ps:Ò}{sp:Sp}(h:d7 P w K mg base j x ps sp)(le:j<=k):d7 P w K mg base k x ps sp:=
 let ⟨f,fd,F,r⟩:=h.ex;⟨f,fd,F.mono le,r⟩
def JS{X:Cx}{k:Nat}{ps:Ò}{sp:Sp}{x:Str}{e:Expr}{es:Õ}{σ:St}{H:Hp}{Q:VK}{E:XK}{p pos:Pos}(G:d7 X.prog X.w X.K X.mg X.base k x ps sp)(hr:bo k X.A)(hx:lK (XF X.prog X.w) X E)
  (h:Ea X (e :: es) σ H λvs H1=>sp vs H1 Q E) (hg:Gl X x:=by rfl) (cw:(x == ("__debug__" : Str))=false:=by decide) (hs:noStar (e :: es)=true:=by rfl):Ev X (.Call (.Name x p) (e :: es) [] pos) σ H Q:=
 let ⟨_,_,F,b,kp,m⟩:=G.ex;Ny F hr m kp b hx h hg cw hs
def Df.wq{P:Program}{w:World}{K:PySem.W.Frag}{mg:Ó}{h base:Heap}{k:Nat}{x:Str}{st:Stmt}{ps:Ò}{sp:Sp}(d:Df K x st)(X:K.In h)(G:h.Ns mainGlobals mg)
  (hb:∀(kV doc pm:Value) (an:Option Addr) (bJ ct:Value) (us:Ô),us.length=ps.length->bindArgs (PySem.W.fnOf x x (nH st) (iX st) (aU st) .none kV doc pm an bJ ct) ⟨us,[]⟩=pure (ps.zip us))
  (ok:∀{f:Addr} {fd:FuncData},bE K x x st f fd->aG P w K mg base (XF P w) k f fd ps sp):d7 P w K mg base k x ps sp:=
 let ⟨f,fd,a,F⟩:=d;⟨f,fd,ok F,F.binds hb,F.kp,LQ X G a⟩
def JU(CX:fX)(X:Cx)(σ:St)(E:XK):Prop:=∀(pins:Ñ) (H:Hp) (s:Shared) (e:Value) (s':Shared),Inv X pins σ H s->CX X.stack H s E e s'->X.xe e s'
section
variable{X:Cx}{CX:fX}{k:Nat}{f:Addr}{fd:FuncData}{ps:Ò}{sp:Sp}{E:XK}{x:Str}{p pos:Pos}{e:Expr}{es:Õ}{σ:St}{H:Hp}{Q:VK}
theorem q1z(F:aG X.prog X.w X.K X.mg X.base CX k f fd ps sp)(hr:bo k X.A)(hm:X.mg x=some (.ref f))(hk:PySem.W.keepIn X.K (.ref f)=true)(hb:Binds X.K fd ps [])(hx:JU CX X σ E)(h:Ea X (e :: es) σ H λvs H1=>sp vs H1 Q E)
  (hg:Gl X x:=by rfl) (cw:(x == ("__debug__" : Str))=false:=by decide) (he:starEach (e :: es) X.env=(false,eval e X.env) :: starEach es X.env:=by rfl) (jN:(backTo pos<|starEach es X.env).any (·.1)=false:=by rfl):Ev X (.Call (.Name x p) (e :: es) [] pos) σ H Q:=by
 refine⟨λpins s I=>JG<|ri I hg hm ?_ cw⟩;refine PySem.W.callWith_K (h₀:=X.base) I.ok.mod.oO hk (aN (h.run pos pins s I) λus s1 ⟨vs,H1,I1,r,q⟩=>⟨I1.dL,?_⟩) he jN;have hl:us.length=ps.length:=by rw[<- r.length];exact F.len _ _ _ _ q
 have iW:(us++[]).length=ps.length:=by rw[Bg];exact hl
 have jw:=hb s1 us I1.dL iW;rw[Bg]at jw;refine RD<|JB (F.run X.A X.stack s1 H1 ⟨us,[]⟩ us vs Q E hr I1.tW jw r q) λr s' hq=>?_;cases r with
 | error y=>exact hx pins H1 s1 y s' I1 hq
 | ok fl=>
  cases fl with
  | ret u=>exact I1.after hq
  | next=>exact False.elim hq
  | brk=>exact False.elim hq
  | cont=>exact False.elim hq
def S8(G:d7 X.prog X.w X.K X.mg X.base k x ps sp)(hr:bo k X.A)(hx:JU (XF X.prog X.w) X σ E)(h:Ea X (e :: es) σ H λvs H1=>sp vs H1 Q E)
  (hg:Gl X x:=by rfl) (cw:(x == ("__debug__" : Str))=false:=by decide) (he:starEach (e :: es) X.env=(false,eval e X.env) :: starEach es X.env:=by rfl) (jN:(backTo pos<|starEach es X.env).any (·.1)=false:=by rfl):Ev X (.Call (.Name x p) (e :: es) [] pos) σ H Q:=
 let ⟨_,_,F,b,kp,m⟩:=G.ex;q1z F hr m kp b hx h hg cw he jN
end
abbrev XO(oe:Obj):HO:= .bI oe<|.own 0
structure wt(oe:Obj)(C:Value):Prop where
 cls:oe.cls=C
 dict:oe.dict=none
 data:∃ vs,oe.data = .fields vs/\vs[2]?=some .none
abbrev Cx.bD(X:Cx)(p:Ñ):Cx:={X with pn:=X.pn++p}
structure wu(X:Cx)(pins:Ñ)(b:Addr):Prop where
 l:b≠X.env.locals
 c:∀ x c,X.env.cells.lookup x=some c->c≠b
 p:∀ q∈X.pn++pins,q.1≠b
 f:b∉X.fs
 s:X.s₀.heap.get? b=none
section
variable{X:Cx}{pins:Ñ}{σ:St}{H:Hp}{s:Shared}{b:Addr}
def zK(I:Inv X pins σ H s)(hex:X.ex=[])(n:s.heap.get? b=none):wu X pins b:=by
 refine⟨λz=>?_,λx c e z=>?_,λq hq z=>?_,λz=>?_,tj I.base (by rw[hex];simp) n⟩
 ·obtain⟨m,⟨o,_,_,ho,_⟩,_⟩:=I.loc;rw[<- z,n]at ho;cases ho
 ·obtain⟨v,o,ho,_⟩:=I.cell x c e;rw[z,n]at ho;cases ho
 ·have:=(I.pin q hq).1;rw[z,n]at this;cases this
 ·obtain⟨_,o,ho,_⟩:=I.cv.mem z;rw[n]at ho;cases ho
def Inv.kp{bad:List Addr}{h':Heap}{t':Nat}(I:Inv X pins σ H s)(hex:X.ex=[])(k:Kp (cU X.stack) bad s.heap h')(ha:∀ b∈bad,wu X pins b)(hn:∀ b∈bad,H b=none):Inv X pins σ H {s with heap:=h',toks:=t'}:=by
 have kc:∀ x c,X.env.cells.lookup x=some c->∀ v,s.heap.IsCell c v->h'.IsCell c v:=λx c e v ⟨o,ho,hd⟩=>by
  by_cases y:c∈cU X.stack
  ·obtain⟨sl,z⟩:=k.slot c o ho y;exact⟨_,z,hd⟩
  ·exact⟨o,k.keep c o ho y λw=>(ha c w).c x c e rfl,hd⟩
 have kl:∀ m,s.heap.Ns X.env.locals m->h'.Ns X.env.locals m:=λm hm=>by
  obtain⟨o,es,ep,ho,r⟩:=hm
  by_cases y:X.env.locals∈cU X.stack
  ·obtain⟨sl,z⟩:=k.slot _ o ho y;exact⟨_,es,ep,z,r⟩
  ·exact⟨o,es,ep,k.keep _ o ho y λw=>(ha _ w).l rfl,r⟩
 refine⟨I.ok,I.os,I.bare,?_,?_,λx c e=>?_,I.free,I.bz,λp hp=>?_,JI I.aE k (λb hb=>I.cN b hb) hn,I.len⟩
 ·have u:=I.base;rw[hex]at u ⊢;refine zJ u k (λb o q hb=>?_) λb hb=>(ha b hb).s
  rcases Aj.mp (I.cY b hb)with y | y
  ·exact absurd (Be (Aq q) I.ok.above)<|by rw[y];exact Cv _
  ·exact y
 ·obtain⟨m,hm,hl⟩:=I.loc;refine⟨m,kl m hm,λi x v e1 e2 e3=>?_⟩;obtain⟨u,r,q⟩:=hl i x v e1 e2 e3;refine⟨u,r,?_⟩
  rcases q with q | ⟨y,c,e,z⟩
  ·exact .inl q
  ·exact .inr ⟨y,c,e,kc x c e _ z⟩
 ·obtain⟨v,z⟩:=I.cell x c e;exact⟨v,kc x c e v z⟩
 ·obtain⟨e,n,ne,nf,d⟩:=I.pin p hp;refine⟨k.keep _ _ e (λy=>?_) λw=>(ha _ w).p p hp rfl,n,ne,nf,d⟩
  rcases Aj.mp (I.cY _ y)with z | z
  ·exact ne z
  ·exact nf z
def Inv.oG{o:HO}(I:Inv X pins σ H s)(hex:X.ex=[])(a:wu X pins b)(n:H b=none)(ho:aB X.prog X.w (upd H b o) s.heap b o):Inv X pins σ (upd H b o) s:=by
 have u:=I.base;have ne:∀ c o',H c=some o'->c≠b:=λc o' q z=>by rw[z,n]at q;cases q
 refine⟨I.ok,I.os,I.bare,⟨u.keep,u.slot,λc o' q n' hx=>?_,u.there,λc xs q=>?_,λc o' v q=>?_,λc ps q=>?_⟩,I.loc,I.cell,by rw[av<|CG a.l];exact I.free,λx c e=>by rw[av<|a.c x c e];exact I.bz x c e,λp hp=>?_,λc o' q=>?_,I.len⟩
 ·have:c≠b:=λz=>by rw[z,a.s]at q;cases q
  rw[av this];exact u.free c o' q n' hx
 ·have q':=u.dI c xs q;rw[av<|ne _ _ q'];exact q'
 ·have q':=u.dw c o' v q;rw[av<|ne _ _ q'];exact q'
 ·obtain⟨m,q'⟩:=u.dJ c ps q;exact⟨m,by rw[av<|ne _ _ q'];exact q'⟩
 ·obtain⟨e,n',r⟩:=I.pin p hp;exact⟨e,by rw[av<|a.p p hp];exact n',r⟩
 ·by_cases y:c=b
  ·subst y;rw[aA]at q;cases q;exact ho
  ·rw[av y]at q;exact(I.aE c o' q).fh (λ_ _ _ z=>z) (λd z=>by rw[av<|ne _ _ z];exact z) λd xs z=>by rw[av<|ne _ _ z];exact z
end
def Cgt(X:Cx)(Φ:Value->St->Hp->Prop)(e:Value)(s':Shared):Prop:=∃(pins:Ñ) (σ:St) (H:Hp) (ea T:Addr) (C:Value),e = .ref ea/\Inv X pins σ H s'/\Xo s'.heap ea T C .none/\wu X pins ea/\wu X pins T/\H ea=none/\H T=none/\Φ C σ H
abbrev qL(X:Cx)(p:Ñ)(Φ:Value->St->Hp->Prop):Cx:=(X.bD p).cZ<|Cgt (X.bD p) Φ
def S9{X:Cx}{p:Ñ}{Φ:Value->St->Hp->Prop}{σ:St}(hex:X.ex=[]):JU (XF X.prog X.w) (qL X p Φ) σ (λC _ H'=>Φ C σ H'):=by
 rintro pins H s e s' I ⟨ea,T,C,H',rfl,hE,os,bare,un,aE,x,n1,n2,n3,n4⟩;have I2:=I.call' (ch:=[]) os un aE bare (λb z=>absurd z<|by simp);have J:Inv (X.bD p) pins σ H s:=I.bG;exact⟨pins,σ,H',ea,T,C,rfl,I2.bG,x,zK J hex n1,zK J hex n2,n3,n4,hE⟩
abbrev di(X:Cx)(p:Ñ)(ea:Addr):Cx:={X with A:=X.A.mark<|some<|.ref ea,calm:=false,pn:=X.pn++p,xe:=λ_ _=>False}
def Inv.hd{X:Cx}{p pins:Ñ}{σ:St}{H:Hp}{s:Shared}{ea:Addr}(I:Inv (X.bD p) pins σ H s):Inv (di X p ea) pins σ H s:=
 ⟨⟨I.ok.mod,I.ok.kind,I.ok.glob,I.ok.blt,I.ok.above,I.ok.inj,I.ok.has,I.ok.lG,(λz=>(nomatch z)),I.ok.frames,I.ok.jr,I.ok.rh,I.ok.bs,I.ok.js,I.ok.fk,I.ok.fQ,I.ok.cv,I.ok.kN⟩,I.os,I.bare,I.base,I.loc,I.cell,I.free,I.bz,I.pin,I.aE,I.len⟩
def Inv.wv{X:Cx}{p pins oH:Ñ}{σ:St}{H:Hp}{s:Shared}{ea:Addr}(I:Inv (di X p ea) pins σ H s)(hc:X.calm=true->X.A.handled=none):Inv (X.bD p) pins σ H s:=
 ⟨⟨I.ok.mod,I.ok.kind,I.ok.glob,I.ok.blt,I.ok.above,I.ok.inj,I.ok.has,I.ok.lG,hc,I.ok.frames,I.ok.jr,I.ok.rh,I.ok.bs,I.ok.js,I.ok.fk,I.ok.fQ,I.ok.cv,I.ok.kN⟩,I.os,I.bare,I.base,I.loc,I.cell,I.free,I.bz,I.pin,I.aE,I.len⟩
def Inv.kH{X:Cx}{p pins:Ñ}{σ:St}{H:Hp}{s:Shared}(I:Inv X p σ H s):Inv (X.bD p) [] σ H s:=
 ⟨⟨I.ok.mod,I.ok.kind,I.ok.glob,I.ok.blt,I.ok.above,I.ok.inj,I.ok.has,I.ok.lG,I.ok.hd,I.ok.frames,I.ok.jr,I.ok.rh,I.ok.bs,I.ok.js,I.ok.fk,I.ok.fQ,I.ok.cv,I.ok.kN⟩,I.os,I.bare,I.base,I.loc,I.cell,I.free,I.bz,λq hq=>I.pin q (by simpa using hq),I.aE,I.len⟩
def Inv.dG{X:Cx}{p pins:Ñ}{σ:St}{H:Hp}{s:Shared}(I:Inv (X.bD p) pins σ H s):Inv X p σ H s:=
 ⟨⟨I.ok.mod,I.ok.kind,I.ok.glob,I.ok.blt,I.ok.above,I.ok.inj,I.ok.has,I.ok.lG,I.ok.hd,I.ok.frames,I.ok.jr,I.ok.rh,I.ok.bs,I.ok.js,I.ok.fk,I.ok.fQ,I.ok.cv,I.ok.kN⟩,I.os,I.bare,I.base,I.loc,I.cell,I.free,I.bz,λq hq=>I.pin q<|Ba _ hq,I.aE,I.len⟩
def ni(K:PySem.W.Frag)(C S:Addr):Bool:=match K.lookup C with
 | some ⟨_,_,.cls cd,_⟩=>cd.mro.contains<|.ref S
 | _=>false
def q77{K:PySem.W.Frag}{h:Heap}{C S:Addr}(X:K.In h)(q:ni K C S=true){nm qn:Str}{N:Addr}{bs bm:Ô}{hdct:Bool}{sn:Ò}{sub:Ô}{ab:Bool}{col:Option Bool}{dd:Option Addr}{k0 k1 k2 k3 k5:Option Value}{nid:String}
  (oC:h.get? C=some (excClassObj nm qn C N bs bm hdct sn sub ab col dd k0 k1 k2 k3 k5 nid)):(Value.ref C :: bm).contains (.ref S)=true:=by
 unfold ni at q
 split at q
 ·rename_i ho;have:=(X _ _ ho).symm.trans oC;cases this;exact q
 ·cases q
section
variable{M:Model}{A:Around}{E:Ï}{K:PySem.W.Frag}{s:Shared}
def Ta{e C S:Addr}{oe:Obj}{Q:Bool->Shared->Prop}(X:K.In s.heap)(hC:XC K C)(hS:XC K S)(hm:ni K C S=true)(he:s.heap.get? e=some oe)(hc:oe.cls = .ref C)(h:Q true s):wpAny M A (excMatches (.ref e)<|.ref S) Q E s:=by
 obtain⟨bm,N,nm,qn,bs,hdct,sn,sub,ab,col,dd,k0,k1,k2,k3,k5,mN,oC,oN,oi,oT⟩:=hC.obj X;obtain⟨bm',N',nm',qn',bs',Tc,sn',x0G,ab',x0H,iY,k0',C6,k2',k3',k5',mN',oS,oN',oi',oT'⟩:=hS.obj X;have c1:=q77 X hm oC;have c2:(Value.ref S :: bm').contains (.type "BaseException")=true:=by rw[List.contains_cons,oT'.hasType PySem.F.excBase_ValueError.hasBase,Bool.or_true]
 have f:=tc_notTuple;obtain⟨hh,g,d,tk,os⟩:=s;unfold excMatches
 repeat (first | (with_reducible refine wpAny_loadPart_at he ?_;rw[hc]) | with_reducible refine wpAny_loadPart_at oS ?_ | (with_reducible refine wpAny_isSubtype_exc oS ?_;rw[c2]) | (with_reducible refine wpAny_isSubtype_exc oC ?_;rw[c1]) | wp_step)
 exact h
end
section
variable{X:Cx}{pins:Ñ}{σ:St}{H:Hp}{s:Shared}
def Inv.cr{M:Model}{A:Around}{E:Ï}{Q:Unit->Shared->Prop}{i:Nat}{n:Str}{pos:Pos}(I:Inv X pins σ H s)(hN:X.N.Nodup)(hi:X.N[i]?=some n)(hl:X.env.scope.names.lookup n=some .local)
  (h:∀ s',Inv X pins (σ.set i none) H s'->Q () s'):wpAny M A (do bindName X.env n .none;unbindBehindTheSuite X.env n pos) Q E s:=by
 obtain⟨m,hn,JY⟩:=id I.loc;have oQ:(X.env.scope.kind == .class || (X.env.scope.kind == .module && X.env.locals != X.env.globals))=false:=by rw[I.ok.kind];rfl
 have hiσ:i < σ.length:=by rw[I.len];exact(Ac.mp hi).1
 obtain⟨oL,_,_,jt,_⟩:=id hn;refine wpAny_nameGoes_keeps hl hn oQ λh' v kQ hs=>h _ ?_;have low:∀ b o,X.s₀.heap.get? b=some o->b≠X.env.locals:=λb o q=>Bm<|Be (Aq q) I.ok.above;refine⟨I.ok,I.os,I.bare,⟨λb o q n' hb hx=>(hs.2 b<|low b o q).trans<|I.base.keep b o q n' hb hx,λb o q n' hb hx=>?_,I.base.free,λb o q hx=>?_,I.base.dI,I.base.dw,I.base.dJ⟩,⟨_,kQ,λj y v' e1 e2 e3=>?_⟩,λy c q=>?_,I.free,I.bz,λp hp=>?_,λb u q=>?_,by rw[List.length_set];exact I.len⟩
 ·obtain⟨sl,z⟩:=I.base.slot b o q n' hb hx;exact⟨sl,(hs.2 b<|low b o q).trans z⟩
 ·obtain⟨o',z⟩:=I.base.there b o q hx;exact⟨o',(hs.2 b<|low b o q).trans z⟩
 ·by_cases hj:j=i
  ·subst hj;rw[Fz hiσ]at e2;cases e2
  ·rw[Gm<|CG hj]at e2;obtain⟨u,r,q⟩:=JY j y v' e1 e2 e3;refine⟨u,r,?_⟩
   rcases q with ⟨k,z⟩ | ⟨k,c,z,w⟩
   ·have:y≠n:=λz=>hj<|AB hN e1<|z ▸ hi;exact .inl ⟨k,by simp[this,z]⟩
   ·exact .inr ⟨k,c,z,w.sameBut hs<|I.jL y c z⟩
 ·obtain⟨v2,z⟩:=I.cell y c q;exact⟨v2,z.sameBut hs<|I.jL y c q⟩
 ·obtain⟨e,n',ne,nf,d⟩:=I.pin p hp;exact⟨(hs.2 p.1 ne).trans e,n',ne,nf,d⟩
 ·refine(I.aE b u q).fh (λc w' hc z=>(hs.2 c ?_).trans z) (λ_ z=>z) λ_ _ z=>z;rintro rfl
  rcases hc with hc | hc
  ·rw[<- hc,I.free]at q;cases q
  ·rw[I.free]at hc;cases hc
end
def q87(X:Cx)(D:Ends)(rest:Ö)(i:Nat):Ends:={nx:=λσ H=>Run X rest D (σ.set i none) H,rt:=D.rt,bk:=λσ H=>D.bk (σ.set i none) H,ct:=λσ H=>D.ct (σ.set i none) H}
def q6l{X:Cx}{σ:St}{H:Hp}{D:Ends}{rest body gJ:Ö}{Æ:Stmt}{x n:Str}{S:Addr}{np hp pos:Pos}(i:Nat)(Φ:Value->St->Hp->Prop)(hm:X.mg x=some (.ref S))(hS:XC X.K S)(hN:X.N.Nodup)
  (hb:∀ p,Run (qL X p Φ) body {D with nx:=λσ' H'=>Run X rest D σ' H'} σ H)
  (hh:∀ C σ' H',Φ C σ' H'->∃ Ca,C = .ref Ca/\XC X.K Ca/\ni X.K Ca S=true/\∀ p ea oe,wt oe C->H' ea=none->Run (di X p ea) (Æ :: gJ) (q87 X D rest i) (σ'.set i<|some<|.ref ea) (upd H' ea<|XO oe))
  (hi:X.N[i]?=some n:=by rfl) (hl:X.env.scope.names.lookup n=some .local:=by rfl) (hex:X.ex=[]:=by rfl) (cn:X.stack=X.env :: X.outer:=by rfl) (gO:X.env.frame=some X.env.locals:=by rfl)
  (tJ:X.fn n=true\/X.env.scope.names.lookup n=some .local:=by first | exact .inl rfl | exact .inr rfl) (hg:Gl X x:=by rfl) (cw:(x == ("__debug__" : Str))=false:=by decide) :
  Run X (.Try body [.ExceptHandler (some<|.Name x np) (some n) (Æ :: gJ) hp] [] [] pos :: rest) D σ H:=by
 refine ju (t:=λD' σ H=>∀ p,Run (qL X p Φ) body {D with nx:=λσ' H'=>Run X rest D σ' H'} σ H/\D'={D with nx:=λσ' H'=>Run X rest D σ' H'}) ?_ λp=>⟨hb p,rfl⟩;intro p0 s σ H D' I h;obtain⟨hb,rfl⟩:=h p0;refine wpAny_Try_except<|CP (hb.run [] s<|(I.kH (pins:=[])).cZ _) (λf s1 q=>?_) λe s1 q=>?_
 ·have out:∀{pp:Ñ} {σ':St} {H':Hp},Inv (qL X p0 Φ) pp σ' H' s1->Inv X p0 σ' H' s1:=λJ=>(J.bG).dG;cases f with
  | next=>
   obtain⟨σ',H',J,q⟩:=q;exact AQ p0 s1 σ' H' _ (out J) q
  | brk=>obtain⟨σ',H',J,q⟩:=q;exact⟨σ',H',out J,q⟩
  | cont=>obtain⟨σ',H',J,q⟩:=q;exact⟨σ',H',out J,q⟩
  | ret u=>obtain⟨v,σ',H',J,r,q⟩:=q;exact⟨v,σ',H',out J,r,q⟩
 ·obtain⟨pp,σ',H',ea,T,C,rfl,J,x1,a1,a2,n1,n2,hΦ⟩:=q;obtain⟨Ca,rfl,hC,jZ,qM⟩:=hh C σ' H' hΦ;have fr:(X.bD p0).A.frames=some (X.env :: X.outer):=by rw[<- cn];exact J.ok.frames
  have jr:s1.heap.FunFrames X.base (X.env :: X.outer):=by rw[<- cn];exact J.stack
  refine JE fr jr gO x1 λh2 T' z x2 k=>?_;have k':Kp (cU (X.bD p0).stack) [ea,T] s1.heap h2:=by
   show Kp (cU X.stack) [ea,T] s1.heap h2;rw[cn];exact k
  have J2:Inv (X.bD p0) pp σ' H' {s1 with heap:=h2}:=J.kp (t':=s1.toks) hex k' (λb hb=>by
   rcases Aj.mp hb with y | y
   ·rw[y];exact a1
   ·rw[Ad.mp y];exact a2) (λb hb=>by
   rcases Aj.mp hb with y | y
   ·rw[y];exact n1
   ·rw[Ad.mp y];exact n2)
  have a3:=zK J hex z;have n3:H' T'=none:=wn J.aE z;have J3:Inv (di X p0 ea) pp σ' H' {s1 with heap:=h2}:=J2.hd;obtain⟨⟨oe,vs,he,hc,ng,hd,h1,mh⟩,bn,J0⟩:=id x2;refine wpAny_handleBy_cons (codeAny_handlers_test<|ri J3 hg hm ?_ cw) (by intro q;cases q);refine Ta J3.dL hC hS jZ he hc ?_;refine codeAny_handlers_suite_as<|S6 x2 λh3 x3 k3=>?_;have J4:Inv (di X p0 ea) pp σ' H' {s1 with heap:=h3}:=J3.kp (s:={s1 with heap:=h2}) (t':=s1.toks) (bad:=[T']) hex ⟨λb o q _ nb=>k3 b o (λy=>nb<|by simp[y]) q,λb o q hb=>⟨o.slots,k3 b o (λy=>by
   obtain⟨_,o',cJ,kQ⟩:=J3.stack.mem hb;obtain⟨oT,ts,hT,dT,_⟩:=J0;rw[y]at cJ;have:=cJ.symm.trans hT;cases this;exact kQ _ dT) q⟩⟩ (λb hb=>by rw[Ad.mp hb];exact⟨a3.l,a3.c,a3.p,a3.f,a3.s⟩) λb hb=>by rw[Ad.mp hb];exact n3
  obtain⟨⟨wx,J1,wy,J9,qN,J',wz,qO⟩,_,_⟩:=x3;have J5:Inv (di X p0 ea) pp σ' (upd H' ea<|XO wx) {s1 with heap:=h3}:=J4.oG hex ⟨a1.l,a1.c,a1.p,a1.f,a1.s⟩ n1 ⟨wy,⟨_,wy⟩⟩;refine AG (X:=di X p0 ea) J5 hN hi (Or.inl hl) (v:= .ref ea) rfl (λs4 J6=>?_) tJ;refine CP ((qM p0 ea wx ⟨J9,qN,J1,J',qO⟩ n1).run pp s4 J6) (λf s5 q=>?_) λ_ _ z=>z.elim;have out:∀{σ2:St} {H2:Hp} {s6:Shared},Inv (di X p0 ea) pp σ2 H2 s6->Inv X p0 σ2 H2 s6:=λJ=>((J.wv (oH:=[]) J2.ok.hd).dG);cases f with
  | next=>
   obtain⟨σ2,H2,J7,q⟩:=q;exact J7.cr hN hi hl λs6 J8=>⟨_,H2,out J8,q⟩
  | brk=>
   obtain⟨σ2,H2,J7,q⟩:=q;exact J7.cr hN hi hl λs6 J8=>⟨_,H2,out J8,q⟩
  | cont=>
   obtain⟨σ2,H2,J7,q⟩:=q;exact J7.cr hN hi hl λs6 J8=>⟨_,H2,out J8,q⟩
  | ret u=>
   obtain⟨v,σ2,H2,J7,r,q⟩:=q;exact J7.cr hN hi hl λs6 J8=>⟨v,_,H2,out J8,r,q⟩
open PySem.W
section
variable{prog:Program}{w:World}{A:Around}{E:Ï}{s:Shared}{K:Frag}{a C:Addr}{o:Obj}
def nj(K:Frag)(C:Addr):Bool:=findIn K (.ref C) "__getattribute__" == some (some<|.builtin "BaseException.__getattribute__") && findIn K (.ref C) "__getattr__" == some none && findIn K (.ref C) "__class__" == some (some<|.builtin "object.__class__") &&
 mroIn K C (.type "object") == some true && mroIn K C (.type "BaseException") == some true && (clsIn K C).isSome
def q0b{Q:Option Value->Shared->Prop}(X:K.In s.heap)(I:InstAt s.heap a o C none)(q:nj K C=true)(hq:Q (some<|.ref C) {s with toks:=s.toks+1}):wpAny (model prog w) A (getAttr? (.ref a) "__class__") Q E s:=by
 unfold nj at q;simp only[Bn,HJ]at q;obtain⟨⟨⟨⟨⟨h1,h2⟩,h3⟩,h4⟩,h5⟩,_⟩:=q;obtain⟨hh,g,d,t,os⟩:=s;have L0:=I.type (M:=model prog w);have L1:=looks_findIn (M:=model prog w) X h1;have L2:=looks_findIn (M:=model prog w) X h2;have L3:=looks_findIn (M:=model prog w) X h3;have L5:=looks_mroIn (M:=model prog w) X h5;unfold getAttr? getAttrBy? getAttrBy;refine BJ<|wpAny_mkText<|BJ<|JF<|CJ<|BJ<|L0.at (BJ<|L1.at ?_);show wpAny _ _ (getAttrByItsOwn _ _ _ _ _ _) _ _ _;unfold getAttrByItsOwn hookBefore callGetattribute boundAndCalled;have f3:=F.attr_ValueError.ga.bind<|.ref a;refine BJ ?_;show wpAny _ _ (typeLookup (.ref C) "__getattr__") _ _ _;refine L2.at ?_;refine BJ<|JF<|CJ ?_;rw[BL<|by decide];rw[f3];refine BJ<|BK ?_;refine RD<|PJ F.attr_ValueError.ga.plain F.entry_bexc_ga ?_;have hk:builtinKind "BaseException.__getattribute__" = some .slot:=by decide +kernel
 have dD:splitId "BaseException.__getattribute__" = some ("BaseException","__getattribute__"):=by decide +kernel
 have ha:=F.args_bexc_ga (.ref a)<|.str "__class__" t;simp only[checkBuiltinCall,hk,dD];refine BJ ?_;unfold isInstance;have LB:Looks (model prog w) hh (isSubtype (.ref C)<|.type "BaseException") true:=L5
 repeat lk
 have hid:(toString "getset_descriptor"++toString "."++toString (Str.ofString "__get__").toString:String) = "getset_descriptor.__get__":=by decide +kernel
 rw[hid];refine wpAny_run (c:= .call (.builtin "getset_descriptor.__get__") ⟨[.builtin "object.__class__",.ref a,.ref C],[]⟩) (h:=none) ?_;refine class_get (s:=⟨hh,g,d,t+1,os⟩) (K:=K) X I h4 ?_
 repeat lk
 exact hq
def Td(q:nj K C=true):KitX K (.ref a) (.ref C) (λh=>∃ o,InstAt h a o C none) where
 ty:=λ_ _ _ ⟨_,I⟩=>I.type
 it:=λ_ _ X _=>by
  unfold nj at q;rw[Bn]at q;have z:=q.2;unfold clsIn at z
  split at z
  ·rename_i ho;intro A' Q' E' s' k r;unfold isType loadHead;exact BJ<|wpAny_loadPart (k _ _<|X _ _ ho)<|BK r
  ·cases z
 ne:=λh tp dd its n sl X Ka=>by
  unfold nj at q;rw[Bn]at q;have z:=q.2;refine Dy.mpr λy=>?_;have e:C=tp:=Value.ref.inj<|beq_iff_eq.mp y;subst e;unfold clsIn at z
  split at z
  ·rename_i ho;cases (X _ _ ho).symm.trans Ka
  ·cases z
 ca:=λX ⟨_,I⟩ k=>q0b X I q k
end
end L2
namespace L2
open PySem PySem.Spec PyProof.Rows
def Te{h:Heap}{ea C:Addr}{oe:Obj}(he:h.get? ea=some oe)(x:wt oe<|.ref C):PySem.W.InstAt h ea oe C none:=by
 obtain⟨vs,hd,_⟩:=x.data;refine⟨he,x.cls,?_,?_⟩
 ·unfold PySem.W.notCls;rw[hd]
 ·rw[x.dict];exact True.intro
def k9e{X:Cx}:eZ X (.builtin "isinstance") (λxs H Q=>∃ ea C oe c v b,xs=[.ref ea,v]/\(∀ u,RelV v u->u=c)/\H ea=some (XO oe)/\wt oe (.ref C)/\nj X.K C=true/\PySem.W.kitOne X.K (.ref C) c=some b/\Q (.bl b) H):=by
 intro pins s σ H xs us Q I r h;obtain⟨ea,C,oe,c,v,b,rfl,hv,hH,ix,hl,e,q⟩:=h;obtain⟨u,w',rfl,ru,d9⟩:=vals2 r;cases (show u=Value.ref ea from ru);cases hv _ d9;have he:s.heap.get? ea=some oe:=(show aB X.prog X.w H s.heap ea (XO oe)from I.aE ea _ hH).1;exact DX (Td hl) I.dL ⟨oe,Te he ix⟩ e (λz=>nomatch z) λtk=>⟨.bl b,H,I.tok tk,rfl,q⟩
section
variable{prog:Program}{w:World}{A:Around}{E:Ï}{s:Shared}
end
open bA
section
variable{X:Cx}{a b e:Expr}{es:Õ}{σ:St}{H:Hp}{Q:VK}{pos p kp cp:Pos}{j:Nat}
def k5i:eZ X (.builtin "isinstance") (λxs H Q=>∃ ea C oe tp Kb vs b,xs=[.ref ea,.ref tp]/\H tp=some (.tup Kb)/\(∀ us,ay Kb us->us=vs)/\H ea=some (XO oe)/\wt oe (.ref C)/\nj X.K C=true/\PySem.W.kitAny X.K (.ref C) vs=some b/\Q (.bl b) H):=by
 intro pins s σ H xs us Q I r h;obtain⟨ea,C,oe,tp,Kb,vs,b,rfl,Ka,hv,hH,ix,hl,e,q⟩:=h;obtain⟨u,w',rfl,ru,d9⟩:=vals2 r;cases (show u=Value.ref ea from ru);cases (show w'=Value.ref tp from d9);obtain⟨its,r2,pl,_⟩:=I.tuple<|aJ.of Ka;obtain rfl:=hv its r2;obtain⟨o,ho,hc,n,hd⟩:=pl;obtain⟨oc,od,oda,jO⟩:=o;have hc:oc=_:=hc;have hd:oda=_:=hd;subst hc hd;have he:s.heap.get? ea=some oe:=(show aB X.prog X.w H s.heap ea (XO oe)from I.aE ea _ hH).1;exact PySem.W.kia_tup (Td hl) I.dL ⟨oe,Te he ix⟩ ho e (λz=>nomatch z) λtk=>⟨.bl b,H,I.tok tk,rfl,q⟩
end
end L2
namespace L2
open PySem PySem.Spec PyProof.Rows bF
section
variable{X:Cx}{elt t1 i1 t2 i2 t3 i3:Expr}{f1 f2 f3:Õ}{scope:Scope}{pos:Pos}{σ:St}{H:Hp}{acc:Value}{env:Env}
end
section
variable{X:Cx}{tg:Expr}{ifs:Õ}{inner:Sem Unit}{σ:St}{H:Hp}{a:Addr}{xs:List V}{after:St->Hp->Prop}
end
section
variable{X:Cx}{σ:St}{H:Hp}{Q:VK}
end
end L2
namespace Nt
open PySem L2 Classical
def iR{α:Type}(k:Nat)(w:List α):List α:=au<|w.drop k
def fI(k:Nat):Nat->List (List End)->List (Nat×End)
 | _,[]=>[]
 | m,w :: ws=>((iR k w).map λe=>(m,e))++fI k (m+1) ws
def iS(k:Nat)(ws:List<|List End):List (Nat×End):=fI k 0 ws
theorem Tg(k:Nat):∀(m:Nat) (ws:List<|List End),(fI k m ws).map (·.2)=ws.flatMap (iR k)
 | m,[]=>rfl
 | m,w :: ws=>by
  unfold fI;rw[Ak,Tg k (m+1) ws,Cd,Cf]
  congr 1
  exact List.map_id' _
def Kc{n:Net}{e:End}:iR 1 (walker n e)=(au<|walker n e).map (go 1 n):=by
 unfold walker iR;have l:=qb n e<|uP n e;apply Ds;intro i;rw[Ai,p8,p8,QM]
 by_cases h:i < uP n e
 ·rw[show 1+2 * i=2 * i+1 by omega,yI n e _ i h,qd n e _ i h];rfl
 ·rw[Bf (by omega),Bf<|by omega];rfl
theorem Ti{n:Net}:∀{ws:List (List End)},(∀ w∈ws,∃ e,e∈ends n/\w=walker n e)->ws.flatMap (iR 1)=(ws.flatMap au).map (go 1 n)
 | [],_=>rfl
 | w :: ws,h=>by
  obtain⟨e,_,rfl⟩:=h w<|Ae ..;rw[Cf,Cf,Ak,Kc,Ti λv hv=>h v<|Ah _ hv]
theorem Tj{n:Net}(T:aw n){k:Nat}(hk:k<=1):((iS k<|bd n).map λp=>aF n p.2).Perm (((bd n).flatMap au).map<|aF n):=by
 have e:((iS k<|bd n).map λp=>aF n p.2)=((bd n).flatMap<|iR k).map (aF n):=by
  unfold iS;rw[<- Tg k 0<|bd n,Cd];rfl
 rw[e]
 match k,hk with
 | 0,_=>exact List.Perm.refl _
 | 1,_=>
  rw[Ti (qK T).wk,Cd];exact SU T
def k93{n:Net}(T:aw n){k:Nat}(hk:k<=1):((iS k<|bd n).map λp=>aF n p.2).Nodup:=(Tj T hk).nodup_iff.mpr (qK T).nd
def q4r{n:Net}(T:aw n){k:Nat}(hk:k<=1){z:Str}:z∈((iS k<|bd n).map λp=>aF n p.2)↔z∈ag n:=by
 rw[(Tj T hk).mem_iff];refine⟨λh=>?_,λh=>De.mp<|by rw[Jw T h];exact Fh⟩;obtain⟨x,hx,rfl⟩:=Al.mp h;obtain⟨y,hy⟩:=af.mp ((qK T).new x hx).1;rw[fD hy];exact eU hy
noncomputable def eX(n:Net)(k:Nat)(z:Str):List (Nat×End):=(iS k<|bd n).filter λp=>decide (aF n p.2=z)
theorem Tl{α:Type}{f:α->Str}:∀{l:List α},(l.map f).Nodup->∀{p:α},p∈l->(l.filter λx=>decide (f x=f p))=[p]
 | a :: l,hn,p,hp=>by
  rw[Bi,Bc]at hn;rw[Db]
  by_cases h:f a=f p
  ·rw[BP<|BW h];have e:a=p:=by
    rcases Aj.mp hp with q | q
    ·exact q.symm
    ·exact absurd (by rw[h];exact Al.mpr ⟨p,q,rfl⟩) hn.1
   subst e
   congr 1
   rw[Gd];intro x hx q;exact hn.1<|by rw[<- BX q];exact Al.mpr ⟨x,hx,rfl⟩
  ·rw[BL λq=>h<|BX q]
   rcases Aj.mp hp with q | q
   ·exact absurd (by rw[q]) h
   ·exact Tl hn.2 q
def To{n:Net}(T:aw n){k:Nat}(hk:k<=1){z:Str}(hz:z∈ag n):∃ p,p∈iS k (bd n)/\aF n p.2=z/\eX n k z=[p]:=by
 obtain⟨p,hp,rfl⟩:=Al.mp<|(q4r T hk).mpr hz;exact⟨p,hp,rfl,Tl (k93 T hk) hp⟩
theorem Kd{n:Net}(T:aw n):∀(es:List End) (told:Ò),(∀ e∈es,e∈ends n)->∀(i:Nat) w,(dX n es told)[i]?=some w ->
  ∃ e l r,es=l++e :: r/\(∀ x∈l,aF n x∈told++(((dX n es told).take i).flatMap au).map (aF n))/\aF n e∉told++(((dX n es told).take i).flatMap au).map (aF n)/\w=walker n e
 | [],told,_,i,w,h=>by simp[dX]at h
 | e :: r,told,hE,i,w,h=>by
  have hr:∀ a∈r,a∈ends n:=λa ha=>hE a<|Ah _ ha;unfold dX at h ⊢
  by_cases c:aF n e∈told
  ·rw[BP c]at h ⊢;obtain⟨x,l,r',h1,h2,h3,h4⟩:=Kd T r told hr i w h;refine⟨x,e :: l,r',by rw[h1];rfl,λy hy=>?_,h3,h4⟩
   rcases Aj.mp hy with q | q
   ·rw[q];exact Ba _ c
   ·exact h2 y q
  ·rw[BL c]at h ⊢
   match i with
   | 0=>
    cases h;refine⟨e,[],r,rfl,λy hy=>(nomatch hy),?_,rfl⟩
    simpa using c
   | i+1=>
    obtain⟨x,l,r',h1,h2,h3,h4⟩:=Kd T r (told++(au<|walker n e).map (aF n)) hr i w h;have eq:(told++(((walker n e :: dX n r (told++(au<|walker n e).map (aF n))).take<|i+1).flatMap au).map (aF n))=(told++(au<|walker n e).map (aF n))++(((dX n r<|told++(au<|walker n e).map (aF n)).take i).flatMap au).map (aF n):=by
     rw[List.take_succ_cons,Cf,Ak,Ar]
    rw[eq];refine⟨x,e :: l,r',by rw[h1];rfl,λy hy=>?_,h3,h4⟩
    rcases Aj.mp hy with q | q
    ·rw[q];refine Ba _<|Ax _<|Al.mpr ⟨e,?_,rfl⟩;exact(lz T<|hE e<|Ae ..).mpr ⟨0,rfl⟩
    ·exact h2 y q
noncomputable def Tq(n:Net)(i:Nat):Ò:=(((bd n).take i).flatMap au).map<|aF n
def k7p{n:Net}(T:aw n){i:Nat}{w:List End}(h:(bd n)[i]?=some w):∃ e l r,ends n=l++e :: r/\(∀ x∈l,aF n x∈Tq n i)/\aF n e∉Tq n i/\w=walker n e:=by
 obtain⟨e,l,r,h1,h2,h3,h4⟩:=Kd T (ends n) [] (λ_ h=>h) i w h;exact⟨e,l,r,h1,h2,h3,h4⟩
def k27{n:Net}(T:aw n){e:End}(h:e∈ends n):(walker n e)[0]?=some e:=by
 obtain⟨k,p,_⟩:=sw T h;unfold walker;rw[uQ p];have:=qd n e k 0 p.pos;exact this
structure g6(n:Net)(s:Str->Bool)(c:Nat->Bool)(χ:End->Bool):Prop where
 face:aZ n s χ
 cut:∀ e z,aI n e=some z->s z=(c e.1 ^^ c (other n e).1)
def jn(n:Net)(c:Nat->Bool)(χ:End->Bool)(x:End):Bool:=c x.1 ^^ χ (other n x)
def tq(c:Nat->Bool)(χ:End->Bool)(y:End):Bool:=c y.1 ^^ χ y
section
variable{n:Net}{s:Str->Bool}{c:Nat->Bool}{χ:End->Bool}
def g6.odd(T:aw n)(D:g6 n s c χ){x:End}(hx:x∈ends n):tq c χ (go 1 n x)=jn n c χ x:=by
 obtain⟨z,hz⟩:=af.mp hx;have h1:=D.face.go x hx;rw[P7 T hx]at h1;have h2:=D.face.de x z hz;have h3:=D.cut x z hz;unfold tq jn;rw[h1,show(go 1 n x).1=(other n x).1 from rfl];rw[h2]at h3
 revert h3
 cases χ x <;> cases χ (other n x) <;> cases c x.1 <;> cases c (other n x).1 <;> simp
def g6.even(T:aw n)(D:g6 n s c χ){y:End}(hy:y∈ends n):jn n c χ (go (-1) n y)=tq c χ y:=by
 obtain⟨z,hz⟩:=af.mp hy;have h1:=D.face.go _<|db T<|gD T hy (c:=-1);rw[Sw T hy]at h1;have h2:=D.face.de y z hz;have h3:=D.cut y z hz;unfold tq jn;rw[<- h1,show(go (-1) n y).1=(other n y).1 from rfl];rw[h2]at h3
 revert h3
 cases χ y <;> cases χ (other n y) <;> cases c y.1 <;> cases c (other n y).1 <;> simp
def g6.two(T:aw n)(D:g6 n s c χ){x:End}(hx:x∈ends n):jn n c χ (Nt.two n x)=jn n c χ x:=by
 rw[show Nt.two n x=go (-1) n (go 1 n x)from rfl,D.even T<|gD T hx,D.odd T hx]
theorem g6.it(T:aw n)(D:g6 n s c χ){x:End}(hx:x∈ends n):∀ k,jn n c χ (Nt.it (Nt.two n) k x)=jn n c χ x
 | 0=>rfl
 | k+1=>by
  show jn n c χ (Nt.two n<|Nt.it (Nt.two n) k x)=_;rw[D.two T<|jF T hx k,D.it T hx k]
theorem Tr(k:Nat):∀(m:Nat) (ws:List<|List End) {i:Nat} {e:End},(i,e)∈fI k m ws->∃ j w,ws[j]?=some w/\i=m+j/\e∈iR k w
 | m,[],i,e,h=>by simp[fI]at h
 | m,w :: ws,i,e,h=>by
  unfold fI at h
  rcases Am.mp h with h | h
  ·obtain⟨x,hx,q⟩:=Al.mp h;cases q;exact⟨0,w,rfl,rfl,hx⟩
  ·obtain⟨j,v,h1,h2,h3⟩:=Tr k (m+1) ws h;exact⟨j+1,v,h1,by omega,h3⟩
def Ke{k:Nat}{ws:List (List End)}{i:Nat}{e:End}(h:(i,e)∈iS k ws):∃ w,ws[i]?=some w/\e∈iR k w:=by
 obtain⟨j,w,h1,h2,h3⟩:=Tr k 0 ws h;rw[Ey]at h2;subst h2;exact⟨w,h1,h3⟩
noncomputable def jo(n:Net)(c:Nat->Bool)(χ:End->Bool)(i:Nat):Bool:=match (bd n)[i]? with
 | some (e :: _)=>jn n c χ e
 | _=>false
theorem Ts(T:aw n){i:Nat}{e:End}(he:e∈ends n)(h:(bd n)[i]?=some (walker n e)):jo n c χ i=jn n c χ e:=by
 have h0:=k27 T he;unfold jo;rw[h];cases hw:walker n e with
 | nil=>rw[hw]at h0;cases h0
 | cons a l=>rw[hw]at h0;cases h0;rfl
def Kf(T:aw n){i:Nat}{w:List End}(h:(bd n)[i]?=some w):∃ e,e∈ends n/\w=walker n e:=by
 obtain⟨e,l,r,heq,_,_,hw⟩:=k7p T h;exact⟨e,by rw[heq];simp,hw⟩
def g6.jR(T:aw n)(D:g6 n s c χ){i:Nat}{x:End}(h:(i,x)∈iS 0 (bd n)):x∈ends n/\jn n c χ x=jo n c χ i:=by
 obtain⟨w,hw,hx⟩:=Ke h;obtain⟨e,he,rfl⟩:=Kf T hw;have hx:x∈dv n e:=hx;obtain⟨k,rfl⟩:=(lz T he).mp hx;rw[Ts T he hw];exact⟨jF T he k,D.it T he k⟩
def g6.wA(T:aw n)(D:g6 n s c χ){i:Nat}{y:End}(h:(i,y)∈iS 1 (bd n)):y∈ends n/\tq c χ y=jo n c χ i:=by
 obtain⟨w,hw,hy⟩:=Ke h;obtain⟨e,he,rfl⟩:=Kf T hw;rw[Kc]at hy;obtain⟨x,hx,rfl⟩:=Al.mp hy;have hx:x∈dv n e:=hx;obtain⟨k,rfl⟩:=(lz T he).mp hx;rw[Ts T he hw];have:=jF T he k;exact⟨gD T this,by rw[D.odd T this,D.it T he k]⟩
def g6.de(T:aw n)(D:g6 n s c χ){p q:Nat×End}(hp:p∈iS 0 (bd n))(hq:q∈iS 1 (bd n))(h:aF n p.2=aF n q.2):s (aF n p.2)=(jo n c χ p.1 ^^ jo n c χ q.1):=by
 obtain⟨i,x⟩:=p;obtain⟨j,y⟩:=q;obtain⟨hx,e1⟩:=D.jR T hp;obtain⟨hy,e2⟩:=D.wA T hq;show s (aF n x)=(jo n c χ i ^^ jo n c χ j);obtain⟨z,hz⟩:=af.mp hx;have h2:=D.face.de x z hz;have h3:=D.cut x z hz;rw[<- e1,<- e2,fD hz];unfold jn tq
 rcases zF T hx hy h with k | k
 ·subst k;rw[h2];cases χ y <;> cases χ (other n y) <;> cases c y.1 <;> rfl
 ·subst k;rw[h3];cases χ (other n x) <;> cases c x.1 <;> cases c (other n x).1 <;> rfl
end
def q4h{α:Type}(k:Nat):iR k ([]:List α)=[]:=by unfold iR;rw[List.drop_nil];rfl
theorem Tv(k i:Nat):∀(m:Nat) (ws:List<|List End),((fI k m ws).filter λp=>decide (p.1=i))=if m<=i then((iR k<|ws[i - m]?.getD []).map λe=>(i,e))else []
 | m,[]=>by
  rw[List.getElem?_nil];show []=if m<=i then((iR k ([]:List End)).map λe=>(i,e))else [];rw[q4h]
  split <;> rfl
 | m,w :: ws=>by
  unfold fI;rw[Cr,Tv k i (m+1) ws]
  by_cases h:m=i
  ·subst h;rw[BP<|An _,BL (by omega),Bg,VD];rw[Gu.mpr λa ha=>by obtain⟨x,_,rfl⟩:=Al.mp ha;exact BW rfl];rfl
  ·rw[Gd.mpr λa ha=>by obtain⟨x,_,rfl⟩:=Al.mp ha;exact λq=>h<|BX q,Fc]
   by_cases c:m<=i
   ·rw[BP c,BP (by omega),show i - m=(i - (m+1))+1 by omega];rfl
   ·rw[BL c,BL<|by omega]
theorem Tw{α:Type}(f:α->Str)(z:Str):∀ l:List α,(l.map f).count z=(l.filter λx=>decide (f x=z)).length
 | []=>rfl
 | a :: l=>by
  rw[Bi,Da,Tw f z l,Db]
  by_cases h:f a=z
  ·rw[BP (by rw[h];exact MF z),BP<|BW h,Ap]
  ·rw[BL (by rw[HJ];exact h),BL λq=>h<|BX q];rfl
def Tx{n:Net}{k:Nat}{z:Str}{p:Nat×End}(hp:eX n k z=[p]){i:Nat}{w:List End}(hw:(bd n)[i]?=some w):((iR k w).map<|aF n).count z=if p.1=i then 1 else 0:=by
 have h1:=Tv k i 0<|bd n;rw[BP<|Bz _,VB,hw]at h1;have h1:(iS k<|bd n).filter (λp=>decide (p.1=i))=(iR k w).map λe=>(i,e):=h1;have h2:(((iS k<|bd n).filter λp=>decide (p.1=i)).filter λp=>decide (aF n p.2=z))=(eX n k z).filter λp=>decide (p.1=i):=by
  unfold eX;rw[List.filter_filter,List.filter_filter]
  congr 1
  funext p
  exact Fs ..
 rw[h1,hp,List.filter_map]at h2;have h3:=BZ List.length h2;rw[Aa]at h3;rw[Tw];refine Eq.trans h3 ?_;rw[Db]
 by_cases c:p.1=i
 ·rw[BP<|BW c,BP c];rfl
 ·rw[BL λq=>c<|BX q,BL c];rfl
def q0w{n:Net}(T:aw n){z:Str}{p q:Nat×End}(hp:eX n 0 z=[p])(hq:eX n 1 z=[q]){i:Nat}{w:List End}(hw:(bd n)[i]?=some w):cz n w z=(decide (p.1=i) ^^ decide (q.1=i)):=by
 obtain⟨e,he,rfl⟩:=Kf T hw;have c0:=Tx hp hw;have c1:=Tx hq hw;rw[Kc,Cd]at c1;have c0:((dv n e).map<|aF n).count z=_:=c0;have c1:((dv n e).map λx=>aF n<|go 1 n x).count z=_:=c1;unfold cz;rw[(SK T he).count_eq,Ep,c0,c1]
 by_cases a:p.1=i <;> by_cases b:q.1=i <;> simp[a,b]
theorem Tz{m a:Nat}(h:a < m)(f:Nat->Bool):ao ((List.range m).map λi=>f i && decide (a=i))=f a:=by
 induction m with
 | zero=>omega
 | succ m ih=>
  rw[Do,Ak,mP];show(_ ^^ ((f m && decide (a=m)) ^^ false))=_;rw[Fk]
  by_cases c:a=m
  ·subst c;have:ao ((List.range a).map λi=>f i && decide (a=i))=false:=by
    have e:((List.range a).map λi=>f i && decide (a=i))=(List.range a).map λ_=>false:=Ao λi hi=>by
     rw[BR (λq=>by have:=Bt.mp hi;omega),Gv]
    rw[e,iN]
   rw[this,BW rfl,Bool.and_true,Fj]
  ·rw[ih (by omega),BR c,Gv,Fk]
def k48{n:Net}(T:aw n)(ch:Nat->Bool){z:Str}{p q:Nat×End}(hp:eX n 0 z=[p])(hq:eX n 1 z=[q]) :
  ao ((List.range (bd n).length).map λi=>ch i && cz n ((bd n)[i]?.getD []) z)=(ch p.1 ^^ ch q.1):=by
 have lt:∀{k:Nat} {p:Nat×End},eX n k z=[p]->p.1 < (bd n).length:=λ{k p} h=>by
  have:p∈eX n k z:=by rw[h];exact Ad.mpr rfl
  obtain⟨w,hw,_⟩:=Ke (i:=p.1) (e:=p.2) (Bh.mp this).1;exact(Ac.mp hw).1
 have e:((List.range (bd n).length).map λi=>ch i && cz n ((bd n)[i]?.getD []) z)=(List.range (bd n).length).map λi=>(ch i && decide (p.1=i)) ^^ (ch i && decide (q.1=i)):=Ao λi hi=>by
  have hw:=Ab<|Bt.mp hi;have ho:=q0w T hp hq hw;rw[hw,Option.getD_some,ho];cases ch i <;> rfl
 rw[e,ic,Tz<|lt hp,Tz<|lt hq]
structure cD(n:Net)(cs:List<|List Str):Prop where
 len:cs.length=(bd n).length
 mem:∀(i:Nat) c w,cs[i]?=some c->(bd n)[i]?=some w->∀ z,z∈c↔(w.map<|aF n).count z=1
 oj:∀ c∈cs,b9 c
section
variable{n:Net}{cs:List Ò}{ss zs:Ò}{c:Nat->Bool}{χ:End->Bool}
def cD.at'(C:cD n cs)(T:aw n){i:Nat}(hi:i < (bd n).length){z:Str}(hz:z∈ag n):decide (z∈cs[i]?.getD [])=cz n ((bd n)[i]?.getD []) z:=by
 have h1:=Ab hi;have h2:=Ab (show i < cs.length by rw[C.len];exact hi);rw[h1,h2];exact Jz T (Bu hi) (C.mem i _ _ h2 h1) hz
theorem Kg{α:Type}(g f:α->Bool):∀ l:List α,ao ((l.filter g).map f)=ao (l.map λi=>g i && f i)
 | []=>rfl
 | a :: l=>by
  rw[Db];have ih:=Kg g f l;cases h:g a with
  | true=>
   rw[BP rfl];show(f a ^^ ao ((l.filter g).map f))=((g a && f a) ^^ ao (l.map λi=>g i && f i));rw[ih,h,Gy]
  | false=>
   rw[BL (by decide),ih];show _=((g a && f a) ^^ ao (l.map λi=>g i && f i));rw[h,TJ,Fj]
end
section
variable{n:Net}
end
abbrev cb(n:Net):Ò:=n.map (·.1)
noncomputable def bx(n:Net)(p:Str->Bool)(z:Str):Bool:=ao<|n.map λr=>p r.1 && decide (r.2.count z % 2=1)
noncomputable def lB(n:Net)(p s:Str->Bool):Bool:=ao<|n.map λr=>p r.1 && ao (r.2.map s)
noncomputable def pr(f:Str->Bool)(os:Ò):Bool:=ao<|os.map f
def Kh{α:Type}(b:Bool)(f:α->Bool)(l:List α):(b && ao (l.map f))=ao (l.map λx=>b && f x):=by
 cases b
 ·show false=ao (l.map λ_=>false);rw[iN]
 ·rfl
def Ki{α:Type}(b:Bool)(f:α->Bool)(l:List α):(ao (l.map f) && b)=ao (l.map λx=>f x && b):=by
 rw[Fs,Kh]
 congr 1
 exact Ao λx _=>Fs _ _
def Kj{n:Net}{Z:Ò}(hz:Z.Nodup)(hm:∀ z∈ag n,z∈Z)(p s:Str->Bool):lB n p s=bf Z (bx n p) s:=by
 unfold lB bf bx;have e:(Z.map λz=>ao (n.map λr=>p r.1 && decide (r.2.count z % 2=1)) && s z)=Z.map λz=>ao (n.map λr=>p r.1 && (s z && decide (r.2.count z % 2=1))):=Ao λz _=>by
  rw[Ki]
  congr 1
  refine Ao λr _=>?_;cases p r.1 <;> cases s z <;> simp
 rw[e,wj λz (r:Str×List Str)=>p r.1 && (s z && decide (r.2.count z % 2=1))]
 congr 1
 refine Ao λr hr=>?_;rw[<- Kh]
 congr 1
 exact(Jq (n:=n) hz λy hy=>hm y<|Gi.mpr ⟨r,hr,hy⟩).symm
def wB(Z:Ò)(s t:Str->Bool):bf Z s t=bf Z t s:=by
 unfold bf
 congr 1
 exact Ao λz _=>Fs _ _
def Kk{Z:Ò}{s s' t t':Str->Bool}(h:∀ z∈Z,s z=s' z)(k:∀ z∈Z,t z=t' z):bf Z s t=bf Z s' t':=by
 unfold bf
 congr 1
 exact Ao λz hz=>by rw[h z hz,k z hz]
def sym{n:Net}(p q:Str->Bool):lB n p (bx n q)=lB n q (bx n p):=by
 obtain⟨Z,hs,hm⟩:=qg<|ag n;rw[Kj (jA hs) λz hz=>(hm z).mpr hz,Kj (jA hs) λz hz=>(hm z).mpr hz,wB]
def k9n{c:Ò}(h:c.Nodup)(z:Str):decide (c.count z % 2=1)=decide (z∈c):=by
 by_cases k:z∈c
 ·have:c.count z=1:=Nat.le_antisymm (Go.mp h z)<|De.mpr k;rw[this,BW k];rfl
 ·rw[Ex k,BR k];rfl
def wC{Z c:Ò}(hz:Z.Nodup)(hc:c.Nodup)(hm:∀ z∈c,z∈Z)(f:Str->Bool):pr f c=bf Z f (λz=>decide (z∈c)):=by
 unfold pr;rw[<- Jq (n:=[]) hz hm];exact Kk (λ_ _=>rfl) λz _=>k9n hc z
abbrev jG(a b c:Ò):Prop:=∀ z,z∈c↔(if z∈a then z∉b else z∈b)
def zL{a b c:Ò}(h:jG a b c)(z:Str):decide (z∈c)=(decide (z∈a) ^^ decide (z∈b)):=by
 have:=h z
 by_cases x:z∈a <;> by_cases y:z∈b <;> simp[x,y]at this <;> simp[x,y,this]
def q9i{a b c:Ò}(ha:a.Nodup)(hb:b.Nodup)(hc:c.Nodup)(h:jG a b c)(f:Str->Bool):pr f c=(pr f a ^^ pr f b):=by
 obtain⟨Z,hs,hm⟩:=qg<|a++b;have nz:=jA hs;rw[wC nz ha λz hz=>(hm z).mpr<|Am.mpr<|.inl hz,wC nz hb λz hz=>(hm z).mpr<|Am.mpr<|.inr hz,
  wC nz hc (λz hz=>(hm z).mpr (by
   have:=(h z).mp hz;rw[Am]
   by_cases k:z∈a
   ·exact .inl k
   ·rw[BL k]at this;exact .inr this))]
 rw[wB Z f,wB Z f,wB Z f,<- Jp];exact Kk (λz _=>zL h z) λ_ _=>rfl
noncomputable def cA(s:Str->Bool)(r:Str×List Str):Bool:=ao<|r.2.map s
def cS(n:Net)(s:Str->Bool)(os:Ò):Prop:=os.Perm ((n.filter<|cA s).map (·.1))
def cS.pr{n:Net}{s:Str->Bool}{os:Ò}(h:cS n s os)(f:Str->Bool):pr f os=lB n f s:=by
 unfold Nt.pr lB;rw[Qi<|h.map f,Cd,Kg]
 congr 1
 exact Ao λr _=>Fs _ _
def cS.nd{n:Net}{s:Str->Bool}{os:Ò}(h:cS n s os)(hN:(cb n).Nodup):os.Nodup:=h.nodup_iff.mpr<|hN.sublist<|List.filter_sublist.map _
def cS.sub{n:Net}{s:Str->Bool}{os:Ò}(h:cS n s os):∀ x∈os,x∈cb n:=λx hx=>by
 obtain⟨r,hr,rfl⟩:=Al.mp<|h.mem_iff.mp hx;exact Al.mpr ⟨r,(Bh.mp hr).1,rfl⟩
def TB{n:Net}(hN:(cb n).Nodup){r q:Str×List Str}(hr:r∈n)(hq:q∈n)(h:r.1=q.1):r=q:=Jx hN r hr q hq h
def cS.mem{n:Net}{s:Str->Bool}{os:Ò}(h:cS n s os)(hN:(cb n).Nodup){r:Str×List Str}(hr:r∈n):decide (r.1∈os)=cA s r:=by
 cases k:cA s r
 ·refine BR λhx=>?_;obtain⟨q,hq,e⟩:=Al.mp<|h.mem_iff.mp hx;obtain⟨q1,q2⟩:=Bh.mp hq;rw[TB hN q1 hr e,k]at q2;cases q2
 ·exact BW<|h.mem_iff.mpr<|Al.mpr ⟨r,Bh.mpr ⟨hr,k⟩,rfl⟩
def q5a{n:Net}(hN:(cb n).Nodup){r:Str×List Str}(hr:r∈n)(s:Str->Bool):lB n (λx=>decide (x=r.1)) s=cA s r:=by
 unfold lB;have e:(n.map λq=>decide (q.1=r.1) && ao (q.2.map s))=n.map λq=>decide (q=r) && ao (r.2.map s):=Ao λq hq=>by
  by_cases k:q.1=r.1
  ·rw[TB hN hq hr k,BW rfl,BW rfl]
  ·rw[BR k,BR λe=>k<|by rw[e]];rfl
 rw[e,<- Ki];have one:∀{l:List (Str×List Str)},l.Nodup->r∈l->ao (l.map λq=>decide (q=r))=true:=by
  intro l
  induction l with
  | nil=>intro _ h;cases h
  | cons a l ih=>
   intro nd h;have sy:=Bc.mp nd;show(decide (a=r) ^^ ao (l.map _))=true
   by_cases k:a=r
   ·have:(l.map λq=>decide (q=r))=l.map λ_=>false:=Ao λq hq=>BR λe=>sy.1 (by rw[k,<- e];exact hq);rw[this,iN,BW k];rfl
   ·rw[BR k,ih sy.2<|by rcases Aj.mp h with e | e;exact absurd e.symm k;exact e];rfl
 rw[one (Jy hN) hr];rfl
noncomputable def ci(n:Net)(ps:Ò)(r:Str×List Str):Bool:=cA (bx n λy=>decide (y∈ps)) r
def q1u(n:Net)(p q:Str->Bool)(z:Str):bx n (λy=>p y ^^ q y) z=(bx n p z ^^ bx n q z):=by
 unfold bx;rw[<- ic]
 congr 1
 refine Ao λr _=>?_;show((p r.1 ^^ q r.1) && decide (r.2.count z % 2=1))=_;generalize decide (r.2.count z % 2=1)=c;generalize p r.1=a;generalize q r.1=b;cases a <;> cases b <;> cases c <;> rfl
def q2e{n:Net}{a b c:Ò}(h:jG a b c)(r:Str×List Str):ci n c r=(ci n a r ^^ ci n b r):=by
 unfold ci cA;rw[<- ic]
 congr 1
 refine Ao λz _=>?_;rw[<- q1u]
 congr 1
 funext y
 exact zL h y
def Kl{n:Net}(T:aw n)(ps:Ò)(z:Str):bx n (λy=>decide (y∈ps)) z=decide (dq n ps z):=by
 have h:=q6t T ps z;rw[decide_eq_decide.mpr h];unfold bx;rw[wg];have fl:∀ l:Net,ao ((ag l).map λy=>decide (z=y))=ao (l.map λr=>decide (r.2.count z % 2=1)):=by
  intro l
  induction l with
  | nil=>rfl
  | cons a l ih=>
   show ao ((a.2++ag l).map _)=(_ ^^ ao (l.map _));rw[Ak,mP,ih,<- wg]
 rw[fl,Kg]
abbrev cT:=List<|List Str×List Str
structure Km(n:Net)(st:cT):Prop where
 ne:∀ s∈st,s.2≠[]
 nd:∀ s∈st,s.1.Nodup/\s.2.Nodup
 sub:∀ s∈st,(∀ x∈s.1,x∈cb n)/\∀ x∈s.2,x∈cb n
 im:∀ s∈st,∀ r∈n,ci n s.1 r=decide (r.1∈s.2)
 Kn:st.Pairwise λa b=>∀ p,a.2.head?=some p->p∉b.2
structure gK(n:Net)(st:cT)(ps os cE bW:Ò):Prop where
 nd:cE.Nodup/\bW.Nodup
 sub:(∀ x∈cE,x∈cb n)/\∀ x∈bW,x∈cb n
 fn:∀ f:Str->Bool,(∀ s∈st,pr f s.2=false)->pr f bW=pr f os
 zM:∀ s∈st,∀ p,s.2.head?=some p->p∉bW
 im:∀ r∈n,(decide (r.1∈bW) ^^ ci n cE r)=(decide (r.1∈os) ^^ ci n ps r)
def gK.start{n:Net}{ps os:Ò}(h1:ps.Nodup)(h2:os.Nodup)(h3:∀ x∈ps,x∈cb n)(h4:∀ x∈os,x∈cb n):gK n [] ps os ps os:=⟨⟨h1,h2⟩,⟨h3,h4⟩,λ_ _=>rfl,λs h=>(by cases h),λ_ _=>rfl⟩
def wD{α:Type}{l:List α}{i:Nat}{a:α}(h:l[i]?=some a):l.take (i+1)=l.take i++[a]:=by rw[Ck,h];rfl
def gK.skip{n:Net}{st:cT}{i:Nat}{s:List Str×List Str}{ps os cE bW:Ò}(h:gK n (st.take i) ps os cE bW)(hs:st[i]?=some s){p:Str}(hp:s.2.head?=some p)(hn:p∉bW):gK n (st.take<|i+1) ps os cE bW:=by
 rw[wD hs];refine⟨h.nd,h.sub,λf hf=>h.fn f λs hs=>hf s<|Am.mpr<|.inl hs,λt ht q hq=>?_,h.im⟩
 rcases Am.mp ht with k | k
 ·exact h.zM t k q hq
 ·rw[Ad.mp k,hp]at hq;cases hq;exact hn
theorem TC{l:Ò}{p:Str}(h:l.head?=some p):p∈l:=by
 cases l with
 | nil=>cases h
 | cons a l=>cases h;exact Ae
def gK.step{n:Net}{st:cT}(I:Km n st){i:Nat}{s:List Str×List Str}{ps os cE bW p2 o2:Ò}(h:gK n (st.take i) ps os cE bW)(hs:st[i]?=some s){p:Str}(hp:s.2.head?=some p)(hn:p∈bW)
  (n1:p2.Nodup) (n2:o2.Nodup) (x1:jG cE s.1 p2) (x2:jG bW s.2 o2):gK n (st.take<|i+1) ps os p2 o2:=by
 have iO:=Au hs;have my:=(Ac.mp hs).1;rw[wD hs];have un:∀{a b c:Ò},jG a b c->(∀ x∈a,x∈cb n)->(∀ x∈b,x∈cb n)->∀ x∈c,x∈cb n:=λ{a b c} X ha hb x hx=>by
  have:=(X x).mp hx
  by_cases k:x∈a
  ·exact ha x k
  ·rw[BL k]at this;exact hb x this
 refine⟨⟨n1,n2⟩,⟨un x1 h.sub.1 (I.sub s iO).1,un x2 h.sub.2 (I.sub s iO).2⟩,λf hf=>?_,λt ht q hq=>?_,λr hr=>?_⟩
 ·rw[q9i h.nd.2 (I.nd s iO).2 n2 x2,hf s<|Am.mpr<|.inr<|Ad.mpr rfl,Fk];exact h.fn f λs hs=>hf s<|Am.mpr<|.inl hs
 ·rw[x2 q]
  rcases Am.mp ht with k | k
  ·rw[BL<|h.zM t k q hq];obtain⟨j,hj⟩:=Br k;have lh:=(Ac.mp hj).1;rw[Bk]at lh;have fO:st[j]?=some t:=by rw[Dm<|by omega]at hj;exact hj
   have ej:=(Ac.mp fO).2;have ei:=(Ac.mp hs).2;have:=Bo.mp I.Kn j i (by omega) my (by omega);rw[ej,ei]at this;exact this q hq
  ·rw[Ad.mp k]at hq;rw[hp]at hq;cases hq;rw[BP hn];exact λk=>k<|TC hp
 ·rw[zL x2,q2e x1,I.im s iO r hr,<- h.im r hr];cases decide (r.1∈bW) <;> cases decide (r.1∈s.2) <;> cases ci n cE r <;> rfl
theorem TD:∀{st:cT},(∀ s∈st,s.2≠[])->(∀ s∈st,s.2.Nodup)->(st.Pairwise λa b=>∀ p,a.2.head?=some p->p∉b.2)->∀{o:Ò},o.Nodup->o≠[]->(∀ s∈st,∀ p,s.2.head?=some p->p∉o)->∃ f:Str->Bool,(∀ s∈st,pr f s.2=false)/\pr f o=true
 | [],_,_,_,o,nd,ne,_=>by
  cases o with
  | nil=>exact absurd rfl ne
  | cons a o=>
   refine⟨λx=>decide (x=a),λs h=>(by cases h),?_⟩;have:(o.map λx=>decide (x=a))=o.map λ_=>false:=Ao λx hx=>BR λe=>(Bc.mp nd).1 (by rw[<- e];exact hx);show(decide (a=a) ^^ ao (o.map λx=>decide (x=a)))=true;rw[this,iN,BW rfl];rfl
 | s :: st,h1,h2,h3,o,nd,ne,hp=>by
  obtain⟨f,f1,f2⟩:=TD (st:=st) (λt ht=>h1 t<|Ah _ ht) (λt ht=>h2 t<|Ah _ ht) (Cs.mp h3).2 nd ne λt ht=>hp t<|Ah _ ht;obtain⟨p,Ko⟩:∃ p,s.2.head?=some p:=by
   cases k:s.2 with
   | nil=>exact absurd k<|h1 s Ae
   | cons a l=>exact⟨a,rfl⟩
  have add:∀(l:Ò),l.Nodup->pr (λx=>f x ^^ decide (x=p)) l=(pr f l ^^ decide (p∈l)):=λl hl=>by
   show ao (l.map _)=_;rw[ic]
   congr 1
   have:=wC (Z:=l) hl hl (λ_ h=>h) λx=>decide (x=p);have e2:ao (l.map λx=>decide (x=p))=pr (λx=>decide (x=p)) l:=rfl
   by_cases k:p∈l
   ·rw[e2,this,zE hl k]
   ·rw[BR k];have:(l.map λx=>decide (x=p))=l.map λ_=>false:=Ao λx hx=>BR λe=>k (by rw[<- e];exact hx);rw[this,iN]
  cases k:pr f s.2
  ·refine⟨f,λt ht=>?_,f2⟩
   rcases Aj.mp ht with rfl | ht
   ·exact k
   ·exact f1 t ht
  ·refine⟨λx=>f x ^^ decide (x=p),λt ht=>?_,?_⟩
   ·rw[add _<|h2 t ht]
    rcases Aj.mp ht with rfl | ht
    ·rw[k,BW<|TC Ko];rfl
    ·rw[f1 t ht,BR<|(Cs.mp h3).1 t ht p Ko];rfl
   ·rw[add _ nd,f2,BR<|hp s Ae p Ko];rfl
structure jH(n:Net)(k:Nat)(st:cT):Prop where
 cj:Km n st
 len:st.length<=k
 span:∀ f:Str->Bool,(∀ s∈st,pr f s.2=false)->∀ x∈(cb n).take k,lB n f (bx n λy=>decide (y∈[x]))=false
def jH.start(n:Net):jH n 0 []:=⟨⟨λs h=>(by cases h),λs h=>(by cases h),λs h=>(by cases h),λs h=>(by cases h),List.Pairwise.nil⟩,An _,λf _ x hx=>(by rw[List.take_zero]at hx;cases hx)⟩
def q8q{n:Net}{x:Str}{st:cT}(hN:(cb n).Nodup){os cE bW:Ò}(hO:cS n (bx n λy=>decide (y∈[x])) os)(h:gK n st [x] os cE bW):∀ r∈n,ci n cE r=decide (r.1∈bW):=λr hr=>by
 have a:=h.im r hr;rw[hO.mem hN hr]at a;have:ci n [x] r=cA (bx n λy=>decide (y∈[x])) r:=rfl;rw[this,Bool.xor_self]at a
 revert a
 cases decide (r.1∈bW) <;> cases ci n cE r <;> simp
def jH.skip{n:Net}(hN:(cb n).Nodup){k:Nat}{st:cT}(I:jH n k st){x:Str}(hx:(cb n)[k]?=some x){os cE:Ò}(hO:cS n (bx n λy=>decide (y∈[x])) os)(h:gK n st [x] os cE []):jH n (k+1) st:=by
 refine⟨I.cj,Nat.le_succ_of_le I.len,λf hf y hy=>?_⟩;rw[wD hx]at hy
 rcases Am.mp hy with q | q
 ·exact I.span f hf y q
 ·rw[Ad.mp q,<- hO.pr,<- h.fn f hf];rfl
def jH.step{n:Net}(hN:(cb n).Nodup){k:Nat}{st:cT}(I:jH n k st){x:Str}(hx:(cb n)[k]?=some x){os cE bW:Ò}(hO:cS n (bx n λy=>decide (y∈[x])) os)(h:gK n st [x] os cE bW)(bn:bW≠[]):jH n (k+1) (st++[(cE,bW)]):=by
 have al:∀{P:List Str×List Str->Prop},(∀ s∈st,P s)->P (cE,bW)->∀ s∈st++[(cE,bW)],P s:=λ{P} a b s hs=>by
  rcases Am.mp hs with q | q
  ·exact a s q
  ·rw[Ad.mp q];exact b
 refine⟨⟨al I.cj.ne bn,al I.cj.nd h.nd,al I.cj.sub h.sub,al I.cj.im<|q8q hN hO h,?_⟩,by rw[Af];exact Nat.succ_le_succ I.len,λf hf y hy=>?_⟩
 ·rw[List.pairwise_append];refine⟨I.cj.Kn,Fy _ _,λa ha b hb p hp=>?_⟩;rw[Ad.mp hb];exact h.zM a ha p hp
 ·have TH:∀ s∈st,pr f s.2=false:=λs hs=>hf s<|Am.mpr<|.inl hs;rw[wD hx]at hy
  rcases Am.mp hy with q | q
  ·exact I.span f TH y q
  ·rw[Ad.mp q,<- hO.pr,<- h.fn f TH];exact hf (cE,bW)<|Am.mpr<|.inr<|Ad.mpr rfl
def nn(n:Net)(s:Str->Bool):Prop:=∀ f:Str->Bool,(∀ r∈n,cA (bx n f) r=false)->lB n f s=false
def jH.whole{n:Net}(hN:(cb n).Nodup){st:cT}(I:jH n n.length st){s:Str->Bool}(ho:nn n s){os cE bW:Ò}(hO:cS n s os)(h:gK n st [] os cE bW):∀ r∈n,ci n cE r=cA s r:=by
 have he:bW=[]:=by
  refine DK λbn=>?_;obtain⟨f,f1,f2⟩:=TD I.cj.ne (λs hs=>(I.cj.nd s hs).2) I.cj.Kn h.nd.2 bn h.zM;have hd:∀ r∈n,cA (bx n f) r=false:=λr hr=>by
   rw[<- q5a hN hr,sym];have:=I.span f f1 r.1 (by rw[Cq<|by rw[Aa];exact An _];exact Al.mpr ⟨r,hr,rfl⟩);have e:(λy=>decide (y∈[r.1]))=λy=>decide (y=r.1):=by
    funext y
    exact decide_eq_decide.mpr Ad
   rw[e]at this;exact this
  have:=ho f hd;rw[<- hO.pr,<- h.fn f f1,f2]at this;cases this
 subst he;intro r hr;have a:=h.im r hr;have z:ci n [] r=false:=by
  unfold ci cA bx;have:(r.2.map λz=>ao<|n.map λq=>decide (q.1∈([]:Ò)) && decide (q.2.count z % 2=1))=r.2.map λ_=>false:=Ao λz _=>by
   have:(n.map λq=>decide (q.1∈([]:Ò)) && decide (q.2.count z % 2=1))=n.map λ_=>false:=Ao λq _=>by
    rw[BR (λh=>by cases h),TJ]
   rw[this,iN]
  rw[this,iN]
 rw[z,hO.mem hN hr,Fk,BR (λh=>by cases h),Fj]at a;exact a
def q5d{n:Net}{i:Nat}(h:i < n.length):∃ r∈n,row n i=r.2:=⟨n[i],Bu h,by unfold row;rw[Ab h];rfl⟩
def q32{n:Net}(T:aw n)(hf:HF n){cs:List Ò}(C:cD n cs){s:Str->Bool}(h:∀ c∈cs,ao (c.map s)=false):nn n s:=λf hd=>by
 obtain⟨Z,hs,hm⟩:=qg<|ag n;have nz:=jA hs;have TL:∀ z∈ag n,z∈Z:=λz hz=>(hm z).mpr hz;rw[Kj nz TL];have ev:eG n (bx n f):=λi=>by
  by_cases hi:i < n.length
  ·obtain⟨r,hr,e⟩:=q5d hi;rw[e];exact hd r hr
  ·unfold row;rw[Bf<|by omega];rfl
 obtain⟨χ,hχ⟩:=hf.2.2 _ ev;have eY:∀ e z,aI n e=some z->bx n f z=(f (aH n e.1) ^^ f (aH n (other n e).1)):=λe z hz=>by
  have hp:∀ x∈cb n,decide (x∈(cb n).filter f)=f x:=λx hx=>by
   cases k:f x
   ·exact BR λq=>by rw[(Bh.mp q).2]at k;cases k
   ·exact BW<|Bh.mpr ⟨hx,k⟩
  have e1:bx n f z=bx n (λy=>decide (y∈(cb n).filter f)) z:=by
   unfold bx
   congr 1
   refine Ao λr hr=>?_;have:=hp r.1<|Al.mpr ⟨r,hr,rfl⟩;show(f r.1 && _)=(decide (r.1∈(cb n).filter f) && _);rw[<- this]
  have c:=mS T (ps:=(cb n).filter f) hz;rw[hp _<|jB<|cQ hz,hp _<|jB<|qe T hz]at c;rw[e1,Kl T,Cn,CK,c]
 have D:g6 n (bx n f) (λr=>f<|aH n r) χ:=⟨hχ,eY⟩;have e:∀ z∈Z,bx n f z=ao ((List.range (bd n).length).map λi=>jo n (λr=>f<|aH n r) χ i && cz n ((bd n)[i]?.getD []) z):=λz hz=>by
  have g5:=(hm z).mp hz;obtain⟨p,p1,p2,hpk⟩:=To T (k:=0) (by decide) g5;obtain⟨q,q1,q2,hqk⟩:=To T (k:=1) (by decide) g5;rw[k48 T _ hpk hqk,<- g6.de T D p1 q1<|p2.trans q2.symm,p2]
 rw[Kk e λ_ _=>rfl];unfold bf;have e2:(Z.map λz=>ao ((List.range (bd n).length).map λi=>jo n (λr=>f<|aH n r) χ i && cz n ((bd n)[i]?.getD []) z) && s z)=Z.map λz=>ao ((List.range (bd n).length).map λi=>jo n (λr=>f<|aH n r) χ i && (cz n ((bd n)[i]?.getD []) z && s z)):=Ao λz _=>by
  rw[Ki]
  congr 1
  exact Ao λi _=>Bool.and_assoc _ _ _
 rw[e2,wj λz i=>jo n (λr=>f<|aH n r) χ i && (cz n ((bd n)[i]?.getD []) z && s z)];have e3:((List.range (bd n).length).map λi=>ao<|Z.map λz=>jo n (λr=>f<|aH n r) χ i && (cz n ((bd n)[i]?.getD []) z && s z))=(List.range (bd n).length).map λ_=>false:=Ao λi hi=>by
  have hi:=Bt.mp hi;rw[<- Kh];have TR:=Ab (show i < cs.length by rw[C.len];exact hi);have gY:cs[i]'(by rw[C.len];exact hi)∈cs:=Bu _;have jI:=Ab hi;have a:=h _ gY;have nd:=jA<|C.oj _ gY;have xV:∀ z∈cs[i]'(by rw[C.len];exact hi),z∈ag n:=zI (λc hc=>(nX T (ends n) [] (λe he=>he) _<|Bu hi).ends c hc)<|C.mem i _ _ TR jI;have b:=wC nz nd (λz hz=>TL z<|xV z hz) s;have c:ao (Z.map λz=>cz n ((bd n)[i]?.getD []) z && s z)=bf Z s (λz=>decide (z∈cs[i]'(by rw[C.len];exact hi))):=by
   rw[wB];unfold bf
   congr 1
   refine Ao λz hz=>?_;rw[<- C.at' T hi<|(hm z).mp hz,TR,Option.getD_some]
  rw[c,<- b];show(_ && ao _)=false;rw[a,Gv]
 rw[e3,iN]
def k2e{n:Net}(T:aw n){ss ps cs rs:Ò}(h:∀ r∈n,ci n ps r=cA (λz=>decide (z∈ss)) r)(hc:∀ z,z∈cs↔dq n ps z)(hx:jG ss cs rs):eI n rs=true:=by
 refine gF.mpr λr hr=>?_;have a:=h r hr;unfold ci cA at a;have e:(r.2.map<|bx n λy=>decide (y∈ps))=r.2.map λz=>decide (z∈cs):=Ao λz _=>by rw[Kl T,decide_eq_decide.mpr<|hc z]
 rw[e]at a;have b:ao (r.2.map λz=>decide (z∈rs))=false:=by
  have:(r.2.map λz=>decide (z∈rs))=r.2.map λz=>decide (z∈ss) ^^ decide (z∈cs):=Ao λz _=>zL hx z;rw[this,ic,a,Bool.xor_self]
 have c:(r.2.filter λz=>rs.contains z)=r.2.filter λz=>decide (z∈rs):=by
  congr 1
  funext z
  rw[Cn,CK];exact Ce
 rw[c];rw[uZ]at b;have:=HS b;omega
def qP(n:Net)(ss:Ò):Prop:=∃ cs,cD n cs/\∀ c∈cs,(c.filter λz=>ss.contains z).length % 2=0
end Nt
namespace E6
open PySem L2 Nt bA bF
open PyProof.Rows (sortedS)
def zN:Sp:=λvs H Q _=>∃(R p:Addr) (as:Ð) (n:Net) (ps:Ò),vs=[.ref R,.ref p]/\ai H R as n/\aw n/\n.length<=60/\(ag n).length<=60/\H p=some (Ls ps) /\
 ∀(L:Addr) (cs:Ò) (H':Hp),aj H H'->H L=none->H' L=some (Ls cs)->b9 cs->(∀ z,z∈cs↔dq n ps z)->cs.length<=60->Q (.ref L) H'
def zO:Sp:=λvs H Q _=>∃(a b:Addr) (xs ys:Ò),vs=[.ref a,.ref b]/\H a=some (Ls xs)/\H b=some (Ls ys)/\xs.length+ys.length < 64 /\
 ∀ l ss H',aj H H'->H l=none->H' l=some (Ls ss)->sortedS ss=true->ss.Nodup->(∀ z,z∈ss↔(if z∈xs then z∉ys else z∈ys))->Q (.ref l) H'
def Kq:Sp:=λvs H Q _=>∃(R:Addr) (as:Ð) (n:Net),vs=[.ref R]/\ai H R as n/\n.length<=1000/\∀ L H',aj H H'->H L=none->H' L=some (Ls (n.map (·.1)))->Q (.ref L) H'
section
variable{P:Program}{w:World}{K:PySem.W.Frag}{mg:Ó}{base:Heap}
def wF(ps:Ò)(x:Lk):Bool:=decide (x.2.1∈ps) != decide (x.2.2∈ps)
def dB(ps:Ò)(ls:List Lk):Ò:=(ls.filter<|wF ps).map (·.1)
def q17{ps:Ò}{ls:List Lk}(h:zD ls):b9 (dB ps ls):=by
 unfold b9 dB;rw[Dz];exact h.sublist Gs
def q0i{n:Net}(T:aw n){ps:Ò}{ls:List Lk}(h:∀ x,x∈ls↔oh n x)(z:Str):z∈dB ps ls↔dq n ps z:=by
 unfold dB;rw[Al]
 constructor
 ·rintro ⟨x,hx,rfl⟩;rw[Bh]at hx;exact(yS T<|(h x).mp hx.1).mpr hx.2
 ·intro hc;obtain⟨e,he,_⟩:=id hc
  rcases q01 T he with q | q
  ·exact⟨_,Bh.mpr ⟨(h _).mpr q,(yS T q).mp hc⟩,rfl⟩
  ·exact⟨_,Bh.mpr ⟨(h _).mpr q,(yS T q).mp hc⟩,rfl⟩
def TU(ps:Ò)(ls:List Lk):(dB ps ls).length<=ls.length:=by
 unfold dB;rw[Aa];exact Dl _ _
def k8j(ps:Ò)(ls:List Lk)(x:Lk):dB ps (ls++[x])=dB ps ls++(if wF ps x=true then [x.1]else []):=by
 unfold dB;rw[Cr,Ak]
 congr 1
 cases h:wF ps x <;> simp[h]
def qR(zs:Ò)(z:Str):zs.contains z=decide (z∈zs):=by
 rw[Cn,CK];exact Ce
abbrev T1:Ò:=["rows","points"]
abbrev wG:Ò:=["rows","points","tie","one","other"]
def Kr:ak T1 ["rows","points"] (aU yt):=⟨rfl,rfl,rfl,by decide +kernel,rfl,by decide +kernel,by decide +kernel⟩
def Ks:wG.Nodup:=by decide +kernel
def q8i{f:Addr}{fd:FuncData}(F:bE K "cut_of" "cut_of" yt f fd)(T:Txt mg)
  (G:aQ P w K mg base 1 "links_of" ["rows"] Jl) :
  aG P w K mg base bH 2 f fd ["rows","points"] zN:=by
 refine F.gb Kr (λvs H Q E h=>?_) λb0 H vs Q E hr h=>?_
 ·obtain⟨R,p,as,n,ps,rfl,_⟩:=h;rfl
 obtain⟨R,p,as,n,ps,rfl,hR,hT,hn,ht,hp,q⟩:=h;show Run _ _ _ [some<|.ref R,some<|.ref p] H;refine bQ (jv (aU yt) T1 wG 3 (fU bv)<|bj G hr<|ah<|ae 0<|ax ⟨R,as,n,rfl,hR,hT,by omega,ht,λL us ls H1 s1 n1 eL ia mE qJ hlen=>?_⟩);refine⟨L,rfl,⟨_,aq.of eL⟩,λD hD=>?_⟩;have Ih:L≠D:=bq eL hD;have Je:p≠D:=bq (s1 _ _ hp) hD;have IP:=ia.1;refine pZ (xs:=us.map V.ref) (λi σ' H'=>(∃ v1 v2 v3,σ'=[some<|.ref R,some<|.ref p]++[v1,v2,v3])/\H'=upd H1 D (Ls<|dB ps<|ls.take i)) ⟨⟨_,_,_,rfl⟩,rfl⟩ ?_ ?_ ?_
 ·rintro i σ' H' _ ⟨_,rfl⟩;exact aq.of<|by rw[av Ih];exact eL
 ·rintro i x σ' H' hx ⟨⟨v1,v2,v3,rfl⟩,rfl⟩;rw[Ai,Ay]at hx;obtain⟨u,fc,rfl⟩:=hx;have hi:i < ls.length:=by
   have:=(Ac.mp fc).1;omega
  have rO:ls[i]?=some ls[i]:=Ab hi;have vZ:=ia.2 i u _ fc rO;have m8:ls.take (i+1)=ls.take i++[ls[i]]:=by rw[Ck,rO];rfl
  rw[m8,k8j];generalize ls[i]=lx at vZ;obtain⟨ti,on,ot⟩:=lx;have Kt:(upd H1 D<|Ls<|dB ps<|ls.take i) u=some (.tup [.str ti,.str on,.str ot]):=by rw[av<|bq vZ hD];exact vZ
  have km:(upd H1 D<|Ls<|dB ps<|ls.take i) p=some (Ls ps):=by rw[av Je];exact s1 _ _ hp
  intro cl C' s₀ H₀ ex;refine k85 rfl (aJ.of Kt) (bg 2 Ks<|bg 3 Ks<|bg 4 Ks ?_);intro cl C' s₀ H₀ ex;refine nP<|b8 tU<|jT lP<|ae 3<|ae 1 ⟨p,_,rfl,.inl<|aq.of km,rfl,jz _,?_⟩;refine jT lP<|ae 4<|ae 1 ⟨p,_,rfl,.inl<|aq.of km,rfl,jz _,rfl,_,rfl,?_⟩;have fF:∀(x y:Bool),(if false=true then x else y)=y:=λ_ _=>rfl;rw[fF,fF,ka,ka,qR,qR,xG];show if wF ps (ti,on,ot)=true then _ else _;have jb:=By (TU ps<|ls.take i) (show(ls.take i).length<=ls.length by rw[Bk];omega)
  by_cases hc:wF ps (ti,on,ot)=true
  ·rw[BP hc];intro cl C' s₀ H₀ ex;refine ae 2 ⟨_,aA,by rw[Aa];exact b5 (by omega),⟨_,_,_,rfl⟩,?_⟩;rw[tE,BP hc];exact FH
  ·rw[BL hc];refine⟨⟨_,_,_,rfl⟩,?_⟩;rw[BL hc,Bg]
 ·rintro σ' H' ⟨_,rfl⟩;rw[Aa,IP,Bx];have jb:=TU ps ls;exact q D _ _ (s1.trans<|aS hD _) (ie s1 hD) aA (q17 mE) (q0i hT qJ)<|by omega
def kI(ss:Ò)(r:Str×List Str):Bool:=(r.2.filter λz=>ss.contains z).length % 2 == 0
def zP:Sp:=λvs H Q _=>∃(R a:Addr) (as:Ð) (n:Net) (ss:Ò),vs=[.ref R,.ref a]/\ai H R as n/\n.length<=60/\(ag n).length<=1000/\H a=some (Ls ss) /\
 ∀(L:Addr) (zs:Ò) (H':Hp),aj H H'->H L=none->H' L=some (Ls zs)->zs.Perm ((n.filter λr=>!kI ss r).map (·.1))->Q (.ref L) H'
abbrev NR:Ò:=["rows","some"]
abbrev Ku:Ò:=["rows","some","point","ties"]
abbrev T4:Ò:=["rows","some","point","ties","tie"]
def q9z:ak NR ["rows","some"] (aU ib):=⟨rfl,rfl,rfl,by decide +kernel,rfl,by decide +kernel,by decide +kernel⟩
def wH:Ku.Nodup:=by decide +kernel
def x06:T4.Nodup:=by decide +kernel
def x1b:Scope:=match iX ib with
 | [.Return (some<|.Call _ [.ListComp _ _ sc _] _ _) _]=>sc
 | _=>aU ib
def Kv:Scope:=relabel x1b<|PyProof.Rows.envOfC "odd_points" (aU ib) 0 0 .none
def q96{f:Addr}{fd:FuncData}(F:bE K "odd_points" "odd_points" ib f fd)(T:Txt mg):aG P w K mg base bH 1 f fd ["rows","some"] zP:=by
 refine F.gb q9z (λvs H Q E h=>?_) λb0 H vs Q E hr h=>?_
 ·obtain⟨R,a,as,n,ss,rfl,_⟩:=h;rfl
 obtain⟨R,a,as,n,ss,rfl,hR,hn,ht,ha,q⟩:=h;have bU:=hR.len;show Run _ _ _ [some<|.ref R,some<|.ref a] H;refine bQ<|b4 ya T.sorted DQ<|ah<|jv (aU ib) NR Ku 2 (fU bv)<|ae 0 ⟨R,rfl,⟨_,aq.of hR.lst⟩,λD hD=>?_⟩;refine pZ (xs:=as.map λa=>V.ref a.1) (λi σ' H'=>(∃ v1 v2,σ'=[some<|.ref R,some<|.ref a]++[v1,v2])/\H' D=some (.lst<|((n.take i).filter λr=>!kI ss r).map λr=>V.str r.1)/\aj H H') ⟨⟨none,none,rfl⟩,aA,aS hD _⟩ ?_ ?_ ?_
 ·rintro i σ' H' _ ⟨_,_,sm⟩;exact aq.of<|sm _ _ hR.lst
 ·rintro i x σ' H' hx ⟨⟨v1,v2,rfl⟩,eD,sm⟩;have hi:i < n.length:=by
   have:=(Ac.mp hx).1;rw[Aa]at this;omega
  obtain⟨b,eb,cW,et,el,er⟩:=(hR.same sm).at hi;rw[Ai,eb]at hx;cases hx;have fE:(row n i).length<=1000:=By (iD n i) ht;have ko:n.take (i+1)=n.take i++[n[i]]:=by rw[Ck,Ab hi];rfl
  intro cl C' s₀ H₀ ex;refine jd rfl (aJ.of et) (bg 2 wH<|bg 3 wH ?_);intro cl C' s₀ H₀ ex;refine nP<|b8 fV<|a7 cL<|b4 dE T.len DR<|ah<|jv Kv Ku T4 1 (fU bv)<|ae 3 ⟨b.2,rfl,⟨_,aq.of el⟩,λD2 sV=>?_⟩;refine uG (σ:=[some<|.ref R,some<|.ref a,some<|.str n[i].1,some<|.ref b.2]) (λz=>ss.contains z) (b5<|by omega) el sV (λcl C s₀ H₀ ex v v0 H' R' h=>bg 4 x06 h) (λcl C s₀ H₀ ex z ys T' h=>?_) (λcl C s₀ H₀ ex z H' R' h=>ae 4 h) ?_
  ·refine nP (b8 lP<|ae 4<|ae 1 ⟨a,_,rfl,.inl (aq.of<|by rw[av<|bq (sm _ _ ha) sV];exact sm _ _ ha),rfl,jz _,_,rfl,?_⟩);show T' (rq (.str z)<|ss.map V.str) _;rw[ka];exact h
  ·have nDD:D≠D2:=bq eD sV;have s2:=aS sV<|.lst<|((row n i).filter λz=>ss.contains z).map V.str;refine ax ⟨D2,_,rfl,.inl<|aq.of aA,aC ⟨_,_,rfl,rfl,(by show(0:Int) < 2;decide),aC ⟨rfl,_,rfl,?_⟩⟩⟩;have ek:decide (V.int ((((((row n i).filter λz=>ss.contains z).map V.str).length:Nat):Int) % 2)=V.int 1) = !kI ss n[i]:=by
    unfold kI;rw[Aa,er]
    by_cases hc:(n[i].2.filter λz=>ss.contains z).length % 2=0
    ·rw[BR (λh=>by have:=V.int.inj h;omega),beq_iff_eq.mpr hc];rfl
    ·rw[BW (BZ V.int<|by omega),beq_eq_false_iff_ne.mpr hc];rfl
   show if decide (V.int ((((((row n i).filter λz=>ss.contains z).map V.str).length:Nat):Int) % 2)=V.int 1)=true then _ else _;rw[ek];refine jS (λc=>?_) λc=>?_
   ·intro cl C' s₀ H₀ ex;refine ae 2 ⟨_,s2 _ _ eD,?_,⟨_,_,rfl⟩,?_,fb (sm.trans s2) hD⟩
    ·rw[Aa];refine b5<|By (Dl ..) ?_;rw[Bk];omega
    ·rw[aA,ko,Cr,Ak];have:[n[i]].filter (λr=>!kI ss r)=[n[i]]:=by rw[RV<|by simpa using c];rfl
     rw[this];rfl
   ·refine⟨⟨_,_,rfl⟩,?_,sm.trans s2⟩;rw[ko,Cr];have:[n[i]].filter (λr=>!kI ss r)=[]:=by rw[List.filter_cons_of_neg<|by simpa using c];rfl
    rw[this,Bg];exact s2 _ _ eD
 ·rintro σ' H' ⟨_,eD,sm⟩;rw[Aa,bU,Bx]at eD;have e2:((n.filter λr=>!kI ss r).map λr=>V.str r.1)=(((n.filter λr=>!kI ss r).map (·.1)).map V.str):=by rw[Cd];rfl
  rw[e2]at eD;refine ax ⟨D,_,rfl,aq.of eD,?_,λl zs hl hp _=>?_⟩
  ·rw[Aa];exact QK (Dl ..)<|by omega
  ·exact q l zs _ (sm.trans<|aS hl _) (ie sm hl) aA hp
def q2c:ak ["one","other"] ["one","other"] (aU EZ):=⟨rfl,rfl,rfl,by decide +kernel,rfl,by decide +kernel,by decide +kernel⟩
def k83{f:Addr}{fd:FuncData}(F:bE K "summed" "summed" EZ f fd)(T:Txt mg):aG P w K mg base bH 1 f fd ["one","other"] zO:=by
 refine F.gb q2c (λvs H Q E h=>?_) λb0 H vs Q E hr h=>?_
 ·obtain⟨a,b,xs,ys,rfl,_⟩:=h;rfl
 obtain⟨a,b,xs,ys,rfl,ha,hb,hl,q⟩:=h;show Run _ _ _ [some<|.ref a,some<|.ref b] H;refine bQ (b4 (OL rfl) T.sorted DQ<|ah<|a7 YZ<|lY (OI rfl) T.pU MN<|ah<|ae 0<|ax ⟨a,xs,rfl,aq.of ha,by omega,λc hc=>?_⟩);have h1:=aS hc<|bb P w c<|made xs;refine lY (OI rfl) T.pU MN (ah<|ae 1<|ax ⟨b,ys,rfl,aq.of<|h1 _ _ hb,by omega,λd hd=>?_⟩);have h2:=aS hd<|bb P w d<|made ys;have l1:=D0 xs;have l2:=D0 ys;refine⟨c,d,made xs,made ys,rfl,rfl,h2 _ _ aA,aA,by omega,by omega,λe zc he hn hm=>?_⟩;have h3:=aS he<|bb P w e zc;have T5:∀ z,z∈zc↔(if z∈xs then z∉ys else z∈ys):=λz=>by
  rw[hm z];simp only[Yu]
 have hlen:zc.length<=(xs++ys).length:=aV hn λz hz=>by
  have:=(T5 z).mp hz;rw[Am]
  by_cases c:z∈xs
  ·exact .inl c
  ·rw[BL c]at this;exact .inr this
 rw[Af]at hlen;refine ax ⟨e,zc,rfl,aA,by omega,λl ss hl hp hs=>?_⟩;have h4:=aS hl<|Ls ss;exact q l ss _ (h1.trans<|h2.trans<|h3.trans h4) (h1.free<|h2.free<|h3.free hl) aA hs (hp.nodup_iff.mpr hn) λz=>by
  rw[hp.mem_iff];exact T5 z
abbrev T6:Ò:=["rows"]
abbrev wI:Ò:=["rows","point","ties"]
def Kw:ak T6 ["rows"] (aU yq):=⟨rfl,rfl,rfl,by decide +kernel,rfl,by decide +kernel,by decide +kernel⟩
def T7:wI.Nodup:=by decide +kernel
def q9q{f:Addr}{fd:FuncData}(F:bE K "points_of" "points_of" yq f fd)(T:Txt mg):aG P w K mg base bH 1 f fd ["rows"] Kq:=by
 refine F.gb Kw (λvs H Q E h=>?_) λb0 H vs Q E hr h=>?_
 ·obtain⟨R,as,n,rfl,_⟩:=h;rfl
 obtain⟨R,as,n,rfl,hR,hn,q⟩:=h;have bU:=hR.len;show Run _ _ _ [some<|.ref R] H;refine bQ<|jv (aU yq) T6 wI 2 (fU bv)<|ae 0 ⟨R,rfl,⟨_,aq.of hR.lst⟩,λD hD=>?_⟩;refine pZ (xs:=as.map λa=>V.ref a.1) (λi σ' H'=>(∃ v1 v2,σ'=[some<|.ref R]++[v1,v2])/\H' D=some (Ls ((n.take i).map (·.1)))/\aj H H') ⟨⟨none,none,rfl⟩,aA,aS hD _⟩ ?_ ?_ ?_
 ·rintro i σ' H' _ ⟨_,_,sm⟩;exact aq.of<|sm _ _ hR.lst
 ·rintro i x σ' H' hx ⟨⟨v1,v2,rfl⟩,eD,sm⟩;have hi:i < n.length:=by
   have:=(Ac.mp hx).1;rw[Aa]at this;omega
  obtain⟨b,eb,cW,et,el,er⟩:=(hR.same sm).at hi;rw[Ai,eb]at hx;cases hx;intro cl C' s₀ H₀ ex;refine jd rfl (aJ.of et) (bg 1 T7<|bg 2 T7 ?_);intro cl C' s₀ H₀ ex;refine i6<|bY ?_;intro cl C' s₀ H₀ ex;refine ae 1 ⟨_,eD,?_,⟨_,_,rfl⟩,?_,fb sm hD⟩
  ·rw[Aa,Aa,Bk];exact b5<|by omega
  ·rw[aA,Ck,Ab hi,Ak];show _=some (HO.lst<|List.map V.str<|_++_);rw[Ak];rfl
 ·rintro σ' H' ⟨_,eD,sm⟩;rw[Aa,bU,Bx]at eD;exact q D H' sm hD eD
end
end E6
namespace E6
open PySem L2 Nt bA
open PyProof.Rows (sortedS)
def Kx:Sp:=λvs H Q _=>∃(R W:Addr) (as:Ð) (n:Net) (ts:List Addr) (es:List Nt.End),vs=[.ref R,.ref W]/\ai H R as n/\(n.map (·.1)).Nodup/\n.length<=1000/\(ag n).length<=1000/\H W=some (.lst<|ts.map V.ref)/\eJ n H ts es/\(∀ e∈es,e∈ends n)/\es.length<=1000/\(∀ l:Ò,l.Nodup->(∀ z∈l,z∈es.map (aF n))->l.length < 64) /\
 ∀(l:Addr) (ss:Ò) (H':Hp),aj H H'->H l=none->H' l=some (Ls ss)->b9 ss->(∀ z,z∈ss↔(es.map<|aF n).count z=1)->Q (.ref l) H'
def T8(L:Ò):(L.filter λz=>decide (L.count z=1)).Nodup:=by
 rw[Go];intro z
 by_cases h:L.count z=1
 ·rw[List.count_filter<|by simpa using h];omega
 ·rw[Ex]
  ·omega
  ·intro hm;exact h<|BX (Bh.mp hm).2
def q1p(L:Ò)(z:Str):z∈(L.filter λz=>decide (L.count z=1))↔L.count z=1:=by
 rw[Bh,CK];exact⟨λh=>h.2,λh=>⟨De.mp (by omega),h⟩⟩
section
variable{P:Program}{w:World}{K:PySem.W.Frag}{mg:Ó}{base:Heap}
abbrev Ky:Ò:=["rows","walker","names","gone"]
abbrev wJ:Ò:=["rows","walker","names","gone","end"]
abbrev wK:Ò:=["rows","walker","names","gone","tie"]
def wL:ak Ky ["rows","walker"] (aU uD):=⟨rfl,rfl,rfl,by decide +kernel,rfl,by decide +kernel,by decide +kernel⟩
def q8s:wJ.Nodup:=by decide +kernel
def q8a:wK.Nodup:=by decide +kernel
def q6p{f:Addr}{fd:FuncData}(F:bE K "core_of" "core_of" uD f fd)(T:Txt mg)
  (GT:aQ P w K mg base 2 "ties_by_end" ["rows"] m5):aG P w K mg base bH 3 f fd ["rows","walker"] Kx:=by
 refine F.gb wL (λvs H Q E h=>?_) λb0 H vs Q E hr h=>?_
 ·obtain⟨R,W,as,n,ts,es,rfl,_⟩:=h;rfl
 obtain⟨R,W,as,n,ts,es,rfl,hR,hN,hn,d3,hW,hE,uM,hle,wM,q⟩:=h;have nd:=wL.nd;have fc:=hr.u1;have hl:=hE.1;show Run _ _ _ [some<|.ref R,some<|.ref W,none,none] H;refine aX 2 nd<|bj GT hr<|ah<|ae 0<|ax ⟨R,as,n,rfl,hR,hN,hn,d3,λd kvs H1 s1 GV ed pD=>?_⟩;show Run _ _ _ [some<|.ref R,some<|.ref W,some<|.ref d,none] H1;have T9:=s1 _ _ hW;have hE1:=hE.same s1;refine aX 3 nd<|jv (aU uD) Ky wJ 1 (fU bv)<|ae 1 ⟨W,rfl,⟨_,aq.of T9⟩,λD hD=>?_⟩;refine pZ (xs:=ts.map V.ref) (λi σ' H'=>(∃ v,σ'=[some<|.ref R,some<|.ref W,some<|.ref d,none]++[v])/\aj H1 H'/\H' D=some (Ls<|(es.take i).map<|aF n)) ⟨⟨none,rfl⟩,aS hD _,aA⟩ ?_ ?_ ?_
 ·rintro i σ' H' _ ⟨_,sm,_⟩;exact aq.of<|sm _ _ T9
 ·rintro i x σ' H' hx ⟨⟨v,rfl⟩,sm,eD⟩;rw[Ai,Ay]at hx;obtain⟨t,ht,rfl⟩:=hx;have hi:i < es.length:=by have:=(Ac.mp ht).1;omega
  have he:es[i]?=some es[i]:=Ab hi;have ko:es.take (i+1)=es.take i++[es[i]]:=by rw[Ck,he];rfl
  generalize sX:es[i]=e at he ko;have ou:=sm _ _<|hE1.2 i t e ht he;have yH:=uM e<|Au he;obtain⟨z,hz⟩:=af.mp yH;have mY:aF n e=z:=fD hz;intro cl C s₀ H₀ ex;refine bg 4 q8s ?_;intro cl C s₀ H₀ ex;refine i6 ?_;rw[BP rfl];intro cl C s₀ H₀ ex;refine gR fc<|ae 2<|ae 4 ⟨d,.str z,rfl,(by rw[<- pD e z hz];exact a8.t (k:=key n e) (sm _ _ ed) ou),_,eD,?_,⟨_,rfl⟩,fb sm hD,?_⟩
  ·rw[Aa,Aa,Bk];exact b5<|by omega
  ·rw[aA,ko,Ak];show some (HO.lst<|((es.take i).map<|aF n).map V.str++[V.str z])=some (HO.lst<|((es.take i).map (aF n)++[aF n e]).map V.str);rw[Ak];show some (HO.lst<|((es.take i).map<|aF n).map V.str++[V.str z])=some (HO.lst<|((es.take i).map<|aF n).map V.str++[V.str<|aF n e]);rw[mY]
 rintro σ' H' ⟨_,sm,eD⟩;have Kz:es.take (ts.map V.ref).length=es:=Cq (by rw[Aa];omega);rw[Kz]at eD;show Run _ _ _ [some<|.ref R,some<|.ref W,some<|.ref d,some<|.ref D] H';generalize hLL:es.map (aF n)=L at eD wM q;have Rx:L.length<=1000:=by rw[<- hLL,Aa];exact hle
 refine bQ<|b4 ya T.sorted DQ<|ah<|jv (aU uD) Ky wK 1 (fU bv)<|ae 3 ⟨D,rfl,⟨_,aq.of eD⟩,λD3 KA=>?_⟩;have n3:D≠D3:=bq eD KA;refine uG (λz=>decide (L.count z=1)) (b5<|by omega) eD KA (λcl C s0 H0 ex v v0 H' R' h=>bg 4 q8a h) (λcl C s0 H0 ex z zs T' h=>nP<|b8 fV<|ED FJ PySem.F.slot_list_count PySem.F.type_list_count q2w<|ae 3 (v:= .ref D) ⟨Or.inl ⟨rfl,_,aq.of<|by rw[av n3];exact eD⟩,ae 4 ⟨D,L,z,rfl,rfl,aq.of (by rw[av n3];exact eD),aC ⟨rfl,_,rfl,?_⟩⟩⟩) (λcl C s0 H0 ex z H' R' h=>ae 4 h) ?_
 ·have ek:decide (V.int (L.count z:Int)=V.int 1)=decide (L.count z=1):=decide_eq_decide.mpr ⟨λk=>by have:=V.int.inj k;omega,λk=>by rw[k];rfl⟩;show T' (decide (V.int (L.count z:Int)=V.int 1)) _;rw[ek];exact h
 refine ax ⟨D3,_,rfl,aq.of aA,wM _ (T8 L) λz hz=>(Bh.mp hz).1,λl ss iW jc mE=>?_⟩;have s3:=s1.trans<|sm.trans<|aS KA<|Ls<|L.filter λz=>decide (L.count z=1);exact q l ss _ (s3.trans<|aS iW _) (s3.free iW) aA (uU mE<|jc.nodup_iff.mpr<|T8 L) λz=>by rw[jc.mem_iff];exact q1p L z
end
end E6
namespace L2
open PySem PySem.Spec PyProof.Rows bA
section
variable{X:Cx}
end
end L2
namespace L2
open PySem PySem.Spec PyProof.Rows
section
variable{X:Cx}{σ:St}{H:Hp}{D:Ends}{body rest:Ö}{a b:Expr}
end
end L2
namespace bF
open PySem SetTable
section
variable{t:SetTable}{es:Array (Int×Value)}{Z:List Ze}
end
section
variable{prog:Program}{w:World}{K:Type} [DecidableEq K]
variable{A:Around}{E:Ï}{s:Shared}{a b:Addr}{knd:HeapKind prog w K}{k:K}{Y:List (Nat×K×Addr)}
end
section
variable{prog:Program}{w:World}{K:Type} [DecidableEq K] {knd:KeyKind prog w K}
end
end bF
namespace L2
open PySem PySem.Spec PyProof.Rows bF Classical
section
variable{prog:Program}{w:World}{A:Around}{E:Ï}{s:Shared}{a b:Addr}{Y:List Yt}{k:List Key}
end
section
variable{X:Cx}{σ:St}{H:Hp}{Q:VK}{pins:Ñ}{s:Shared}{a b:Addr}{Y:List Yt}
end
end L2
namespace L2
open PySem PySem.Spec PyProof.Rows
section
variable{X:Cx}{σ:St}{H:Hp}{Q:VK}
def k6f:eZ X (.type "str") (λxs H Q=>∃ i:Int,xs=[.int i]/\i.natAbs.log2 < 1920/\Q (.str<|Str.ofString<|toString i) H):=by
 intro pins s σ H xs us Q I r h;obtain⟨i,rfl,hd,q⟩:=h;obtain⟨u,rfl,ru⟩:=vals1 r;obtain⟨t,rfl⟩:=ru;exact PySem.P.str_of_int hd ⟨.str _,H,I.tok _,⟨_,rfl⟩,q⟩
end
section
variable{X:Cx}{elt tg:Expr}{ifs:Õ}{scope:Scope}{σ:St}{H:Hp}{N':Ò}{A a:Addr}{xs:List V}{after:Hp->Prop}
end
end L2
namespace E6
open PySem L2 Nt bA bF
open PyProof.Rows (sortedS)
open Classical
def wN(H:Hp)(L:Addr)(us:List Addr)(cs:List<|List Str):Prop:=H L=some (.lst<|us.map V.ref)/\us.length=cs.length/\∀(i:Nat) u c,us[i]?=some u->cs[i]?=some c->H u=some (Ls c)
def KE:Sp:=λvs H Q _=>∃(R:Addr) (as:Ð) (n:Net),vs=[.ref R]/\ai H R as n/\(n.map (·.1)).Nodup/\aw n/\n.length<=60/\(ag n).length<=60 /\
 ∀(L:Addr) (us:List Addr) (cs:List<|List Str) (H':Hp),aj H H'->H L=none->wN H' L us cs->cD n cs->(∀ u∈us,H u=none)->Q (.ref L) H'
structure nq(n:Net)(H:Hp)(D:Addr)(us:List Addr)(cs:List<|List Str)(i:Nat):Prop where
 lst:H D=some (.lst<|us.map V.ref)
 lu:us.length=i
 lc:cs.length=i
 at':∀(j:Nat) u c,us[j]?=some u->cs[j]?=some c->H u=some (Ls c)/\u≠D
 mem:∀(j:Nat) c w,cs[j]?=some c->(bd n)[j]?=some w->∀ z,z∈c↔(w.map<|aF n).count z=1
 oj:∀ c∈cs,b9 c
def nq.step{n:Net}{H H2:Hp}{D k:Addr}{us:List Addr}{cs:List Ò}{i:Nat}{ks:Ò}{es:List Nt.End}(I:nq n H D us cs i)(s2:aj H H2)(nk:H k=none)(e2:H2 k=some (Ls ks))(so:b9 ks)(hw:(bd n)[i]?=some es)(m2:∀ z,z∈ks↔(es.map<|aF n).count z=1):nq n (upd H2 D<|.lst<|us.map V.ref++[.ref k]) D (us++[k]) (cs++[ks]) (i+1):=by
 have lu:=I.lu;have lc:=I.lc;have Ua:k≠D:=λe=>by rw[e,I.lst]at nk;cases nk
 have zero:∀{α:Type} {l:List α} {a b:α} {j:Nat},¬ j < l.length->(l++[a])[j]?=some b->j=l.length/\a=b:=λ{α l a b j} h e=>by
  rw[Az<|by omega]at e;have hj:j - l.length=0:=by have:=(Ac.mp e).1;simp at this;omega
  rw[hj]at e;exact⟨by omega,by cases e;rfl⟩
 refine⟨by rw[aA,Ak];rfl,by rw[Af,lu];rfl,by rw[Af,lc];rfl,λj u c h1 h2=>?_,λj c w h1 h2=>?_,λc hc=>?_⟩
 ·by_cases hj:j < us.length
  ·rw[As hj]at h1;rw[As<|by omega]at h2;obtain⟨q1,q2⟩:=I.at' j u c h1 h2;exact⟨by rw[av q2];exact s2 _ _ q1,q2⟩
  ·obtain⟨_,rfl⟩:=zero hj h1;obtain⟨_,rfl⟩:=zero (by omega) h2;exact⟨by rw[av Ua];exact e2,Ua⟩
 ·by_cases hj:j < cs.length
  ·rw[As hj]at h1;exact I.mem j c w h1 h2
  ·obtain⟨ej,rfl⟩:=zero hj h1;rw[ej,lc,hw]at h2;cases h2;exact m2
 ·rcases Am.mp hc with h | h
  ·exact I.oj c h
  ·rw[Ad.mp h];exact so
def nq.start{n:Net}{H:Hp}{D:Addr}(h:H D=some (.lst [])):nq n H D [] [] 0:=⟨h,rfl,rfl,λj u c h=>by simp at h,λj c w h=>by simp at h,λc h=>by cases h⟩
def nq.whole{n:Net}{H:Hp}{D:Addr}{us:List Addr}{cs:List Ò}(I:nq n H D us cs (bd n).length):wN H D us cs/\cD n cs:=⟨⟨I.lst,I.lu.trans I.lc.symm,λi u c a b=>(I.at' i u c a b).1⟩,I.lc,I.mem,I.oj⟩
def x0k{n:Net}{es:List Nt.End}(h:∀ e∈es,e∈ends n):∀ z∈es.map (aF n),z∈ag n:=λz hz=>by
 obtain⟨e,he,rfl⟩:=Al.mp hz;obtain⟨y,hy⟩:=af.mp<|h e he;rw[fD hy];exact eU hy
section
variable{P:Program}{w:World}{K:PySem.W.Frag}{mg:Ó}{base:Heap}
abbrev Ub:Ò:=["rows"]
abbrev wO:Ò:=["rows","walker"]
def wQ:ak Ub ["rows"] (aU yu):=⟨rfl,rfl,rfl,by decide +kernel,rfl,by decide +kernel,by decide +kernel⟩
def q7e:wO.Nodup:=by decide +kernel
def q2m{f:Addr}{fd:FuncData}(F:bE K "cores_of" "cores_of" yu f fd)(T:Txt mg)(GW:aQ P w K mg base 4 "walkers_of" ["rows"] IE)(GC:aQ P w K mg base 4 "core_of" ["rows","walker"] Kx):aG P w K mg base bH 5 f fd ["rows"] KE:=by
 refine F.gb wQ (λvs H Q E h=>?_) λb0 H vs Q E hr h=>?_
 ·obtain⟨R,as,n,rfl,_⟩:=h;rfl
 obtain⟨R,as,n,rfl,hR,hN,hT,hn,d3,q⟩:=h;have nd:=wQ.nd;have sM:=jy n;show Run _ _ _ [some<|.ref R] H;refine bQ (jv (aU yu) Ub wO 1 (fU bv)<|bj GW hr<|ah<|ae 0<|ax ⟨R,as,n,rfl,hR,hN,hT,by omega,by omega,λW ls H1 s1 n1 hW fW=>⟨W,rfl,⟨_,aq.of hW.lst⟩,λD hD=>?_⟩⟩);have wl:(bd n).length<=(ends n).length:=yJ n (ends n) [];have qS:=nX hT (ends n) [] λe he=>he;have Uc:ls.length=(bd n).length:=hW.len;refine pZ (xs:=ls.map V.ref) (λi σ' H'=>(∃ v,σ'=[some<|.ref R]++[v])/\aj H1 H'/\∃ us cs,nq n H' D us cs i/\∀ u∈us,H u=none) ⟨⟨none,rfl⟩,aS hD _,[],[],nq.start aA,λu h=>(by cases h)⟩ ?_ ?_ ?_
 ·rintro i σ' H' _ ⟨_,sm,_⟩;exact aq.of<|sm _ _ hW.lst
 ·rintro i x σ' H' hx ⟨⟨v,rfl⟩,sm,us,cs,I,fu⟩;rw[Ai,Ay]at hx;obtain⟨l,hl,rfl⟩:=hx;have my:i < (bd n).length:=by have:=(Ac.mp hl).1;rw[<- Uc];exact this
  have jI:=Ab my;obtain⟨ts,el,hE⟩:=(hW.same sm).at' i l _ hl jI;have wk:=qS _<|Au jI;generalize (bd n)[i]=es at jI hE wk;have few:=wk.few;have lu:=I.lu;intro cl C s₀ H₀ ex;refine bg 1 q7e ?_;intro cl C s₀ H₀ ex;refine i6<|bY ?_;intro cl C s₀ H₀ ex;refine bj GC hr<|ah<|ae 0<|ah<|ae 1<|ax ⟨R,l,as,n,ts,es,rfl,hR.same<|s1.trans sm,hN,by omega,by omega,el,hE,wk.ends,by omega,λl hn hm=>?_,λk ks H2 s2 n2 e2 so2 m2=>?_⟩
  ·have:=aV hn λz hz=>x0k wk.ends z<|hm z hz;omega
  exact⟨_,s2 _ _ I.lst,by rw[Aa];exact b5 (by omega),⟨_,rfl⟩,fb (sm.trans s2) hD,_,_,I.step s2 n2 e2 so2 jI m2,λu hu=>(Am.mp hu).elim (fu u) λh=>by rw[Ad.mp h];exact(s1.trans sm).free n2⟩
 ·rintro σ' H' ⟨_,sm,us,cs,I,fu⟩;rw[Aa,Uc]at I;exact q D us cs H' (s1.trans sm) (s1.free hD) I.whole.1 I.whole.2 fu
open PyProof.Rows (sortedS)
open Classical
structure gL(H:Hp)(S:Addr)(us:List<|Addr×Addr×Addr)(st:cT):Prop where
 lst:H S=some (.lst<|us.map λu=>V.ref u.1)
 len:us.length=st.length
 at':∀(i:Nat) u s,us[i]?=some u->st[i]?=some s->H u.1=some (.tup [.ref u.2.1,.ref u.2.2])/\H u.2.1=some (Ls s.1)/\H u.2.2=some (Ls s.2)
def gL.same{H H':Hp}{S:Addr}{us:List (Addr×Addr×Addr)}{st:cT}(h:gL H S us st)(s:aj H H'):gL H' S us st:=⟨s _ _ h.lst,h.len,λi u x a b=>let q:=h.at' i u x a b;⟨s _ _ q.1,s _ _ q.2.1,s _ _ q.2.2⟩⟩
def q5p(ss:Ò):(λr:Str×List Str=>!kI ss r)=cA λz=>decide (z∈ss):=by
 funext r
 unfold kI cA;rw[uZ];have c:(r.2.filter λz=>ss.contains z)=r.2.filter λz=>decide (z∈ss):=by
  congr 1
  funext z
  rw[Cn,CK];exact Ce
 rw[c];generalize (r.2.filter λz=>decide (z∈ss)).length=k
 rcases QT k with h | h <;> rw[h] <;> rfl
def Ud{n:Net}{ss os:Ò}(h:os.Perm ((n.filter λr=>!kI ss r).map (·.1))):cS n (λz=>decide (z∈ss)) os:=by
 rw[q5p]at h;exact h
def sub_len{n:Net}{l:Ò}(hn:n.length<=31)(h1:l.Nodup)(h2:∀ x∈l,x∈cb n):l.length<=31:=by
 have:=aV h1 h2;rw[Aa]at this;omega
def KG:Sp:=λvs H Q _=>∃(S p o:Addr) (us:List<|Addr×Addr×Addr) (n:Net) (st:cT) (ps os:Ò),vs=[.ref S,.ref p,.ref o]/\gL H S us st/\Km n st/\n.length<=31/\H p=some (Ls ps)/\H o=some (Ls os)/\gK n [] ps os ps os /\
 ∀(L p' o':Addr) (cE bW:Ò) (H':Hp),aj H H'->H L=none->H' L=some (.tup [.ref p',.ref o'])->H' p'=some (Ls cE)->H' o'=some (Ls bW)->(p'=p\/H p'=none)->(o'=o\/H o'=none)->gK n st ps os cE bW->Q (.ref L) H'
noncomputable def qT:Sp:=λvs H Q _=>∃(R o:Addr) (as:Ð) (n:Net) (os:Ò) (s:Str->Bool),vs=[.ref R,.ref o]/\ai H R as n/\(cb n).Nodup/\aw n/\n.length<=31/\(ag n).length<=60/\H o=some (Ls os)/\cS n s os/\nn n s /\
 ∀(L:Addr) (ps:Ò) (H':Hp),aj H H'->H' L=some (Ls ps)->(∀ r∈n,ci n ps r=cA s r)->Q (.ref L) H'
def KI:Sp:=λvs H Q _=>∃(R p:Addr) (as:Ð) (n:Net) (ss:Ò),vs=[.ref R,.ref p]/\ai H R as n/\(cb n).Nodup/\aw n/\HF n/\n.length<=31/\(ag n).length<=60/\H p=some (Ls ss)/\ss.Nodup/\(∀ z∈ss,z∈ag n) /\
 (∀(t L:Addr) (c:Ò) (H':Hp),aj H H'->H t=none->H L=none->H' t=some (.tup [.str "odd",.ref L])->H' L=some (Ls c)->(∃ cs,cD n cs/\c∈cs)->(c.filter λz=>ss.contains z).length % 2=1->Q (.ref t) H') /\
 (∀(t L M:Addr) (rs cs ps:Ò) (H':Hp),aj H H'->H t=none->H L=none->H M=none->L≠M->H' t=some (.tup [.str "parts",.ref L,.ref M])->H' L=some (Ls rs)->H' M=some (Ls cs)->qP n ss->b9 rs->b9 cs->eI n rs=true->(∀ z,z∈cs↔dq n ps z)->jG ss cs rs->Q (.ref t) H')
def q1b{n:Net}(T:aw n)(hf:HF n){ss:Ò}(h:qP n ss):nn n λz=>decide (z∈ss):=by
 obtain⟨cs,C,he⟩:=h;refine q32 T hf C λc hc=>?_;have:=he c hc;rw[uZ];have e:(c.filter λz=>ss.contains z)=c.filter λz=>decide (z∈ss):=by
  congr 1
  funext z
  rw[Cn,CK];exact Ce
 rw[e]at this;exact BR<|by omega
abbrev NLo:Ò:=["steps","points","odds","tried","left"]
def wR:ak NLo ["steps","points","odds"] (aU E3):=⟨rfl,rfl,rfl,by decide +kernel,rfl,by decide +kernel,by decide +kernel⟩
def q8k{f:Addr}{fd:FuncData}(F:bE K "lowered" "lowered" E3 f fd)(T:Txt mg)(GM:aQ P w K mg base 1 "summed" ["one","other"] zO):aG P w K mg base bH 2 f fd ["steps","points","odds"] KG:=by
 refine F.gb wR (λvs H Q E h=>?_) λb0 H vs Q E hr h=>?_
 ·obtain⟨S,p,o,us,n,st,ps,os,rfl,_⟩:=h;rfl
 obtain⟨S,p,o,us,n,st,ps,os,rfl,hS,I,hn,hp,ho,lw,q⟩:=h;have nd:=wR.nd;have hl:=hS.len;show Run _ _ _ [some<|.ref S,some<|.ref p,some<|.ref o,none,none] H;refine jU<|ae 0 ⟨S,rfl,⟨_,aq.of hS.lst⟩,?_⟩;refine jV (xs:=us.map λu=>V.ref u.1) (λi σ H'=>∃(p1 o1:Addr) (ps1 os1:Ò) (u3 u4:Option V),aj H H'/\H' p1=some (Ls ps1)/\H' o1=some (Ls os1)/\(p1=p\/H p1=none)/\(o1=o\/H o1=none)/\gK n (st.take i) ps os ps1 os1/\σ=[some<|.ref S,some<|.ref p1,some<|.ref o1,u3,u4]) ⟨p,o,ps,os,_,_,aj.refl H,hp,ho,.inl rfl,.inl rfl,lw,rfl⟩ ?_ ?_ ?_
 ·rintro i σ H' _ ⟨_,_,_,_,_,_,sm,_⟩;exact aq.of<|sm _ _ hS.lst
 ·rintro i x σ H1 hx ⟨p1,o1,ps1,os1,u3,u4,sm,e1,e2,f1,f2,lo,rfl⟩;rw[Ai,Ay]at hx;obtain⟨u,hu,rfl⟩:=hx;have hi:i < st.length:=by have:=(Ac.mp hu).1;omega
  have hs:=Ab hi;generalize st[i]=s at hs;have iO:=Au hs;obtain⟨a1,a2,a3⟩:=(hS.same sm).at' i u s hu hs;obtain⟨y,l',hy⟩:∃ y l',s.2=y :: l':=by
   cases k:s.2 with
   | nil=>exact absurd k<|I.ne s iO
   | cons y l'=>exact⟨y,l',rfl⟩
  have hd:s.2.head?=some y:=by rw[hy];rfl
  have l1:=sub_len hn lo.nd.1 lo.sub.1;have l2:=sub_len hn lo.nd.2 lo.sub.2;have l3:=sub_len hn (I.nd s iO).1 (I.sub s iO).1;have l4:=sub_len hn (I.nd s iO).2 (I.sub s iO).2;refine jd rfl (aJ.of a1) (bg 3 nd<|bg 4 nd ?_);show Run _ _ _ [some<|.ref S,some<|.ref p1,some<|.ref o1,some<|.ref u.2.1,some<|.ref u.2.2] H1;have ha:dN (s.2.map V.str) ((0:Nat):Int)=some (.str y):=pK (by rw[hy];rfl);refine c9<|b8 lP<|aP cF<|ae 4<|aC ⟨u.2.2,_,_,.str y,rfl,rfl,aq.of a3,ha,ae 2 ⟨o1,_,rfl,.inl<|aq.of e2,rfl,jz _,_,rfl,?_⟩⟩;have fF:∀(x y:Bool),(if false=true then x else y)=y:=λ_ _=>rfl;rw[fF,ka,qR]
  by_cases hb:y∈os1
  ·rw[BW hb];refine bY (aX 1 nd<|bj GM hr<|ah<|ae 1<|ah<|ae 3<|ax ⟨p1,u.2.1,ps1,s.1,rfl,e1,a2,by omega,λm ms H2 s2 n2 em _ ndm mm=>?_⟩);refine aX 2 nd (bj GM hr<|ah<|ae 2<|ah<|ae 4<|ax ⟨o1,u.2.2,os1,s.2,rfl,s2 _ _ e2,s2 _ _ a3,by omega,λk ks H3 s3 n3 ek _ ndk mk=>?_⟩);exact aW<|aW ⟨m,k,ms,ks,_,_,(sm.trans s2).trans s3,s3 _ _ em,ek,.inr<|sm.free n2,.inr<|(sm.trans s2).free n3,lo.step I hs hd hb ndm ndk mm mk,rfl⟩
  ·rw[BR hb];exact bu<|aW<|aW ⟨p1,o1,ps1,os1,_,_,sm,e1,e2,f1,f2,lo.skip hs hd hb,rfl⟩
 ·rintro σ H1 ⟨p1,o1,ps1,os1,u3,u4,sm,e1,e2,f1,f2,lo,rfl⟩;rw[Aa,hl,Bx]at lo;refine bQ<|dR<|ah<|ae 1<|ah<|ae 2<|ax ⟨Z2,λt ht=>?_⟩;have sT:=aS ht<|.tup [.ref p1,.ref o1];exact q t p1 o1 ps1 os1 _ (sm.trans sT) (sm.free ht) aA (sT _ _ e1) (sT _ _ e2) f1 f2 lo
def q4i{n:Net}(T:aw n){ps cs:Ò}(h:∀ z,z∈cs↔dq n ps z):(λz=>decide (z∈cs))=bx n λy=>decide (y∈ps):=by
 funext z
 rw[Kl T,decide_eq_decide.mpr<|h z]
abbrev NPb:Ò:=["rows","odds","steps","point","tried","left"]
def wU:ak NPb ["rows","odds"] (aU E1):=⟨rfl,rfl,rfl,by decide +kernel,rfl,by decide +kernel,by decide +kernel⟩
def x1e{f:Addr}{fd:FuncData}(F:bE K "points_by" "points_by" E1 f fd)(T:Txt mg)(GP:aQ P w K mg base 3 "points_of" ["rows"] Kq)(GL:aQ P w K mg base 3 "lowered" ["steps","points","odds"] KG)(GO:aQ P w K mg base 3 "odd_points" ["rows","some"] zP)(GC:aQ P w K mg base 3 "cut_of" ["rows","points"] zN):aG P w K mg base bH 4 f fd ["rows","odds"] qT:=by
 refine F.gb wU (λvs H Q E h=>?_) λb0 H vs Q E hr h=>?_
 ·obtain⟨R,o,as,n,os,s,rfl,_⟩:=h;rfl
 obtain⟨R,o,as,n,os,s,rfl,hR,hN,hT,hn,d3,ho,hO,rQ,q⟩:=h;have nd:=wU.nd;show Run _ _ _ [some<|.ref R,some<|.ref o,none,none,none,none] H;refine aX 2 nd<|dF<|ax ⟨Z0,λS hS=>?_⟩;have s0:=aS hS<|.lst [];have KL:(upd H S<|.lst []) S=some (.lst []):=aA;show Run _ _ _ [some<|.ref R,some<|.ref o,some<|.ref S,none,none,none] (upd H S<|.lst []);generalize upd H S (.lst [])=H0 at s0 KL;refine jU (bj GP hr<|ah<|ae 0<|ax ⟨R,as,n,rfl,hR.same s0,by omega,λN H1 s1 n1 eN=>⟨N,rfl,⟨_,aq.of eN⟩,?_⟩⟩);have nNS:N≠S:=λe=>by rw[e,KL]at n1;cases n1
 refine jV (xs:=(cb n).map V.str) (λi σ H'=>∃(us:List<|Addr×Addr×Addr) (st:cT) (u3 u4 u5:Option V),aj H H'/\H' N=some (Ls<|cb n)/\gL H' S us st/\(∀ u∈us,u.2.1≠S/\u.2.2≠S)/\jH n i st/\σ=[some<|.ref R,some<|.ref o,some<|.ref S,u3,u4,u5]) ⟨[],[],_,_,_,s0.trans s1,eN,⟨s1 _ _ KL,rfl,λi u s h=>by simp at h⟩,λu h=>(by cases h),jH.start n,rfl⟩ ?_ ?_ ?_
 ·rintro i σ H' _ ⟨_,_,_,_,_,_,eN,_⟩;exact aq.of eN
 ·rintro i x σ H2 hx ⟨us,st,u3,u4,u5,sm,Ue,tu,fS,I,rfl⟩;rw[Ai,Ay]at hx;obtain⟨x,hx,rfl⟩:=hx;have GH:=Au hx;have nr:=hR.same sm;have zQ:=tu.lst;refine bg 3 nd ?_;show Run _ _ _ [some<|.ref R,some<|.ref o,some<|.ref S,some<|.str x,u4,u5] H2;refine xQ<|bj GL hr<|ah<|ae 2<|ah<|dF<|ah<|ae 3<|ax ⟨Z1,λA hA=>ah<|bj GO hr<|ah<|ae 0<|ah<|bj GC hr<|ah<|ae 0<|ah<|dF<|ah<|ae 3<|ax ⟨Z1,λB hB=>?_⟩⟩;have sA:=aS hA<|.lst [.str x];have sB:=aS hB<|.lst [.str x];have eA:(upd H2 A<|.lst [.str x]) A=some (Ls [x]):=aA;have eB:(upd (upd H2 A<|.lst [.str x]) B<|.lst [.str x]) B=some (Ls [x]):=aA;have eA:=sB _ _ eA;have wV:=sA.trans sB;generalize upd (upd H2 A<|.lst [.str x]) B (.lst [.str x])=H3 at eA eB wV;refine ax ⟨R,B,as,n,[x],rfl,nr.same wV,hT,by omega,d3,eB,λC cs H4 s4 n4 eC soC mC lC=>?_⟩;refine ax ⟨R,C,as,n,cs,rfl,(nr.same wV).same s4,by omega,by omega,eC,λO zs H5 s5 n5 eO pO=>?_⟩;have wW:=Ud pO;rw[q4i hT mC]at wW;have Ug:=s4.trans s5;have KO:=wV.trans Ug;refine ax ⟨S,A,O,us,n,st,[x],zs,rfl,tu.same KO,I.cj,hn,Ug _ _ eA,eO,gK.start (Bc.mpr ⟨Cm,Ch⟩) (wW.nd hN) (λy hy=>by rw[Ad.mp hy];exact GH) wW.sub,λL p' o' cE bW H6 s6 n6 eL e1 e2 f1 f2 lo=>?_⟩;have zR:=KO.trans s6;have Uh:=sm.trans zR;have KP:=zR _ _ zQ;have Ui:=KO _ _ zQ;have fp:p'≠S:=by
   rcases f1 with rfl | f1
   ·exact λe=>by rw[e,zQ]at hA;cases hA
   ·exact λe=>by rw[e,Ui]at f1;cases f1
  have fo:o'≠S:=by
   rcases f2 with rfl | f2
   ·exact λe=>by rw[e,s4 _ _<|wV _ _ zQ]at n5;cases n5
   ·exact λe=>by rw[e,Ui]at f2;cases f2
  refine jd rfl (aJ.of eL) (bg 4 nd<|bg 5 nd ?_);show Run _ _ _ [some<|.ref R,some<|.ref o,some<|.ref S,some<|.str x,some<|.ref p',some<|.ref o'] H6;refine c9 (Xn<|ae 5 (v:= .ref o') ⟨!bW.isEmpty,Or.inl ⟨_,aq.of e2,by cases bW <;> rfl⟩,?_⟩);have Uj:=zR _ _ Ue;have wX:=tu.same zR;have lI:=I.len;have lN:=(Ac.mp hx).1;rw[Aa]at lN;cases bW with
  | nil=>exact bu<|aW<|aW ⟨us,st,_,_,_,Uh,Uj,wX,fS,I.skip hN hx wW lo,rfl⟩
  | cons y l'=>
   refine bY<|fM<|j4<|ae 2 ⟨S,rfl,⟨_,KP⟩,dR<|ah<|ae 4<|ah<|ae 5<|ax ⟨Z2,λt ht=>?_⟩⟩;have sT:=aS ht<|.tup [.ref p',.ref o'];have eT:(upd H6 t<|.tup [.ref p',.ref o']) t=some (.tup [.ref p',.ref o']):=aA;have tS:t≠S:=λe=>by rw[e,KP]at ht;cases ht
   have hl:=tu.len;generalize upd H6 t (.tup [.ref p',.ref o'])=H7 at sT eT;have wY:=wX.same sT;refine⟨_,sT _ _ KP,by rw[Aa];exact b5 (by omega),aW<|aW ⟨us++[(t,p',o')],st++[(cE,y :: l')],_,_,_,fb (Uh.trans sT) hS,by rw[av nNS];exact sT _ _ Uj,⟨?_,by rw[Af,Af,hl];rfl,λj u s hu hs=>?_⟩,λu hu=>?_,I.step hN hx wW lo (λe=>by cases e),rfl⟩⟩
   ·rw[aA,Ak];rfl
   ·by_cases hj:j < us.length
    ·rw[As hj]at hu;rw[As<|by omega]at hs;obtain⟨b1,b2,b3⟩:=wY.at' j u s hu hs;obtain⟨g1,g2⟩:=fS u<|Au hu;exact⟨by rw[av<|ce b1 wY.lst λz=>nomatch z];exact b1,by rw[av g1];exact b2,by rw[av g2];exact b3⟩
    ·rw[Az<|by omega]at hu hs;have fO:j - us.length=0:=by
      have:=(Ac.mp hu).1;simp at this;omega
     rw[fO]at hu;rw[<- hl,fO]at hs;cases hu;cases hs;exact⟨by rw[av tS];exact eT,by rw[av fp];exact sT _ _ e1,by rw[av fo];exact sT _ _ e2⟩
   ·rcases Am.mp hu with k | k
    ·exact fS u k
    ·rw[Ad.mp k];exact⟨fp,fo⟩
 ·rintro σ H2 ⟨us,st,u3,u4,u5,sm,Ue,tu,fS,I,rfl⟩;rw[Aa,Aa]at I;refine bQ<|aP bt<|bj GL hr<|ah<|ae 2<|ah<|dF<|ax ⟨Z0,λA hA=>ah<|ae 1<|ax ?_⟩;have sA:=aS hA<|.lst [];have eA:(upd H2 A<|.lst []) A=some (Ls []):=aA;generalize upd H2 A (.lst [])=H3 at sA eA;refine⟨S,A,o,us,n,st,[],os,rfl,tu.same sA,I.cj,hn,eA,sA _ _<|sm _ _ ho,gK.start Ch (hO.nd hN) (λy hy=>by cases hy) hO.sub,λL p' o' cE bW H6 s6 n6 eL e1 e2 f1 f2 lo=>aC ⟨L,_,_,.ref p',rfl,rfl,aJ.of eL,rfl,?_⟩⟩;exact q p' cE H6 ((sm.trans sA).trans s6) e1<|I.whole hN rQ hO lo
abbrev Uk:Ò:=["rows","some","core","cut"]
abbrev wZ:Ò:=["rows","some","core","cut","tie"]
def w5:ak Uk ["rows","some"] (aU yv):=⟨rfl,rfl,rfl,by decide +kernel,rfl,by decide +kernel,by decide +kernel⟩
def q79:wZ.Nodup:=by decide +kernel
def k6n{f:Addr}{fd:FuncData}(F:bE K "parted" "parted" yv f fd)(T:Txt mg)(GK:aQ P w K mg base 5 "cores_of" ["rows"] KE)(GC:aQ P w K mg base 5 "cut_of" ["rows","points"] zN)(GB:aQ P w K mg base 5 "points_by" ["rows","odds"] qT)(GO:aQ P w K mg base 5 "odd_points" ["rows","some"] zP)(GM:aQ P w K mg base 5 "summed" ["one","other"] zO):aG P w K mg base bH 6 f fd ["rows","some"] KI:=by
 refine F.gb w5 (λvs H Q E h=>?_) λb0 H vs Q E hr h=>?_
 ·obtain⟨R,p,as,n,ss,rfl,_⟩:=h;rfl
 obtain⟨R,p,as,n,ss,rfl,hR,hN,hT,hf,hn,d3,hp,uX,cn,q1,q2⟩:=h;have nd:=w5.nd;have sM:=jy n;have Sd:=uY hT uX cn;show Run _ _ _ [some<|.ref R,some<|.ref p,none,none] H;refine jU (bj GK hr<|ah<|ae 0<|ax ⟨R,as,n,rfl,hR,hN,hT,by omega,d3,λC cu cs H1 s1 n1 hC nK fC=>⟨C,rfl,⟨_,aq.of hC.1⟩,?_⟩⟩);have hCl:=hC.2.1;have wl:(bd n).length<=(ends n).length:=yJ n (ends n) [];have qS:=nX hT (ends n) [] λe he=>he;have lcs:=nK.len;refine jV (xs:=cu.map V.ref) (λi σ H'=>∃(u2:Option V),aj H1 H'/\(∀ c∈cs.take i,(c.filter λz=>ss.contains z).length % 2=0)/\σ=[some<|.ref R,some<|.ref p,u2,none]) ⟨_,aj.refl _,λc h=>(by rw[List.take_zero]at h;cases h),rfl⟩ ?_ ?_ ?_
 ·rintro i σ H' _ ⟨_,sm,_⟩;exact aq.of<|sm _ _ hC.1
 ·rintro i x σ H2 hx ⟨u2,sm,fH,rfl⟩;rw[Ai,Ay]at hx;obtain⟨u,hu,rfl⟩:=hx;have hi:i < cs.length:=by have:=(Ac.mp hu).1;omega
  have hc:=Ab hi;have fc:=hC.2.2 i u _ hu hc;have gY:cs[i]∈cs:=Bu hi;have jI:=Ab (show i < (bd n).length by omega);have wk:=qS _<|Au jI;have cin:=zI wk.ends<|nK.mem i _ _ hc jI;have Ul:=nK.oj _ gY;have m8:=wD hc;generalize cs[i]=c at hc fc gY cin Ul m8;have jb:=uY hT (jA Ul) cin;refine bg 2 nd ?_;show Run _ _ _ [some<|.ref R,some<|.ref p,some<|.ref u,none] H2;refine c9<|b8 fV<|a7 cL<|b4 dE T.len DR<|ah<|jv (aU yv) Uk wZ 1 (fU bv)<|ae 2 ⟨u,rfl,⟨_,aq.of<|sm _ _ fc⟩,λD hD=>?_⟩;refine uG (λz=>ss.contains z) (b5<|by omega) (sm _ _ fc) hD (λcl C s0 H0 ex v v0 H' R' h=>bg 4 q79 h) (λcl C s0 H0 ex z zs T' h=>nP<|b8 lP<|ae 4<|ae 1 ⟨p,_,rfl,.inl (aq.of<|by rw[av<|bq (sm _ _<|s1 _ _ hp) hD];exact sm _ _<|s1 _ _ hp),rfl,jz _,_,rfl,?_⟩) (λcl C s0 H0 ex z H' R' h=>ae 4 h) ?_
  ·have fF:∀(x y:Bool),(if false=true then x else y)=y:=λ_ _=>rfl;rw[fF,ka];exact h
  have s2:=aS hD<|.lst<|(c.filter λz=>ss.contains z).map V.str;refine ax ⟨D,_,rfl,.inl<|aq.of aA,aC ⟨_,_,rfl,rfl,(by show(0:Int) < 2;decide),aC ⟨rfl,_,rfl,?_⟩⟩⟩;generalize upd H2 D (.lst<|(c.filter λz=>ss.contains z).map V.str)=H3 at s2;rw[Aa]
  by_cases k:(c.filter λz=>ss.contains z).length % 2=1
  ·rw[BW<|BZ V.int<|by omega];refine bY<|bQ<|dR<|ah<|fK<|ah<|ae 2<|ax ⟨Z2,λt ht=>?_⟩;have s3:=aS ht<|.tup [.str "odd",.ref u];have jq:=(s1.trans sm).trans s2;exact q1 t u c _ (jq.trans s3) (jq.free ht) (fC u<|Au hu) aA (s3 _ _<|s2 _ _<|sm _ _ fc) ⟨cs,nK,gY⟩ k
  ·rw[BR λh=>k<|by have:=V.int.inj h;omega];refine bu<|aW<|aW ⟨_,sm.trans s2,λd hd=>?_,rfl⟩;rw[m8]at hd
   rcases Am.mp hd with h | h
   ·exact fH d h
   ·rw[Ad.mp h];omega
 ·rintro σ H2 ⟨u2,sm,fH,rfl⟩;rw[Aa,hCl,Bx]at fH;have ec:qP n ss:=⟨cs,nK,fH⟩;have qU:=s1.trans sm;refine aX 3 nd (bj GC hr<|ah<|ae 0<|ah<|bj GB hr<|ah<|ae 0<|ah<|bj GO hr<|ah<|ae 0<|ah<|ae 1<|ax ⟨R,p,as,n,ss,rfl,hR.same qU,by omega,by omega,qU _ _ hp,λO os H3 s3 n3 eO pO=>?_⟩);have jq:=qU.trans s3;refine ax ⟨R,O,as,n,os,_,rfl,hR.same jq,hN,hT,hn,d3,eO,Ud pO,q1b hT hf ec,λA ps H4 s4 eA x9=>?_⟩;have KS:=jq.trans s4;refine ax ⟨R,A,as,n,ps,rfl,hR.same KS,hT,by omega,d3,eA,λM ms H5 s5 n5 eM jJ mM lM=>?_⟩;have KU:=KS.trans s5;show Run _ _ _ [some<|.ref R,some<|.ref p,u2,some<|.ref M] H5;have hml:=uY hT (jA jJ) λz hz=>uV<|(mM z).mp hz;refine bQ (dR<|ah<|fK<|ah<|bj GM hr<|ah<|ae 1<|ah<|ae 3<|ax ⟨p,M,ss,ms,rfl,KU _ _ hp,eM,by omega,λL rs H6 s6 n6 eL sL nL mL=>ah<|ae 3<|ax ⟨Z3,λt ht=>?_⟩⟩);have Um:=KU.trans s6;have s7:=aS ht<|.tup [.str "parts",.ref L,.ref M];exact q2 t L M rs ms ps _ (Um.trans s7) (Um.free ht) (KU.free n6) (KS.free n5) (λe=>by rw[e,eM]at n6;cases n6) aA (s7 _ _ eL) (s7 _ _<|s6 _ _ eM) ec (uU sL nL) jJ (k2e hT x9 mM mL) mM mL
end
end E6
namespace L2
open PySem PySem.Spec PyProof.Rows
section
variable{X:Cx}{tg:Expr}
end
section
variable{X:Cx}{elt tg iter:Expr}{ifs:Õ}{scope:Scope}{pos:Pos}{N':Ò}{n:Nat}{wi:TI}{g:TG}{tc:TT}{te:TE}
end
section
variable{X:Cx}{elt tg iter c:Expr}{ifs:Õ}{scope:Scope}{pos p:Pos}{wi:TI}{σ:St}{H:Hp}{Q:VK}{T:Bool->Hp->Prop}{rest:Ö}{D:Ends}
end
section
variable{X:Cx}{k:Nat}{ps:Ò}{sp:Addr->Obj->Sp}{E:XK}{x:Str}{p pos:Pos}{e:Expr}{es:Õ}{σ:St}{H:Hp}{Q:VK}
end
end L2
namespace E6
open PySem L2 Nt bA bF
open PyProof.Rows (sortedS)
def qV:Sp:=λvs H Q _=>∃(R:Addr) (as:Ð) (n:Net),vs=[.ref R]/\ai H R as n/\n.length<=1000/\(ag n).length<=900/\(∀ zs:Ò,zs.Nodup->(∀ z∈zs,z∈ag n)->zs.length < 64) /\
 ∀(L:Addr) (ss:Ò) (H':Hp),aj H H'->H L=none->H' L=some (Ls ss)->ss.Nodup->sortedS ss=true->(∀ z,z∈ss↔z∈ag n)->Q (.ref L) H'
def k2d{zs:Ò}{z:Str}(h:zs.Nodup):(added zs z).Nodup:=by
 unfold added
 split
 ·exact h
 ·rename_i hz;exact nJ h hz
def k9i{zs:Ò}{z y:Str}:y∈added zs z↔y∈zs\/y=z:=by
 unfold added
 split
 ·rename_i hz;refine⟨.inl,λh=>h.elim id λe=>?_⟩;rw[e];exact hz
 ·rw[Am,Ad]
def Uo{n:Net}{r:Nat}(h:r < n.length):ag (n.take<|r+1)=ag (n.take r)++row n r:=by
 rw[iJ h];unfold ag;rw[Ck,Ab h,Dv];simp
def cm:Ò:=["NoNet","NoWalker","NoDouble","NoTie"]
structure Cl(K:PySem.W.Frag)(mg:Ó)(c:Str->Addr):Prop where
 net:mg "NetError" = some (.ref<|c "NetError")
 KW:XC K<|c "NetError"
 at':∀ x∈cm,mg x=some (.ref<|c x)/\XC K (c x)/\ni K (c x) (c "NetError")=true/\nj K (c x)=true/\PySem.W.kitOne K (.ref<|c x) (.type "ValueError")=some true
 K0:∀ x∈cm,∀ y∈cm,PySem.W.kitOne K (.ref<|c x) (.ref<|c y)=some (decide (x=y))
 own:∀ x∈cm,ni K (c x) (c x)=true
def ik(K:PySem.W.Frag)(x:Str):Addr:=match PySem.W.nsIn K mainGlobals x with
 | some (some<|.ref a)=>a
 | _=>0
def K1(K:PySem.W.Frag):Bool:=(PySem.W.nsIn K mainGlobals "NetError" == some (some<|.ref<|ik K "NetError")) && PySem.W.excIn K (ik K "NetError") nh "ValueError.__new__" &&
 cm.all λx=>(PySem.W.nsIn K mainGlobals x == some (some<|.ref<|ik K x)) && PySem.W.excIn K (ik K x) nh "ValueError.__new__" && ni K (ik K x) (ik K "NetError") && nj K (ik K x) && (PySem.W.kitOne K (.ref<|ik K x) (.type "ValueError") == some true) && ni K (ik K x) (ik K x) &&
  cm.all λy=>PySem.W.kitOne K (.ref<|ik K x) (.ref<|ik K y) == some (decide (x=y))
def x0g{K:PySem.W.Frag}{h:Heap}{mg:Ó}(X:K.In h)(G:h.Ns mainGlobals mg)(q:K1 K=true):Cl K mg (ik K):=by
 unfold K1 at q;simp only[Bn,Dw,HJ]at q;obtain⟨⟨q1,q2⟩,q3⟩:=q;exact⟨LQ X G q1,q2,λx hx=>by obtain⟨⟨⟨⟨⟨⟨a1,a2⟩,a3⟩,a4⟩,a5⟩,_⟩,_⟩:=q3 x hx;exact⟨LQ X G a1,a2,a3,a4,a5⟩,λx hx y hy=>(q3 x hx).2 y hy,λx hx=>(q3 x hx).1.2⟩
def Uq(n:Net):Prop:=∀ zs:Ò,zs.Nodup->(∀ z∈zs,z∈ag n)->zs.length < 64
def K2(c:Str->Addr):Sp:=λvs H Q E=>∃(R:Addr) (as:Ð) (n:Net) (z:Str),vs=[.ref R,.str z]/\ai H R as n/\n.length<=1000/\(ag n).length<=900/\Uq n /\
 (z∉ag n->∀ H',aj H H'->E (.ref<|c "NoTie") none H')/\(z∈ag n->∀ H',aj H H'->Q .non H')
section
variable{P:Program}{w:World}{K:PySem.W.Frag}{mg:Ó}{base:Heap}
abbrev w6:Ò:=["rows"]
abbrev w8:Ò:=["rows","point","ties","tie"]
def kJ:ak w6 ["rows"] (aU yr):=⟨rfl,rfl,rfl,by decide +kernel,rfl,by decide +kernel,by decide +kernel⟩
def K3:w8.Nodup:=by decide +kernel
def q5r{f:Addr}{fd:FuncData}(F:bE K "ties_of" "ties_of" yr f fd)(T:Txt mg):aG P w K mg base bH 1 f fd ["rows"] qV:=by
 refine F.gb kJ (λvs H Q E h=>?_) λb0 H vs Q E hr h=>?_
 ·obtain⟨R,as,n,rfl,_⟩:=h;rfl
 obtain⟨R,as,n,rfl,hR,hn,ht,cG,q⟩:=h;have nd:=kJ.nd;have bU:=hR.len;have sub:∀(zs:Ò) (r:Nat) (ys:Ò),zs.Nodup->(∀ z,z∈zs->z∈ag n)->zs.length < 64:=λzs r ys h1 h2=>cG zs h1 h2;have K4:∀ r,r < n.length->∀ z,z∈ag (n.take r)\/z∈row n r->z∈ag n:=λr mR z hz=>by
  have e:ag n=ag (n.take<|r+1)++ag (n.drop<|r+1):=by
   unfold ag;rw[<- Dv,Dc]
  rw[e,Uo mR]
  rcases hz with h | h <;> simp[h]
 show Run _ _ _ [some<|.ref R] H;refine bQ<|b4 (OL rfl) T.sorted DQ<|ah<|k8g (aU yr) w6 w8 3 (fU bv)<|ae 0 ⟨R,rfl,⟨_,aq.of hR.lst⟩,λD hD cl C s₀ H₀ ex=>?_⟩;refine vC (xs:=as.map λa=>V.ref a.1) (λr σ' H'=>(∃ v1 v2 v3,σ'=[some<|.ref R]++[v1,v2,v3])/\∃ zs:Ò,aj H H'/\H' D=some (bb P w D zs)/\zs.Nodup/\∀ z,z∈zs↔z∈ag (n.take r)) ⟨⟨none,none,none,rfl⟩,[],aS hD _,aA,Ch,λz=>Iff.rfl⟩ ?_ ?_ ?_
 ·rintro r σ' H' _ ⟨_,zs,sm,_⟩;exact aq.of<|sm _ _ hR.lst
 ·rintro r x σ' H' hx ⟨⟨v1,v2,v3,rfl⟩,zs,sm,eD,zn,zm⟩;have hi:r < n.length:=by
   have:=(Ac.mp hx).1;rw[Aa]at this;omega
  obtain⟨a,ea,cW,et,el,er⟩:=(hR.same sm).at hi;rw[Ai,ea]at hx;cases hx;refine jd rfl (aJ.of et) (bg 1 K3<|bg 2 K3 ?_);refine i6 ?_;rw[BP rfl];refine k73 rfl rfl (fU bv) (ae 2 ⟨a.2,rfl,⟨_,aq.of el⟩,?_⟩);have naD:a.2≠D:=ce el eD λz=>nomatch z;refine vC (xs:=(row n r).map V.str) (λp σ' bR=>(∃ v3,σ'=[some<|.ref R]++[some<|.str n[r].1,some<|.ref a.2,v3])/\∃ zs:Ò,(∀ b o,b≠D->H' b=some o->bR b=some o)/\bR D=some (bb P w D zs)/\zs.Nodup/\∀ z,z∈zs↔z∈ag (n.take r)\/z∈(row n r).take p)
   ⟨⟨_,rfl⟩,zs,λb o _ h=>h,eD,zn,λz=>by rw[zm z];simp⟩ ?_ ?_ ?_
  ·rintro p σ' bR _ ⟨_,zs,kb,_⟩;exact aq.of<|kb _ _ naD el
  ·rintro p x σ' bR hx ⟨⟨v3,rfl⟩,zs,kb,ig,zS,zT⟩;rw[Ai,Ay]at hx;obtain⟨z,hz,rfl⟩:=hx;refine bg 3 K3 ?_;refine i6 ?_;rw[BP rfl];have hl:zs.length < 64:=cG zs zS λy hy=>K4 r hi y<|((zT y).mp hy).imp id λh=>List.mem_of_mem_take h;refine k9c (ae 3 ⟨z,zs,rfl,ig,by omega,⟨_,rfl⟩,added zs z,λb o hb h=>by rw[av hb];exact kb b o hb h,aA,k2d zS,λy=>?_⟩);rw[k9i,zT y,Ck,hz,or_assoc];simp
  ·rintro σ' bR ⟨⟨v3,rfl⟩,zs,kb,ig,zS,zT⟩;refine⟨⟨_,_,_,rfl⟩,zs,λb o h=>kb b o (bq h hD)<|sm _ _ h,ig,zS,λz=>?_⟩;rw[zT z,Aa,Bx,Uo hi,Am]
 ·rintro σ' H' ⟨_,zs,sm,eD,zn,zm⟩;rw[Aa,bU,Bx]at zm;refine ax ⟨D,zs,rfl,eD,cG zs zn λy hy=>(zm y).mp hy,λl ss hl hp hs=>?_⟩;exact q l ss _ (sm.trans<|aS hl _) (ie sm hl) aA (hp.nodup_iff.mpr zn) hs λz=>by rw[hp.mem_iff,zm z]
abbrev NNd:Ò:=["rows","tie"]
def kK:ak NNd ["rows","tie"] (aU EW):=⟨rfl,rfl,rfl,by decide +kernel,rfl,by decide +kernel,by decide +kernel⟩
def q5h{f:Addr}{fd:FuncData}{c:Str->Addr}(F:bE K "need_tie" "need_tie" EW f fd)(T:Txt mg)(cl:Cl K mg c)(GT:aQ P w K mg base 1 "ties_of" ["rows"] qV):aG P w K mg base (XF P w) 2 f fd ["rows","tie"] (K2 c):=by
 refine F.gx kK (λvs H Q E h=>?_) λb0 H vs Q hr h=>?_
 ·obtain⟨R,as,n,z,rfl,_⟩:=h;rfl
 obtain⟨R,as,n,z,rfl,hR,hn,ht,cG,qE,qQ⟩:=h;have nd:=kK.nd;have mN:("NoTie" : Str)∈cm:=by decide
 show Run _ _ _ [some<|.ref R,some<|.str z] H;refine c9<|b8 BF<|ae 1<|bj GT hr<|ah<|ae 0<|ax ⟨R,as,n,rfl,hR,hn,ht,cG,λL ss H1 s1 n1 e1 snd so mem=>⟨L,_,rfl,.inl<|aq.of e1,rfl,jz _,_,rfl,?_⟩⟩;rw[BP rfl,ka,qR]
 by_cases hz:z∈ag n
 ·rw[BW<|(mem z).mpr hz];exact bu<|aW<|aW<|qQ hz _ s1
 ·rw[BR λk=>hz<|(mem z).mp k];refine bY<|k8t rzX (cl.at' _ mN).1 (cl.at' _ mN).2.1 rfl (ah<|fK<|ax ⟨Z1,qE hz _ s1⟩)
end
end E6
namespace Nt
open PySem L2 Classical
abbrev less(T:Ò)(t:Str):Ò:=T.filter λz=>!decide (z=t)
def d8{T:Ò}{t z:Str}:z∈less T t↔z∈T/\z≠t:=by
 rw[Bh,KY,GZ]
where
 nw (T:Ò) (t:Str) (hn:T.Nodup) (ht:t∈T):(T.filter λz=>!decide (z=t)).length+1=T.length:=by
  induction T with
  | nil=>cases ht
  | cons x r ih=>
   rw[Bc]at hn;rw[Db]
   by_cases e:x=t
   ·subst e;rw[BL (by simp),Gu.mpr λz hz=>by simp;exact λq=>hn.1<|q ▸ hz];rfl
   ·rw[BP (by simpa using e),Ap,Ap,ih hn.2<|(Aj.mp ht).resolve_left λq=>e q.symm]
def w9(n:Net)(z:Str)(w:Str)(ss:Ò):Prop:=b9 ss/\(∀ y∈ss,y∈ag n)/\z∈ss /\
  ((w = "double" ∧ eI n ss = true ∧ (∃ sd, bB n ss sd) ∧ ∃ cs, cD n cs ∧ ss ∈ cs) ∨
   (w = "cut"/\(∃ sd,bB n ss sd)/\eI n (less ss z)=true/\qP n [z]) \/
   (w = "round"/\eI n ss=true/\(∃ sd,bB n (less ss z) sd)/\qP n [z]))
def q52{n:Net}(T:aw n)(hf:HF n)(hN:(cb n).Nodup)(h0:0 < n.length){cs:List Ò}(C:cD n cs){c:Ò}(hc:c∈cs):b9 c/\(∀ z∈c,z∈ag n)/\eI n c=true/\∃ sd,bB n c sd:=by
 obtain⟨i,hi⟩:=Br hc;have my:=(Ac.mp hi).1;rw[C.len]at my;have jI:=Ab my;have hw:=Au jI;have wk:=nX T (ends n) [] (λe he=>he) _ hw;have m:=C.mem i _ _ hi jI;exact⟨C.oj c hc,zI wk.ends m,k66 T hw m,k6l T hf hN h0 hw m⟩
def q6s{c:Ò}(h:c.Nodup)(z:Str):(c.filter λy=>[z].contains y).length=if z∈c then 1 else 0:=by
 have e:(c.filter λy=>[z].contains y)=c.filter λy=>y == z:=by
  congr 1
  funext y
  rw[Cn,Ce,Ad,HJ]
 rw[e,<- List.count_eq_length_filter]
 by_cases k:z∈c
 ·rw[BP k];exact Nat.le_antisymm (Go.mp h z)<|De.mpr k
 ·rw[BL k];exact Ex k
def q59{n:Net}(T:aw n)(hf:HF n)(hN:(cb n).Nodup)(h0:0 < n.length){cs:List Ò}(C:cD n cs){c:Ò}(hc:c∈cs){z:Str}(h:(c.filter λy=>[z].contains y).length % 2=1):w9 n z "double" c:=by
 obtain⟨a1,a2,a3,a4⟩:=q52 T hf hN h0 C hc;rw[q6s<|jA a1]at h;refine⟨a1,a2,?_,.inl ⟨rfl,a3,a4,cs,C,hc⟩⟩
 by_cases k:z∈c
 ·exact k
 ·rw[BL k]at h;cases h
def Ur{ss:Ò}(h:b9 ss)(z:Str):b9 (less ss z):=h.sublist Gs
def q53{a b:Ò}{z:Str}(ha:b9 a)(hb:b9 b)(hx:jG [z] a b)(h:z∈a):less a z=b:=by
 refine Hi (Ur ha z) hb λy=>?_;rw[d8,hx y]
 by_cases k:y=z
 ·rw[BP<|Ad.mpr k,k];exact⟨λq=>absurd rfl q.2,λq=>absurd h q⟩
 ·rw[BL λq=>k<|Ad.mp q];exact⟨λq=>q.1,λq=>⟨q,k⟩⟩
def q1f{a b:Ò}{z:Str}(ha:b9 a)(hb:b9 b)(hx:jG [z] a b)(h:z∉a):z∈b/\less b z=a:=by
 have hz:z∈b:=(hx z).mpr (by rw[BP<|Ad.mpr rfl];exact h);refine⟨hz,Hi (Ur hb z) ha λy=>?_⟩;rw[d8,hx y]
 by_cases k:y=z
 ·rw[k];exact⟨λq=>absurd rfl q.2,λq=>absurd q h⟩
 ·rw[BL λq=>k<|Ad.mp q];exact⟨λq=>q.1,λq=>⟨q,k⟩⟩
def q6k{n:Net}(T:aw n)(h0:0 < n.length){z:Str}{rs cs ps:Ò}(ec:qP n [z])(qW:b9 rs)(jJ:b9 cs)(fH:eI n rs=true)(eY:∀ y,y∈cs↔dq n ps y)(hx:jG [z] cs rs)(h:z∈cs):w9 n z "cut" cs:=
 ⟨jJ,λy hy=>uV<|(eY y).mp hy,h,.inr<|.inl ⟨rfl,Qy T h0 ⟨jJ,ps,eY⟩,by rw[q53 jJ qW hx h];exact fH,ec⟩⟩
def k8d{n:Net}(T:aw n)(h0:0 < n.length){z:Str}(hz:z∈ag n){rs cs ps:Ò}(ec:qP n [z])(qW:b9 rs)(jJ:b9 cs)(fH:eI n rs=true)(eY:∀ y,y∈cs↔dq n ps y)(hx:jG [z] cs rs)(h:z∉cs):w9 n z "round" rs:=by
 obtain⟨h1,h2⟩:=q1f jJ qW hx h;refine⟨qW,λy hy=>?_,h1,.inr<|.inr ⟨rfl,fH,by rw[h2];exact Qy T h0 ⟨jJ,ps,eY⟩,ec⟩⟩;have:=(hx y).mp hy
 by_cases k:y∈[z]
 ·rw[Ad.mp k];exact hz
 ·rw[BL k]at this;exact uV<|(eY y).mp this
end Nt
namespace E6
open PySem L2 Nt bA bF
open PyProof.Rows (sortedS)
open Classical
def zU(c:Str->Addr):Sp:=λvs H Q E=>∃(R:Addr) (as:Ð) (n:Net) (z:Str),vs=[.ref R,.str z]/\ai H R as n/\(cb n).Nodup/\aw n/\HF n/\0 < n.length/\n.length<=31/\(ag n).length<=60 /\
 (z∉ag n->∀ H',aj H H'->E (.ref<|c "NoTie") none H')/\(z∈ag n->∀(t L:Addr) (w:Str) (ss:Ò) (H':Hp),aj H H'->H t=none->H L=none->H' t=some (.tup [.str w,.ref L])->H' L=some (Ls ss)->w9 n z w ss->Q (.ref t) H')
section
variable{P:Program}{w:World}{K:PySem.W.Frag}{mg:Ó}{base:Heap}
abbrev NKi:Ò:=["rows","tie","told"]
def xa:ak NKi ["rows","tie"] (aU E4):=⟨rfl,rfl,rfl,by decide +kernel,rfl,by decide +kernel,by decide +kernel⟩
def q4o{f:Addr}{fd:FuncData}{c:Str->Addr}(F:bE K "kind_of" "kind_of" E4 f fd)(T:Txt mg)(cl:Cl K mg c)(GN:d7 P w K mg base 7 "need_tie" ["rows","tie"]<|K2 c)(GP:aQ P w K mg base 7 "parted" ["rows","some"] KI) :
  aG P w K mg base (XF P w) 8 f fd ["rows","tie"] (zU c):=by
 refine F.gx xa (λvs H Q E h=>?_) λb0 H vs Q hr h=>?_
 ·obtain⟨R,as,n,z,rfl,_⟩:=h;rfl
 obtain⟨R,as,n,z,rfl,hR,hN,hT,hf,h0,hn,d3,qE,qQ⟩:=h;have nd:=xa.nd;have few:Uq n:=λzs h1 h2=>by have:=aV h1 h2;omega
 show Run _ _ _ [some<|.ref R,some<|.str z,none] H;refine fM (JS GN hr x0t<|ah<|ae 0<|ah<|ae 1<|ax ⟨R,as,n,z,rfl,hR,by omega,by omega,few,λhz=>qE hz,λhz H1 s1=>?_⟩);refine aX 2 nd<|bj GP hr<|ah<|ae 0<|ah<|dF<|ah<|ae 1<|ax ⟨Z1,λA hA=>?_⟩;have sA:=aS hA<|.lst [.str z];have eA:(upd H1 A<|.lst [.str z]) A=some (Ls [z]):=aA;generalize upd H1 A (.lst [.str z])=H2 at sA eA;have s2:=s1.trans sA;refine ax ⟨R,A,as,n,[z],rfl,hR.same s2,hN,hT,hf,hn,d3,eA,Bc.mpr ⟨Cm,Ch⟩,λy hy=>by rw[Ad.mp hy];exact hz,λt L c H3 s3 nt nL et eL ⟨cs,C,hc⟩ mI=>?_,λt L M rs cs ps H3 s3 nt nL nM hLM et eL eM ec qW jJ fH eY hx=>?_⟩
 ·show Run _ _ _ [some<|.ref R,some<|.str z,some<|.ref t] H3;refine c9<|b8 fV<|aP bt<|ae 2<|aC ⟨t,_,_,.str "odd",rfl,rfl,aJ.of et,rfl,fK ⟨rfl,_,rfl,?_⟩⟩;rw[BW rfl];refine bY<|bQ<|dR<|ah<|fK<|ah<|aP bt<|ae 2<|aC ⟨t,_,_,.ref L,rfl,rfl,aJ.of et,rfl,ax ⟨Z2,λu hu=>?_⟩⟩;have su:=aS hu<|.tup [.str "double",.ref L];have jq:=s2.trans s3;exact qQ hz u L "double" c _ (jq.trans su) (jq.free hu) (s2.free nL) aA (su _ _ eL)<|q59 hT hf hN h0 C hc mI
 ·show Run _ _ _ [some<|.ref R,some<|.str z,some<|.ref t] H3;refine c9<|b8 fV<|aP bt<|ae 2<|aC ⟨t,_,_,.str "parts",rfl,rfl,aJ.of et,rfl,fK ⟨rfl,_,rfl,?_⟩⟩;rw[BR<|by decide];refine bu<|aW<|bQ<|Xm<|b8 lP<|ae 1<|aP bt<|ae 2<|aC ⟨t,_,_,.ref M,rfl,rfl,aJ.of et,rfl,M,_,rfl,.inl<|aq.of eM,rfl,jz _,_,rfl,?_⟩;have fF:∀(x y:Bool),(if false=true then x else y)=y:=λ_ _=>rfl;rw[fF,ka,qR];have jq:=s2.trans s3
  by_cases k:z∈cs
  ·rw[BW k];refine bY<|dR<|ah<|fK<|ah<|aP bt<|ae 2<|aC ⟨t,_,_,.ref M,rfl,rfl,aJ.of et,rfl,ax ⟨Z2,λu hu=>?_⟩⟩;have su:=aS hu<|.tup [.str "cut",.ref M];exact qQ hz u M "cut" cs _ (jq.trans su) (jq.free hu) (s2.free nM) aA (su _ _ eM)<|q6k hT h0 ec qW jJ fH eY hx k
  ·rw[BR k];refine bu<|dR<|ah<|fK<|ah<|aP bt<|ae 2<|aC ⟨t,_,_,.ref L,rfl,rfl,aJ.of et,rfl,ax ⟨Z2,λu hu=>?_⟩⟩;have su:=aS hu<|.tup [.str "round",.ref L];exact qQ hz u L "round" rs _ (jq.trans su) (jq.free hu) (s2.free nL) aA (su _ _ eL)<|k8d hT h0 hz ec qW jJ fH eY hx k
end
end E6
namespace PySem
section
variable{prog:Program}{w:World}{K:Type} [DecidableEq K] {knd:HeapKind prog w K} {A:Around} {E:Ï} {s:Shared}
end
end PySem
namespace L2
open PySem PySem.Spec PyProof.Rows
section
variable{X:Cx}{σ:St}{H:Hp}{Q:VK}{o e:Expr}{pos:Pos}
end
end L2
namespace E6
open PySem L2 Nt bA
open PyProof.Rows (sortedS)
open Classical
def K5:Sp:=λvs H Q _=>∃(R a:Addr) (as:Ð) (n:Net) (ss:Ò),vs=[.ref R,.ref a]/\ai H R as n/\n.length<=60/\(ag n).length<=1000/\H a=some (Ls ss)/\∀ H',aj H H'->Q (.bl<|eI n ss) H'
def K6:Sp:=λvs H Q _=>∃(a d:Addr) (xs:Ò) (n:Net) (ks:Ò),vs=[.ref a,.ref d]/\H a=some (Ls xs)/\xs.length<=1000/\bM H d n ks/\b9 xs/\(∀ z∈xs,z∈ag n)/\Q (.bl true) H
def K7:Sp:=λvs H Q _=>∃(R p:Addr) (as:Ð) (n:Net) (ss:Ò),vs=[.ref R,.ref p]/\ai H R as n/\aw n/\dA n/\(n.map (·.1)).Nodup/\0 < n.length/\n.length<=60/\(ag n).length<=60/\H p=some (Ls ss)/\(∀ z∈ss,z∈ag n) /\
 (∀(L:Addr) (sd:Ò) (H':Hp),aj H H'->H L=none->H' L=some (Ls sd)->bB n ss sd->Q (.ref L) H')/\(∀ H',aj H H'->(∀ sd,¬ bB n ss sd)->Q .non H')
theorem K8{kvs:List (Key×V)}(hn:(kvs.map (·.1)).Nodup){k:Key}{v:V}:(k,v)∈kvs↔aD kvs k=some v:=by
 induction kvs with
 | nil=>exact⟨λh=>(by cases h),λh=>(by cases h)⟩
 | cons c r ih=>
  rw[Bi,Bc]at hn;obtain⟨c1,c2⟩:=c
  by_cases hc:c1=k
  ·subst hc;rw[g9 rfl]
   constructor
   ·intro h
    rcases Aj.mp h with e | e
    ·cases e;rfl
    ·exact absurd (Al.mpr ⟨_,e,rfl⟩) hn.1
   ·intro h;cases h;exact Ae ..
  ·rw[gN hc,<- ih hn.2]
   constructor
   ·intro h
    rcases Aj.mp h with e | e
    ·cases e;exact absurd rfl hc
    ·exact e
   ·exact Ah _
def qX:V->Bool
 | .bl b=>b
 | _=>false
def qY:Key->Nat
 | Sum.inl i=>i.toNat
 | _=>0
def jK(n:Net)(kvs:List<|Key×V):Ò:=(kvs.filter λp=>qX p.2).map λp=>aH n<|qY p.1
def Us(n:Net)(kvs:List<|Key×V):(jK n kvs).length<=kvs.length:=by
 unfold jK;rw[Aa];exact Dl _ _
def k23(n:Net)(kvs:List<|Key×V)(p:Key×V):jK n (kvs++[p])=jK n kvs++(if qX p.2=true then [aH n<|qY p.1]else []):=by
 unfold jK;rw[Cr,Ak]
 congr 1
 cases h:qX p.2 <;> simp[h]
def k5t{n:Net}{kvs:List (Key×V)}(hn:(kvs.map (·.1)).Nodup)(ht:∀ k∈kvs.map (·.1),∃ r:Nat,k=Sum.inl (r:Int)/\r < n.length)(x:Str):x∈jK n kvs↔∃ r:Nat,dh kvs r true/\x=aH n r:=by
 unfold jK;rw[Al]
 constructor
 ·rintro ⟨⟨k,v⟩,hp,rfl⟩;rw[Bh]at hp;obtain⟨r,hy,_⟩:=ht k<|Al.mpr ⟨_,hp.1,rfl⟩;have hv:qX v=true:=hp.2;subst hy;refine⟨r,(K8 hn).mp ?_,?_⟩
  ·cases v with
   | bl b=>
    have:b=true:=hv;subst this;exact hp.1
   | _=>cases hv
  ·show aH n ((r:Int).toNat)=aH n r;rw[Bd]
 ·rintro ⟨r,hb,rfl⟩;refine⟨(Sum.inl (r:Int),.bl true),Bh.mpr ⟨(K8 hn).mpr hb,rfl⟩,?_⟩;show aH n ((r:Int).toNat)=aH n r;rw[Bd]
def k0s{n:Net}(lD:(n.map (·.1)).Nodup){kvs:List (Key×V)}(hn:(kvs.map (·.1)).Nodup)(ht:∀ k∈kvs.map (·.1),∃ r:Nat,k=Sum.inl (r:Int)/\r < n.length):(jK n kvs).Nodup:=by
 have e:((kvs.filter λp=>qX p.2).map (·.1)).Nodup:=hn.sublist<|List.filter_sublist.map _;unfold jK;rw[Cg,Dz]at e ⊢;refine List.Pairwise.imp_of_mem (λ{a b} ha hb h q=>h ?_) e;obtain⟨r,hr,lr⟩:=ht a.1<|Al.mpr ⟨a,(Bh.mp ha).1,rfl⟩;obtain⟨r',mR,lr'⟩:=ht b.1<|Al.mpr ⟨b,(Bh.mp hb).1,rfl⟩;rw[hr,mR]at q ⊢;have q:aH n ((r:Int).toNat)=aH n ((r':Int).toNat):=q;rw[Bd,Bd]at q;rw[sK lD lr lr' q]
abbrev Li(lf:List Nat):HO:= .lst<|lf.map λ(r:Nat)=>V.int (r:Int)
def k91(lf:List Nat)(h:Nat):(((lf++[h]).map λ(r:Nat)=>V.int (r:Int))[((lf++[h]).map λ(r:Nat)=>V.int (r:Int)).length - 1]?=some (.int (h:Int)))/\((lf++[h]).map λ(r:Nat)=>V.int (r:Int)).dropLast=lf.map λ(r:Nat)=>V.int (r:Int):=by
 rw[Ak]
 constructor
 ·simp
 ·exact List.dropLast_concat
section
variable{P:Program}{w:World}{K:PySem.W.Frag}{mg:Ó}{base:Heap}
def k7b{kvs:List (Key×V)}{ks:Ò}(h:kvs.map (·.1)=ks.map Sum.inr):(kvs.map λp=>kV p.1)=ks.map V.str:=by
 have e:(kvs.map λp=>kV p.1)=(kvs.map (·.1)).map kV:=by rw[Cd];rfl
 rw[e,h,Cd];rfl
def q4s{X:Cx}{e:Expr}{p1 p2 p3 p4 p5 p6:Pos}{σ:St}{H:Hp}{Q:VK}{k:Nat}
  (hc:X.calm=true) (hS:X.mg "sorted" = none) (hL:X.mg "list" = none)
  (G:aQ X.prog X.w X.K X.mg X.base k "_law_seats" ["_law_rows"] pV) (hr:bo k X.A)
  (h:Ev X e σ H λv H1=>∃(R:Addr) (as:Ð) (n:Net),v = .ref R/\ai H1 R as n/\n.length<=1000/\(ag n).length<=60/\∀ l ss H',aj H1 H'->H1 l=none->H' l=some (Ls ss)->ss.length<=60->b9 ss->(∀ z,z∈ss↔z∈ag n)->Q (.ref l) H')
  (g1:Gl X "sorted":=by rfl) (g2:Gl X "list":=by rfl) (g3:Gl X "_law_seats":=by rfl) (cn:isStar e=false:=by rfl) (hn:noStar [e]=true:=by rfl) :
  Ev X (.Call (.Name "sorted" p1) [.Call (.Name "list" p2) [.Call (.Name "_law_seats" p3) [e] [] p4] [] p5] [] p6) σ H Q:=by
 refine b4 ya hS DQ (ah<|lY (ZZ hc) hL LK (ah<|bj G hr (ah (h.mono λv H1 hv=>?_) cn) g3 rfl hn) g2) g1;obtain⟨R,as,n,rfl,hR,h1,h2,q⟩:=hv;refine ax ⟨R,as,n,rfl,hR,h1,by omega,λd ks H' sm sy S=>?_⟩;obtain⟨kvs,K9,Ut,Uu⟩:=S.dict;have sg:ks.length<=60:=By (aV S.nodup λz hz=>(S.mem z).mp hz) h2;refine ax ⟨d,kvs,rfl,.inl K9,λl hl=>?_⟩;rw[k7b Ut];refine ax ⟨l,ks,rfl,aq.of aA,by omega,λl2 ss iW hp hs=>?_⟩;have s2:=aS hl<|Ls ks;have s3:=aS iW<|.lst<|ss.map V.str;exact q l2 ss _ ((sm.trans s2).trans s3) (ie (sm.trans s2) iW) aA (by rw[hp.length_eq];exact sg) (uU hs<|hp.nodup_iff.mpr S.nodup) λz=>(hp.mem_iff).trans<|S.mem z
def k6p(n:Net)(ss:Ò)(r:Str×List Str):eI (n++[r]) ss=(eI n ss && ((r.2.filter λz=>ss.contains z).length % 2 == 0)):=by
 unfold eI;rw[List.all_append];simp
abbrev NI:Ò:=["_law_rows","_law_some","_law_row"]
abbrev Uv:Ò:=["_law_rows","_law_some","_law_row","_law_tie"]
def oI:ak NI ["_law_rows","_law_some"] (aU yx):=⟨rfl,rfl,rfl,by decide +kernel,rfl,by decide +kernel,by decide +kernel⟩
def K':Uv.Nodup:=by decide +kernel
theorem q03{n:Net}{ss:Ò}{i:Nat}(hi:i < n.length)(h:¬((row n i).filter λz=>ss.contains z).length % 2=0):eI n ss=false:=by
 cases e:eI n ss with
 | false=>rfl
 | true=>
  unfold eI at e;have:=Dw.mp e n[i]<|Bu hi;rw[HJ,<- iJ hi]at this;exact absurd this h
def q93{f:Addr}{fd:FuncData}(F:bE K "_law_is_round" "_law_is_round" yx f fd)(T:Txt mg):aG P w K mg base bH 1 f fd ["_law_rows","_law_some"] K5:=by
 refine F.gb oI (λvs H Q E h=>?_) λb0 H vs Q E hr h=>?_
 ·obtain⟨R,a,as,n,ss,rfl,_⟩:=h;rfl
 obtain⟨R,a,as,n,ss,rfl,hR,hn,ht,ha,q⟩:=h;have nd:=oI.nd;have bU:=hR.len;show Run _ _ _ [some<|.ref R,some<|.ref a,none] H;refine jU<|ae 0 ⟨R,rfl,⟨_,aq.of hR.lst⟩,jV (xs:=as.map λa=>V.ref a.1) (λi σ H3=>aj H H3/\eI (n.take i) ss=true/\∃ u,σ=[some<|.ref R,some<|.ref a,u]) ⟨aj.refl H,rfl,_,rfl⟩ ?_ ?_ ?_⟩
 ·rintro i σ H3 _ ⟨sm,_,_,_⟩;exact aq.of<|sm _ _ hR.lst
 ·rintro i x σ H3 hx ⟨sm,ev,u,rfl⟩;have hi:i < n.length:=by
   have:=(Ac.mp hx).1;rw[Aa]at this;omega
  obtain⟨b,eb,cW,et,el,er⟩:=(hR.same sm).at hi;rw[Ai,eb]at hx;cases hx;have fE:(row n i).length<=1000:=By (iD n i) ht;refine bg 2 nd ?_;refine yb (λk H4=>aj H3 H4/\k=decide (((row n i).filter λz=>ss.contains z).length % 2=1)) (λσ' H'=>aj H H'/\eI (n.take<|i+1) ss=true/\∃ u,σ'=[some<|.ref R,some<|.ref a,u]) ?_ ?_ ?_ λσ' H' h=>aW h
  ·refine b8 fV<|a7 cL<|b4 dE T.len DR<|ah<|jv (aU yx) NI Uv 1 (fU bv)<|aP bt<|ae 2<|aC ⟨b.1,_,_,.ref b.2,rfl,rfl,aJ.of et,rfl,b.2,rfl,⟨_,aq.of el⟩,λD hD=>?_⟩;refine uG (σ:=[some<|.ref R,some<|.ref a,some<|.ref b.1]) (λz=>ss.contains z) (b5<|by omega) el hD (λcl C s₀ H₀ ex v v0 H' R' h=>bg 3 K' h) (λcl C s₀ H₀ ex z ys T' h=>?_) (λcl C s₀ H₀ ex z H' R' h=>ae 3 h) ?_
   ·refine nP (b8 lP<|ae 3<|ae 1 ⟨a,_,rfl,.inl (aq.of<|by rw[av<|bq (sm _ _ ha) hD];exact sm _ _ ha),rfl,jz _,_,rfl,?_⟩);show T' (rq (.str z)<|ss.map V.str) _;rw[ka];exact h
   ·refine ax ⟨D,_,rfl,.inl<|aq.of aA,aC ⟨_,_,rfl,rfl,(by show(0:Int) < 2;decide),aC ⟨rfl,_,rfl,aS hD _,?_⟩⟩⟩;rw[Aa];refine decide_eq_decide.mpr ⟨λh=>?_,λh=>?_⟩
    ·have:=V.int.inj h;omega
    ·have:((((row n i).filter λz=>ss.contains z).length:Int)) % 2=1:=by omega
     exact BZ V.int this
  ·rintro H4 ⟨s4,e⟩;have hb:=BX e.symm;refine bQ<|rE ?_;rw[<- q03 (ss:=ss) hi<|by omega];exact q H4<|sm.trans s4
  ·rintro H4 ⟨s4,e⟩;have hb:=HS e.symm;refine aW ⟨sm.trans s4,?_,_,rfl⟩;rw[Ck,Ab hi];show eI (n.take i++[n[i]]) ss=true;rw[k6p,ev,<- iJ hi,Gy,HJ];omega
 ·rintro σ H3 ⟨sm,ev,u,rfl⟩;rw[Aa,bU,Bx]at ev;refine bQ<|rE ?_;rw[<- ev];exact q H3 sm
abbrev NIs:Ò:=["_law_found","_law_ties","_law_k"]
def xc:ak NIs ["_law_found","_law_ties"] (aU FD):=⟨rfl,rfl,rfl,by decide +kernel,rfl,by decide +kernel,by decide +kernel⟩
def q1n{f:Addr}{fd:FuncData}(F:bE K "_law_is_set" "_law_is_set" FD f fd)(T:Txt mg):aG P w K mg base bH 1 f fd ["_law_found","_law_ties"] K6:=by
 refine F.gb xc (λvs H Q E h=>?_) λb0 H vs Q E hr h=>?_
 ·obtain⟨a,d,xs,n,ks,rfl,_⟩:=h;rfl
 obtain⟨a,d,xs,n,ks,rfl,ha,hl,S,so,hm,q⟩:=h;have nd:=xc.nd;have hu:=hr.u1;obtain⟨kvs,K9,Ut,Uu⟩:=S.dict;show Run _ _ _ [some<|.ref a,some<|.ref d,none] H;refine c9<|lZ<|l7<|b4 xK T.rY DY<|ah<|ae 0<|ah<|ui (.ty "list") T.j7 LK rfl (ax ⟨_,_,_,true,rfl,.lst ha,Ik K,true,rfl,bu<|aW ?_⟩);refine kS T.range (b4 dE T.len DR<|ah<|ae 0<|ax ⟨a,_,rfl,.inl<|aq.of ha,_,rfl,by omega,by rw[Aa];omega,?_⟩);rw[Aa,Bd];refine kU (λi σ H3=>H3=H/\∃ u,σ=[some<|.ref a,some<|.ref d,u]) ⟨rfl,_,rfl⟩ ?_ ?_
 ·rintro i σ H3 hi ⟨rfl,u,rfl⟩;rw[Du];have La:dN (xs.map V.str) (i:Int)=some (.str xs[i]):=pK<|Ab hi;obtain⟨ar,ts,hv,_⟩:=Uu _<|hm _<|Bu hi;refine bg 2 nd ?_;refine c9<|rG<|xP<|lZ<|l7<|b4 xK T.rY DY<|ah<|aP cF<|ae 0<|ae 2 ⟨a,_,_,.str xs[i],rfl,rfl,aq.of ha,La,ah<|ui (.ty "str") T.pT MP rfl (ax ⟨_,_,_,true,rfl,.str _,vE K,true,rfl,bu ?_⟩)⟩;refine CY<|OX hu<|aP cF<|ae 0<|ae 2 ⟨a,_,_,.str xs[i],rfl,rfl,aq.of ha,La,ae 1 ⟨d,_,rfl,a8.k (k:=Sum.inr xs[i]) K9,?_⟩⟩;rw[hv];refine bu<|aW ?_;refine c9<|rG<|CO<|b8 MC<|ae 2<|aC ⟨_,_,rfl,rfl,_,rfl,?_⟩
  by_cases h0:0 < i
  ·rw[BP<|BW (show(0:Int) < (i:Int) by omega)];have Uw:i - 1 < xs.length:=by omega
   have at0:dN (xs.map V.str) ((i:Int) - 1)=some (.str xs[i - 1]):=by
    have e:((i:Int) - 1)=((i - 1:Nat):Int):=by omega
    rw[e];exact pK<|Ab Uw
   refine CU<|lZ<|b8 VX<|aP cF<|ae 0<|a7 Mw<|ae 2<|aC ⟨_,_,rfl,rfl,a,_,_,.str xs[i - 1],rfl,rfl,aq.of ha,at0,aP cF<|ae 0<|ae 2 ⟨a,_,_,.str xs[i],rfl,rfl,aq.of ha,La,_,_,rfl,rfl,_,rfl,?_⟩⟩;have:=Bo.mp so (i - 1) i Uw hi (by omega);rw[BW this];exact bu<|aW<|aW ⟨rfl,_,rfl⟩
  ·rw[BL λh=>h0<|by have:=BX h;omega];exact bu<|aW<|aW ⟨rfl,_,rfl⟩
 ·rintro σ H3 ⟨rfl,u,rfl⟩;exact bQ<|rE q
abbrev Ux:Ò:=["_law_rows","_law_some","_law_seats_here","_law_beyond","_law_left","_law_r","_law_place","_law_there","_law_due"]
abbrev xf:Ò:=["_law_rows","_law_some","_law_seats_here","_law_beyond","_law_left","?","_law_place","_law_there","_law_due","_law_r"]
def xg:ak Ux ["_law_rows","_law_some"] (aU yy):=⟨rfl,rfl,rfl,by decide +kernel,rfl,by decide +kernel,by decide +kernel⟩
def x08:xf.Nodup:=by decide +kernel
def q0u{f:Addr}{fd:FuncData}(F:bE K "_law_side" "_law_side" yy f fd)(T:Txt mg)
  (GS:aQ P w K mg base 2 "_law_seats" ["_law_rows"] pV)
  (GO:aQ P w K mg base 2 "_law_other" ["_law_rows","_law_seats_here","_law_end"] yB) :
  aG P w K mg base bH 3 f fd ["_law_rows","_law_some"] K7:=by
 refine F.gb xg (λvs H Q E h=>?_) λb0 H vs Q E hr h=>?_
 ·obtain⟨R,p,as,n,ss,rfl,_⟩:=h;rfl
 obtain⟨R,p,as,n,ss,rfl,hR,hT,hHg,lD,h0,hn,d3,hp,uX,q1,q2⟩:=h;have nd:=xg.nd;have hu:=hr.hU;have fc:=hr.u1;have bU:=hR.len;show Run _ _ _ [some<|.ref R,some<|.ref p,none,none,none,none,none,none,none] H;refine aX 2 nd (bj GS hr<|ah<|ae 0<|ax ⟨R,as,n,rfl,hR,by omega,by omega,λoJ ks H1 s1 n1 S1=>?_⟩);refine aX 3 nd<|q05 fc λd hd=>aC<|rE ⟨_,bZ.k (k:=Sum.inl 0) aA<|b5<|Bz _,?_⟩;rw[tE];refine aX 4 nd<|dF<|ah<|aC<|ax ⟨Z1,λM hM=>?_⟩;have lv:M≠d:=λe=>by rw[e,aA]at hM;cases hM
 have Uy:H1 M=none:=by rw[av lv]at hM;exact hM
 have s0:aj H1 (upd (upd H1 d<|.dK<|putK [] (Sum.inl 0)<|.bl false) M<|.lst [.int 0]):=(aS hd _).trans<|aS hM _;have wa:(upd (upd H1 d<|.dK<|putK [] (Sum.inl 0)<|.bl false) M<|.lst [.int 0]) d=some (.dK<|putK [] (Sum.inl 0)<|.bl false):=by rw[av<|CG lv,aA]
 have wc:(upd (upd H1 d<|.dK<|putK [] (Sum.inl 0)<|.bl false) M<|.lst [.int 0]) M=some (Li [0]):=aA;show Run _ _ _ [some<|.ref R,some<|.ref p,some<|.ref oJ,some<|.ref d,some<|.ref M,none,none,none,none] (upd (upd H1 d<|.dK<|putK [] (Sum.inl 0)<|.bl false) M<|.lst [.int 0]);generalize upd (upd H1 d<|.dK<|putK [] (Sum.inl 0)<|.bl false) M (.lst [.int 0])=H0 at s0 wa wc;refine yc (λm σ H'=>m<=1000/\∃(kvs:List<|Key×V) (lf:List Nat) (u5 u6 u7 u8:Option V),aj H1 H'/\H' d=some (.dK kvs)/\H' M=some (Li lf)/\cX n ss none kvs lf/\m=2 * (n.length - kvs.length)+lf.length /\
   σ=[some<|.ref R,some<|.ref p,some<|.ref oJ,some<|.ref d,some<|.ref M,u5,u6,u7,u8]) (m0:=2 * (n.length - 1)+1)
  ⟨by omega,_,[0],_,_,_,_,s0,wa,wc,cX.start h0,rfl,rfl⟩ ?_
 rintro m σ H2 ⟨hm,kvs,lf,u5,u6,u7,u8,s2,xh,qZ,I,em,rfl⟩;refine b8 (uA hu)<|ae 4<|dF<|ax ⟨Z0,λpe IU=>?_⟩;have se:=aS IU<|.lst [];have s2:=s2.trans se;have xh:=se _ _ xh;have qZ:=se _ _ qZ;have Lb:(upd H2 pe<|.lst []) pe=some (.lst []):=aA;generalize upd H2 pe (.lst [])=H3 at s2 xh qZ Lb ⊢
 rcases List.eq_nil_or_concat lf with e | ⟨lE,hh,e⟩
 ·subst e;refine⟨1,_,by decide,EA (k:=0) (xs:=[]) (ys:=[]) (λ_=>true) (aq.of qZ) (aq.of Lb) rfl (λj x y hx _=>by simp at hx),_,rfl,bu ?_⟩;have Lc:∀ k∈kvs.map (·.1),∃ r:Nat,k=Sum.inl (r:Int)/\r < n.length:=I.num;have sg:=I.len;refine bQ<|b4 ya T.sorted DQ<|ah<|jv (aU yy) Ux xf 1 (Z7 bv)<|ae 3 ⟨d,kvs,rfl,xh,λob E2 zV=>?_⟩;have nE:E2≠d:=λe=>by rw[e,aA]at zV;cases zV
  have hE3:H3 E2=none:=by rw[av nE]at zV;exact zV
  have sH:aj H H3:=s1.trans s2;have vH:H d=none:=s1.free hd;have hE0:H E2=none:=sH.free hE3;have sU:∀ zs:Ò,aj H (upd (upd H3 d<|.bI ob<|.dK kvs) E2<|Ls zs):=λzs c o' hc=>by
   rw[av<|bq hc hE0,av<|bq hc vH];exact sH _ _ hc
  refine Z8 (λi σ' H'=>(∃ v,σ'=[some<|.ref R,some<|.ref p,some<|.ref oJ,some<|.ref d,some<|.ref M,u5,u6,u7,u8]++[v])/\H'=upd (upd H3 d<|.bI ob<|.dK kvs) E2 (Ls<|jK n<|kvs.take i)) ⟨⟨_,rfl⟩,rfl⟩ ?_ ?_ ?_
  ·rintro i σ' H' _ ⟨_,rfl⟩;rw[av<|CG nE,aA]
  ·rintro i pr σ' H' Uz ⟨⟨v,rfl⟩,rfl⟩;have hm:pr∈kvs:=Au Uz;have m8:kvs.take (i+1)=kvs.take i++[pr]:=by rw[Ck,Uz];rfl
   obtain⟨k,vv⟩:=pr;obtain⟨r,rfl,fE⟩:=Lc k<|Al.mpr ⟨_,hm,rfl⟩;have hv:=(K8 I.gW).mp hm;obtain⟨b,rfl,_⟩:=I.val r vv hv;rw[m8,k23];intro cl C' s₀ H₀ ex;refine bg 9 x08 ?_;intro cl C' s₀ H₀ ex;have dg:a8 (upd (upd H3 d<|.bI ob<|.dK kvs) E2<|Ls<|jK n<|kvs.take i) d (kV<|Sum.inl (r:Int)) (some<|.bl b):=by
    rw[<- hv];exact .inl ⟨kvs,Sum.inl (r:Int),.inr ⟨ob,by rw[av<|CG nE,aA]⟩,rfl,rfl⟩
   refine nP<|l7<|gR fc<|ae 3<|ae 9 ⟨d,.bl b,rfl,dg,b,rfl,?_⟩;have mG:=By (Us n<|kvs.take i) (show(kvs.take i).length<=kvs.length by rw[Bk];omega);have UA:=hR.same<|sU<|jK n<|kvs.take i;obtain⟨a,ea,cW,et,el,er⟩:=UA.at fE
   by_cases hb:b=true
   ·rw[BP hb];intro cl C' s₀ H₀ ex;refine aP bt<|aP cF<|ae 0<|ae 9 ⟨R,_,_,.ref a.1,rfl,rfl,aq.of UA.lst,cW,aC ⟨a.1,_,_,.str n[r].1,rfl,rfl,aJ.of et,rfl,?_⟩⟩;refine⟨_,aA,by rw[Aa];exact b5 (by omega),⟨_,rfl⟩,?_⟩;rw[tE,BP (show qX (.bl b)=true from hb)];have:aH n (qY<|Sum.inl (r:Int))=n[r].1:=by
     show aH n ((r:Int).toNat)=_;rw[Bd,jf fE]
    rw[this];exact FH
   ·rw[BL hb];refine⟨⟨_,rfl⟩,?_⟩;rw[BL (show ¬ qX (.bl b)=true from hb),Bg]
  ·rintro σ' H' ⟨_,rfl⟩;rw[Bx];have mG:=Us n kvs;refine ax ⟨E2,_,rfl,aq.of aA,by omega,λl sd hl jc mE=>?_⟩;have sl:=aS hl<|.lst<|sd.map V.str;refine q1 l sd _ ((sU _).trans sl) ((sU _).free hl) aA<|I.whole hT hHg h0 lD uX (uU mE<|jc.nodup_iff.mpr<|k0s lD I.gW Lc) λx=>?_;rw[jc.mem_iff];exact k5t I.gW Lc x
 rw[List.concat_eq_append]at e;subst e;have lw:(lE++[hh]).length=lE.length+1:=by rw[Af];rfl
 refine⟨1,_,by decide,EB (k:=1) (aq.of qZ) (aq.of (xs:=[]) Lb) (by rw[Aa,lw];exact Nat.succ_ne_zero _),_,rfl,bY ?_⟩;obtain⟨hy,gP⟩:=k91 lE hh;refine aX 5 nd<|Y2 FJ UJ UL WC<|ae 4 (v:= .ref M) ⟨Or.inl ⟨rfl,_,aq.of qZ⟩,M,_,.int (hh:Int),rfl,rfl,qZ,hy,?_⟩;rw[gP];have I1:=I.pop;rw[lw]at em;have sA:aj H1 (upd H3 M<|Li lE):=fb s2 Uy;have UB:(upd H3 M<|Li lE) d=some (.dK kvs):=by rw[av<|CG lv];exact xh
 have UC:(upd H3 M<|Li lE) M=some (Li lE):=aA;show Run _ _ _ [some<|.ref R,some<|.ref p,some<|.ref oJ,some<|.ref d,some<|.ref M,some<|.int (hh:Int),u6,u7,u8] (upd H3 M<|Li lE);generalize upd H3 M (Li lE)=HA at sA UB UC;obtain⟨b0,hb0⟩:=I1.yT hh 0 rfl;have Ld:=I1.lt hb0;have UD:=hR.same<|s1.trans sA;obtain⟨a,ea,cW,et,el,er⟩:=UD.at Ld;have sW:=hR.tup hh a n[hh] ea<|Ab Ld;rw[<- iJ Ld]at sW;have rle:=iD n hh;refine kS T.range (b4 dE T.len DR<|ah<|aP bt<|aP cF<|ae 0<|ae 5 ⟨R,_,_,.ref a.1,rfl,rfl,aq.of UD.lst,cW,aC ⟨a.1,_,_,.ref a.2,rfl,rfl,aJ.of et,rfl,ax ⟨a.2,_,rfl,.inl<|aq.of el,_,rfl,by omega,by rw[Aa];omega,?_⟩⟩⟩);rw[Aa,Bd];refine kU (λi σ H'=>∃(kvs:List<|Key×V) (lf:List Nat) (u6 u7 u8:Option V),aj H1 H'/\H' d=some (.dK kvs)/\H' M=some (Li lf)/\cX n ss (some (hh,i)) kvs lf/\2 * (n.length - kvs.length)+lf.length < m /\
   σ=[some<|.ref R,some<|.ref p,some<|.ref oJ,some<|.ref d,some<|.ref M,some<|.int (hh:Int),u6,u7,u8])
  ⟨kvs,lE,_,_,_,sA,UB,UC,I1,by omega,rfl⟩ ?_ ?_
 ·rintro i σ HB hi ⟨kvs,lf,u6,u7,u8,sB,ed,eM,I,aY,rfl⟩;rw[Du];have hz:aI n (hh,i)=some (row n hh)[i]:=Ab hi;generalize (row n hh)[i]=z at hz;have he:((hh,i):Nt.End)∈ends n:=af.mpr ⟨z,hz⟩;have x0I:=qe hT hz;refine bg 6 nd ?_;refine aX 7 nd<|aP bt<|bj GO hr<|ah<|ae 0<|ah<|ae 2<|ah<|dR<|ah<|ae 5<|ah<|ae 6<|ax ⟨Z2,λt ht=>?_⟩;have sT:=aS ht<|Tp (hh,i);have sC:=sB.trans sT;have Le:=hR.same<|s1.trans sC;refine ax ⟨R,oJ,t,as,n,ks,(hh,i),rfl,Le,S1.same sC,hT,aA,he,λu nW=>aC ⟨u,_,_,.int ((other n (hh,i)).1:Int),rfl,rfl,aJ.of nW,rfl,?_⟩⟩;have ed:=sT _ _ ed;have eM:=sT _ _ eM;show Run _ _ _ [some<|.ref R,some<|.ref p,some<|.ref oJ,some<|.ref d,some<|.ref M,some<|.int (hh:Int),some<|.int (i:Int),some<|.int ((other n (hh,i)).1:Int),u8] (upd HB t<|Tp (hh,i));clear nW;generalize upd HB t (Tp (hh,i))=HC at sC Le ed eM;obtain⟨b,hb⟩:=I.yT hh i rfl;have el:=(s1.trans sC) _ _ sW.2;have et:=(s1.trans sC) _ _ sW.1;refine aX 8 nd (jT tU<|gR fc<|ae 3<|ae 5 ⟨d,.bl b,rfl,by rw[<- hb];exact a8.k (k:=Sum.inl (hh:Int)) ed,?_⟩);refine jT lP<|aP cF<|aP bt<|aP cF<|ae 0<|ae 5 ⟨R,_,_,.ref a.1,rfl,rfl,aq.of Le.lst,cW,aC ⟨a.1,_,_,.ref a.2,rfl,rfl,aJ.of et,rfl,ae 6 ⟨a.2,_,_,.str z,rfl,rfl,aq.of el,pK hz,ae 1 ⟨p,_,rfl,.inl<|aq.of<|(s1.trans sC) _ _ hp,rfl,jz _,rfl,?_⟩⟩⟩⟩;have fF:∀(x y:Bool),(if false=true then x else y)=y:=λ_ _=>rfl;rw[fF,ka,qR,xG];show Run _ _ _ [some<|.ref R,some<|.ref p,some<|.ref oJ,some<|.ref d,some<|.ref M,some<|.int (hh:Int),some<|.int (i:Int),some<|.int ((other n (hh,i)).1:Int),some<|.bl<|b != decide (z∈ss)] HC;refine c9<|OX fc<|ae 7<|ae 3 ⟨d,_,rfl,a8.k (k:=Sum.inl ((other n (hh,i)).1:Int)) ed,?_⟩;cases hg:aD kvs (Sum.inl ((other n (hh,i)).1:Int)) with
  | none=>
   refine bY ?_;have I':=I.new hT hz hb hg;have lk:=I.len;have lk':=I'.len;have sg:(putK kvs (Sum.inl ((other n (hh,i)).1:Int))<|.bl<|b != decide (z∈ss)).length=kvs.length+1:=by
    have:=BZ List.length<|Hf kvs (Sum.inl ((other n (hh,i)).1:Int))<|.bl<|b != decide (z∈ss);rw[BL<|Qq hg,Af,Aa,Aa]at this;exact this
   refine uB fc (ae 8<|ae 3<|ae 7 ⟨d,_,rfl,bZ.k (k:=Sum.inl ((other n (hh,i)).1:Int)) ed (b5<|by omega),?_⟩);have UE:(upd HC d<|.dK<|putK kvs (Sum.inl ((other n (hh,i)).1:Int))<|.bl<|b != decide (z∈ss)) M=some (Li lf):=by rw[av lv];exact eM
   refine fM (j4<|ae 4 ⟨M,rfl,⟨_,UE⟩,ae 7 ⟨_,UE,by rw[Aa];exact b5 (by omega),?_⟩⟩);refine aW<|aW ⟨_,lf++[(other n (hh,i)).1],_,_,_,fb (fb sC hd) Uy,?_,?_,I',?_,rfl⟩
   ·rw[av<|CG lv];exact aA
   ·rw[aA];show some (HO.lst<|(lf.map λ(r:Nat)=>V.int (r:Int))++[.int ((other n (hh,i)).1:Int)])=some (HO.lst<|(lf++[(other n (hh,i)).1]).map λ(r:Nat)=>V.int (r:Int));rw[Ak];rfl
   ·rw[sg,Af];rw[sg]at lk';show _+(lf.length+1) < m;omega
  | some v=>
   refine bu ?_;obtain⟨c,rfl,_⟩:=I.val _ v hg;refine c9<|b8 tU<|gR fc<|ae 3<|ae 7 ⟨d,.bl c,rfl,by rw[<- hg];exact a8.k (k:=Sum.inl ((other n (hh,i)).1:Int)) ed,ae 8 ⟨rfl,_,rfl,?_⟩⟩
   by_cases hc:c=(b != decide (z∈ss))
   ·rw[BW<|by rw[hc]];refine bu<|aW<|aW<|aW ⟨kvs,lf,_,_,_,sC,ed,eM,I.step hz hb (by rw[<- hc];exact hg),aY,rfl⟩
   ·rw[BR λh=>hc<|V.bl.inj h];refine bY<|bQ<|xN<|q2 HC (s1.trans sC)<|I.bad hT hz hb hg hc
 ·rintro σ HB ⟨kvs,lf,u6,u7,u8,sB,ed,eM,I,aY,rfl⟩;exact aW ⟨_,aY,by omega,kvs,lf,_,_,_,_,sB,ed,eM,I.close<|An _,rfl,rfl⟩
end
end E6
namespace Nt
open PySem L2
def k7q{k:Nat}(h:k<=1000):((k:Int)).natAbs.log2 < 1920:=by
 have e:((k:Int)).natAbs=k:=by omega
 rw[e];have:k.log2<=k:=Nat.log2_le_self k;omega
end Nt
namespace L2
open PySem PySem.Spec PyProof.Rows
def q2f{X:Cx}{σ:St}{H:Hp}{D:Ends}{rest body gJ:Ö}{Æ:Stmt}{x:Str}{S:Addr}{np hp pos:Pos}(Φ:Value->St->Hp->Prop)(hm:X.mg x=some (.ref S))(hS:XC X.K S)
  (hb:∀ p,Run (qL X p Φ) body {D with nx:=λσ' H'=>Run X rest D σ' H'} σ H)
  (hh:∀ C σ' H',Φ C σ' H'->∃ Ca,C = .ref Ca/\XC X.K Ca/\ni X.K Ca S=true/\∀ p ea oe,wt oe C->H' ea=none->Run (di X p ea) (Æ :: gJ) {D with nx:=λσ' H'=>Run X rest D σ' H'} σ' (upd H' ea<|XO oe))
  (hex:X.ex=[]:=by rfl) (cn:X.stack=X.env :: X.outer:=by rfl) (gO:X.env.frame=some X.env.locals:=by rfl)
  (hg:Gl X x:=by rfl) (cw:(x == ("__debug__" : Str))=false:=by decide) :
  Run X (.Try body [.ExceptHandler (some<|.Name x np) none (Æ :: gJ) hp] [] [] pos :: rest) D σ H:=by
 refine ju (t:=λD' σ H=>∀ p,Run (qL X p Φ) body {D with nx:=λσ' H'=>Run X rest D σ' H'} σ H/\D'={D with nx:=λσ' H'=>Run X rest D σ' H'}) ?_ λp=>⟨hb p,rfl⟩;intro p0 s σ H D' I h;obtain⟨hb,rfl⟩:=h p0;refine wpAny_Try_except<|CP (hb.run [] s<|(I.kH (pins:=[])).cZ _) (λf s1 q=>?_) λe s1 q=>?_
 ·have out:∀{pp:Ñ} {σ':St} {H':Hp},Inv (qL X p0 Φ) pp σ' H' s1->Inv X p0 σ' H' s1:=λJ=>(J.bG).dG;cases f with
  | next=>
   obtain⟨σ',H',J,q⟩:=q;exact AQ p0 s1 σ' H' _ (out J) q
  | brk=>obtain⟨σ',H',J,q⟩:=q;exact⟨σ',H',out J,q⟩
  | cont=>obtain⟨σ',H',J,q⟩:=q;exact⟨σ',H',out J,q⟩
  | ret u=>obtain⟨v,σ',H',J,r,q⟩:=q;exact⟨v,σ',H',out J,r,q⟩
 ·obtain⟨pp,σ',H',ea,T,C,rfl,J,x1,a1,a2,n1,n2,hΦ⟩:=q;obtain⟨Ca,rfl,hC,jZ,qM⟩:=hh C σ' H' hΦ;have fr:(X.bD p0).A.frames=some (X.env :: X.outer):=by rw[<- cn];exact J.ok.frames
  have jr:s1.heap.FunFrames X.base (X.env :: X.outer):=by rw[<- cn];exact J.stack
  refine JE fr jr gO x1 λh2 T' z x2 k=>?_;have k':Kp (cU (X.bD p0).stack) [ea,T] s1.heap h2:=by
   show Kp (cU X.stack) [ea,T] s1.heap h2;rw[cn];exact k
  have J2:Inv (X.bD p0) pp σ' H' {s1 with heap:=h2}:=J.kp (t':=s1.toks) hex k' (λb hb=>by
   rcases Aj.mp hb with y | y
   ·rw[y];exact a1
   ·rw[Ad.mp y];exact a2) (λb hb=>by
   rcases Aj.mp hb with y | y
   ·rw[y];exact n1
   ·rw[Ad.mp y];exact n2)
  have a3:=zK J hex z;have n3:H' T'=none:=wn J.aE z;have J3:Inv (di X p0 ea) pp σ' H' {s1 with heap:=h2}:=J2.hd;obtain⟨⟨oe,vs,he,hc,ng,hd,h1,mh⟩,bn,J0⟩:=id x2;refine wpAny_handleBy_cons (codeAny_handlers_test<|ri J3 hg hm ?_ cw) (by intro q;cases q);refine Ta J3.dL hC hS jZ he hc ?_;refine codeAny_handlers_suite<|S6 x2 λh3 x3 k3=>?_;have J4:Inv (di X p0 ea) pp σ' H' {s1 with heap:=h3}:=J3.kp (s:={s1 with heap:=h2}) (t':=s1.toks) (bad:=[T']) hex ⟨λb o q _ nb=>k3 b o (λy=>nb<|by simp[y]) q,λb o q hb=>⟨o.slots,k3 b o (λy=>by
   obtain⟨_,o',cJ,kQ⟩:=J3.stack.mem hb;obtain⟨oT,ts,hT,dT,_⟩:=J0;rw[y]at cJ;have:=cJ.symm.trans hT;cases this;exact kQ _ dT) q⟩⟩ (λb hb=>by rw[Ad.mp hb];exact⟨a3.l,a3.c,a3.p,a3.f,a3.s⟩) λb hb=>by rw[Ad.mp hb];exact n3
  obtain⟨⟨wx,J1,wy,J9,qN,J',wz,qO⟩,_,_⟩:=x3;have J5:Inv (di X p0 ea) pp σ' (upd H' ea<|XO wx) {s1 with heap:=h3}:=J4.oG hex ⟨a1.l,a1.c,a1.p,a1.f,a1.s⟩ n1 ⟨wy,⟨_,wy⟩⟩;refine CP ((qM p0 ea wx ⟨J9,qN,J1,J',qO⟩ n1).run pp _ J5) (λf s5 q=>?_) λ_ _ z=>z.elim;have out:∀{σ2:St} {H2:Hp} {s6:Shared},Inv (di X p0 ea) pp σ2 H2 s6->Inv X p0 σ2 H2 s6:=λJ=>((J.wv (oH:=[]) J2.ok.hd).dG);cases f with
  | next=>
   obtain⟨σ2,H2,J7,q⟩:=q;exact⟨σ2,H2,out J7,q⟩
  | brk=>
   obtain⟨σ2,H2,J7,q⟩:=q;exact⟨σ2,H2,out J7,q⟩
  | cont=>
   obtain⟨σ2,H2,J7,q⟩:=q;exact⟨σ2,H2,out J7,q⟩
  | ret u=>
   obtain⟨v,σ2,H2,J7,r,q⟩:=q;exact⟨v,σ2,H2,out J7,r,q⟩
end L2
namespace E6
open PySem L2 Nt bA bF
open PyProof.Rows (sortedS)
open Classical
def UH{X:Cx}{P:Program}{w:World}:lK (XF P w) X (λ_ _ _=>False):=λ_ _ _ _ _ _ _ h=>by
 obtain⟨_,_,_,_,_,h,_⟩:=h;exact h.elim
def k9y:bootBuiltins "ValueError" = some (.type "ValueError"):=by decide +kernel
def q1h(x y:Str):decide (V.str x=V.str y)=decide (x=y):=by
 rw[decide_eq_decide];exact⟨V.str.inj,λk=>by rw[k]⟩
def TK(n:Net)(z:Str)(H:Hp)(t:Addr):Prop:=∃ L w ss,H t=some (.tup [.str w,.ref L])/\H L=some (Ls ss)/\w9 n z w ss
def Lf:Sp:=λvs H Q _=>∃(R t:Addr) (as:Ð) (n:Net) (z:Str),vs=[.ref R,.str z,.ref t]/\ai H R as n/\(cb n).Nodup/\aw n/\dA n/\0 < n.length/\n.length<=31/\(ag n).length<=60/\TK n z H t/\∀ H',aj H H'->Q (.bl true) H'
def Lg:Sp:=λvs H Q _=>∃(R:Addr) (as:Ð) (n:Net) (z:Str),vs=[.ref R,.str z]/\ai H R as n/\(cb n).Nodup/\aw n/\HF n/\0 < n.length/\n.length<=31/\(ag n).length<=60/\z∉ag n/\∀ H',aj H H'->Q (.bl true) H'
def zW(K:PySem.W.Frag):Sp:=λvs H Q _=>∃(a:Addr) (ns:List Int),vs=[.ref a]/\aq K H a (ns.map V.int)/\ns.length<=63/\∀ H',Q (.bl true) H'
section
variable{P:Program}{w:World}{K:PySem.W.Frag}{mg:Ó}{base:Heap}
abbrev UI:Ò:=["_law_rows","_law_tie","_law_told","_law_rest"]
abbrev xi:Ò:=["_law_rows","_law_tie","_law_told","_law_rest","_law_one"]
def xj:ak UI ["_law_rows","_law_tie","_law_told"] (aU yz):=⟨rfl,rfl,rfl,by decide +kernel,rfl,by decide +kernel,by decide +kernel⟩
def q7b:xi.Nodup:=by decide +kernel
def q07{f:Addr}{fd:FuncData}(F:bE K "_law_shown" "_law_shown" yz f fd)(T:Txt mg)(GS:aQ P w K mg base 3 "_law_seats" ["_law_rows"] pV)(GI:aQ P w K mg base 3 "_law_is_set" ["_law_found","_law_ties"] K6)(GR:aQ P w K mg base 3 "_law_is_round" ["_law_rows","_law_some"] K5)(GD:aQ P w K mg base 3 "_law_side" ["_law_rows","_law_some"] K7):aG P w K mg base bH 4 f fd ["_law_rows","_law_tie","_law_told"] Lf:=by
 refine F.gb xj (λvs H Q E h=>?_) λb0 H vs Q E hr h=>?_
 ·obtain⟨R,t,as,n,z,rfl,_⟩:=h;rfl
 obtain⟨R,t,as,n,z,rfl,hR,hN,hT,hg,h0,hn,d3,⟨L,wd,ss,et,eL,so,mem,hz,ok⟩,q⟩:=h;have nd:=xj.nd;have lc:=uY hT (jA so) mem;show Run _ _ _ [some<|.ref R,some<|.str z,some<|.ref t,none] H;refine c9<|rG<|xP<|lZ<|l7<|b4 xK T.rY DY<|ah<|ae 2<|ah<|ui (.ty "tuple") T.pS PyProof.Rows.boot_tuple rfl (ax ⟨_,_,_,true,rfl,.tup et,Il K,true,rfl,bu ?_⟩);refine xP<|b8 tU<|b4 dE T.len DR<|ah<|ae 2<|ax ⟨t,_,rfl,.inr<|aJ.of et,aC ⟨rfl,_,rfl,bu ?_⟩⟩;refine CY<|lZ<|l7<|b4 xK T.rY DY<|ah<|aP bt<|ae 2<|aC ⟨t,_,_,.str wd,rfl,rfl,aJ.of et,rfl,ah<|ui (.ty "str") T.pT MP rfl (ax ⟨_,_,_,true,rfl,.str _,vE K,true,rfl,bu<|aW ?_⟩)⟩;refine c9 (rG<|xP<|lZ<|l7<|bj GI hr<|ah<|aP bt<|ae 2<|aC ⟨t,_,_,.ref L,rfl,rfl,aJ.of et,rfl,ah<|bj GS hr<|ah<|ae 0<|ax ⟨R,as,n,rfl,hR,by omega,by omega,λd ks H1 s1 n1 S1=>ax ⟨L,d,ss,n,ks,rfl,s1 _ _ eL,by omega,S1,so,mem,true,rfl,bu ?_⟩⟩⟩);have ko:=s1 _ _ et;have zX:=s1 _ _ eL;have hR1:=hR.same s1;refine CY<|b8 BF<|ae 1<|aP bt<|ae 2<|aC ⟨t,_,_,.ref L,rfl,rfl,aJ.of ko,rfl,L,_,rfl,.inl<|aq.of zX,rfl,jz _,_,rfl,?_⟩;have fT:∀(x y:Bool),(if true=true then x else y)=x:=λ_ _=>rfl;rw[fT,ka,Ce.mpr hz];refine bu<|aW ?_;refine XM 3 (aU yz) UI xi 1 nd (fU bv)<|aP bt<|ae 2<|aC ⟨t,_,_,.ref L,rfl,rfl,aJ.of ko,rfl,L,rfl,⟨_,aq.of zX⟩,λD hD=>?_⟩;refine uG (λy=>!decide (y=z)) (b5<|by omega) zX hD (λcl C s0 H0 ex v v0 H' R' h=>bg 4 q7b h) (λcl C s0 H0 ex y zs T' h=>nP<|b8 tU<|ae 4<|ae 1 ⟨rfl,_,rfl,?_⟩) (λcl C s0 H0 ex z H' R' h=>ae 4 h) ?_
 ·rw[q1h];exact h
 have s2:=aS hD<|.lst<|(ss.filter λy=>!decide (y=z)).map V.str;have eD:(upd H1 D<|.lst<|(ss.filter λy=>!decide (y=z)).map V.str) D=some (Ls<|less ss z):=aA;show Run _ _ _ [some<|.ref R,some<|.str z,some<|.ref t,some<|.ref D] (upd H1 D<|.lst<|(ss.filter λy=>!decide (y=z)).map V.str);generalize upd H1 D (.lst<|(ss.filter λy=>!decide (y=z)).map V.str)=H2 at s2 eD;have fP:=s2 _ _ ko;have tD:=s2 _ _ zX;have nr:=hR1.same s2;have qU:=s1.trans s2;have Lh:∀ y∈less ss z,y∈ag n:=λy hy=>mem y (d8.mp hy).1
 rcases ok with ⟨rfl,fH,⟨sd,xk⟩,_⟩ | ⟨rfl,⟨sd,xk⟩,fH,_⟩ | ⟨rfl,fH,⟨sd,xk⟩,_⟩
 ·refine c9<|b8 fV<|aP bt<|ae 2<|aC ⟨t,_,_,.str "double",rfl,rfl,aJ.of fP,rfl,fK ⟨rfl,_,rfl,?_⟩⟩;rw[BW rfl];refine bY (bQ<|rF<|bj GR hr<|ah<|ae 0<|ah<|aP bt<|ae 2<|aC ⟨t,_,_,.ref L,rfl,rfl,aJ.of fP,rfl,ax ⟨R,L,as,n,ss,rfl,nr,by omega,by omega,tD,λH3 s3=>⟨_,rfl,?_⟩⟩⟩);rw[fH,BP rfl];refine xO (jT A1<|bj GD hr<|ah<|ae 0<|ah<|aP bt<|ae 2<|aC ⟨t,_,_,.ref L,rfl,rfl,aJ.of<|s3 _ _ fP,rfl,ax ⟨R,L,as,n,ss,rfl,nr.same s3,hT,hg,hN,h0,by omega,d3,s3 _ _ tD,mem,λA gX H4 s4 n4 e4 UK=>xN ⟨rfl,?_⟩,λH4 s4 xl=>absurd xk<|xl sd⟩⟩);rw[BR λh=>by cases h];exact q _<|(qU.trans s3).trans s4
 ·refine c9<|b8 fV<|aP bt<|ae 2<|aC ⟨t,_,_,.str "cut",rfl,rfl,aJ.of fP,rfl,fK ⟨rfl,_,rfl,?_⟩⟩;rw[BR<|by decide];refine bu<|aW<|c9<|b8 fV<|aP bt<|ae 2<|aC ⟨t,_,_,.str "cut",rfl,rfl,aJ.of fP,rfl,fK ⟨rfl,_,rfl,?_⟩⟩;rw[BW rfl];refine bY (bQ<|rF<|jT A1<|bj GD hr<|ah<|ae 0<|ah<|aP bt<|ae 2<|aC ⟨t,_,_,.ref L,rfl,rfl,aJ.of fP,rfl,ax ⟨R,L,as,n,ss,rfl,nr,hT,hg,hN,h0,by omega,d3,tD,mem,λA gX H4 s4 n4 e4 UK=>xN ⟨rfl,_,rfl,?_⟩,λH4 s4 xl=>absurd xk<|xl sd⟩⟩);rw[BR (λh=>by cases h),BP<|by rfl];refine xO (bj GR hr<|ah<|ae 0<|ah<|ae 3<|ax ⟨R,D,as,n,less ss z,rfl,nr.same s4,by omega,by omega,s4 _ _ eD,λH3 s3=>?_⟩);rw[fH];exact q _<|(qU.trans s4).trans s3
 ·refine c9<|b8 fV<|aP bt<|ae 2<|aC ⟨t,_,_,.str "round",rfl,rfl,aJ.of fP,rfl,fK ⟨rfl,_,rfl,?_⟩⟩;rw[BR<|by decide];refine bu<|aW<|c9<|b8 fV<|aP bt<|ae 2<|aC ⟨t,_,_,.str "round",rfl,rfl,aJ.of fP,rfl,fK ⟨rfl,_,rfl,?_⟩⟩;rw[BR<|by decide];refine bu<|aW<|bQ<|rF<|jT fV<|aP bt<|ae 2<|aC ⟨t,_,_,.str "round",rfl,rfl,aJ.of fP,rfl,fK ⟨rfl,_,rfl,?_⟩⟩;rw[BW rfl,BP rfl];refine rF (bj GR hr<|ah<|ae 0<|ah<|aP bt<|ae 2<|aC ⟨t,_,_,.ref L,rfl,rfl,aJ.of fP,rfl,ax ⟨R,L,as,n,ss,rfl,nr,by omega,by omega,tD,λH3 s3=>⟨_,rfl,?_⟩⟩⟩);rw[fH,BP rfl];refine xO (jT A1<|bj GD hr<|ah<|ae 0<|ah<|ae 3<|ax ⟨R,D,as,n,less ss z,rfl,nr.same s3,hT,hg,hN,h0,by omega,d3,s3 _ _ eD,Lh,λA gX H4 s4 n4 e4 UK=>xN ⟨rfl,?_⟩,λH4 s4 xl=>absurd xk<|xl sd⟩);rw[BR λh=>by cases h];exact q _<|(qU.trans s3).trans s4
abbrev NRf:Ò:=["_law_rows","_law_name","_law_own","e"]
def xm:ak NRf ["_law_rows","_law_name"] (aU FE):=⟨rfl,rfl,rfl,by decide +kernel,rfl,by decide +kernel,by decide +kernel⟩
def q7f{f:Addr}{fd:FuncData}{c:Str->Addr}(F:bE K "_law_refused" "_law_refused" FE f fd)(T:Txt mg)(cl:Cl K mg c)(GK:d7 P w K mg base 8 "kind_of" ["rows","tie"]<|zU c):aG P w K mg base bH 9 f fd ["_law_rows","_law_name"] Lg:=by
 refine F.gb xm (λvs H Q E h=>?_) λb0 H vs Q E hr h=>?_
 ·obtain⟨R,as,n,z,rfl,_⟩:=h;rfl
 obtain⟨R,as,n,z,rfl,hR,hN,hT,hf,h0,hn,d3,hz,q⟩:=h;have nd:=xm.nd;have mx:("NoTie" : Str)∈cm:=by decide
 show Run _ _ _ [some<|.ref R,some<|.str z,none,none] H;refine aX 2 nd<|rE ?_;show Run _ _ _ [some<|.ref R,some<|.str z,some<|.bl false,none] H;refine q2f (λC σ' H'=>C = .ref (c "NoTie")/\σ'=[some<|.ref R,some<|.str z,some<|.bl false,none]/\aj H H') (cl.at' _ mx).1 (cl.at' _ mx).2.1 (λp=>?_) ?_
 ·exact fM<|S8 GK hr (S9 rfl)<|ah<|ae 0<|ah<|ae 1<|ax ⟨R,as,n,z,rfl,hR,hN,hT,hf,h0,hn,d3,λ_ H' s'=>⟨rfl,rfl,s'⟩,λk=>absurd k hz⟩
 rintro C σ' H1 ⟨rfl,rfl,s1⟩;refine⟨c "NoTie",rfl,(cl.at' _ mx).2.1,cl.own _ mx,λp ea oe ix Lj=>?_⟩;have sE:=s1.trans<|aS Lj<|XO oe;generalize upd H1 ea (XO oe)=H2 at sE;refine aX 2 nd<|rE<|aW ?_;show Run _ _ _ [some<|.ref R,some<|.str z,some<|.bl true,none] H2;refine q6l 3 (λC σ' H'=>C = .ref (c "NoTie")/\σ'=[some<|.ref R,some<|.str z,some<|.bl true,none]/\aj H H') cl.net cl.KW nd (λp=>?_) ?_
 ·exact fM<|S8 GK hr (S9 rfl)<|ah<|ae 0<|ah<|ae 1<|ax ⟨R,as,n,z,rfl,hR.same sE,hN,hT,hf,h0,hn,d3,λ_ H' s'=>⟨rfl,rfl,sE.trans s'⟩,λk=>absurd k hz⟩
 rintro C σ' H3 ⟨rfl,rfl,s3⟩;refine⟨c "NoTie",rfl,(cl.at' _ mx).2.1,(cl.at' _ mx).2.2.1,λp ea oe ix Lj=>?_⟩;have s4:=aS Lj<|XO oe;have hE:(upd H3 ea<|XO oe) ea=some (XO oe):=aA;have sF:=s3.trans s4;show Run _ _ _ [some<|.ref R,some<|.str z,some<|.bl true,some<|.ref ea] (upd H3 ea<|XO oe);generalize upd H3 ea (XO oe)=H6 at s4 hE sF;refine bQ<|rF<|ae 2 (v:= .bl true) ⟨true,rfl,bY ?_⟩;refine rF<|b4 k9e T.rY DY<|ah<|ae 3<|ah<|ui (.ty "ValueError") T.FG k9y rfl (ax ⟨ea,c "NoTie",oe,.type "ValueError",.ty "ValueError",true,rfl,λu r=>r,hE,ix,(cl.at' _ mx).2.2.2.1,(cl.at' _ mx).2.2.2.2,true,rfl,bY ?_⟩);refine xO (Xl<|b4 k5i T.rY DY<|ah<|ae 3<|ah<|dR<|ah<|CM (cl.at' "NoDouble" (by decide)).1 (v:= .ref<|c "NoDouble") rfl (ah<|CM (cl.at' "NoNet" (by decide)).1 (v:= .ref<|c "NoNet") rfl (ah<|CM (cl.at' "NoWalker" (by decide)).1 (v:= .ref<|c "NoWalker") rfl (ax ⟨Z3,λt ht=>?_⟩))));have s2:=aS ht<|.tup [.ref<|c "NoDouble",.ref<|c "NoNet",.ref<|c "NoWalker"];refine ax ⟨ea,c "NoTie",oe,t,_,[.ref<|c "NoDouble",.ref<|c "NoNet",.ref<|c "NoWalker"],false,rfl,aA,λus r=>?_,s2 _ _ hE,ix,(cl.at' _ mx).2.2.2.1,?_,false,rfl,q _<|sF.trans s2⟩
 ·cases r with
  | cons r1 r=>cases r with
   | cons r2 r=>cases r with
    | cons r3 r=>
     cases r;cases r1;cases r2;cases r3;rfl
 ·have k1:=cl.K0 _ mx "NoDouble" (by decide);have k2:=cl.K0 _ mx "NoNet" (by decide);have k3:=cl.K0 _ mx "NoWalker" (by decide);rw[show decide (("NoTie" : Str) = "NoDouble")=false by decide]at k1;rw[show decide (("NoTie" : Str) = "NoNet")=false by decide]at k2;rw[show decide (("NoTie" : Str) = "NoWalker")=false by decide]at k3;show PySem.W.kitAny K _ _=some false;unfold PySem.W.kitAny;rw[k1];show PySem.W.kitAny K _ _=_;unfold PySem.W.kitAny;rw[k2];show PySem.W.kitAny K _ _=_;unfold PySem.W.kitAny;rw[k3];rfl
abbrev NW:Ò:=["_law_script","_law_rows","_law_ties","_law_handed","_law_tie","_law_told","_law_none"]
def oK:ak NW ["_law_script"] (aU mH):=⟨rfl,rfl,rfl,by decide +kernel,rfl,by decide +kernel,by decide +kernel⟩
def q8n{f:Addr}{fd:FuncData}{c:Str->Addr}(F:bE K "law" "law" mH f fd)(T:Txt mg)(cl:Cl K mg c)(GC:aQ P w K mg base 9 "_law_cell_at" ["_law_script","_law_k"]<|yA K)(GB:aQ P w K mg base 9 "_law_big" ["_law_script","_law_at"]<|FI K)(GN:aQ P w K mg base 9 "_law_net_by" ["_law_big_here","_law_most","_law_stem"] Hz)(GS:aQ P w K mg base 9 "_law_seats" ["_law_rows"] pV)(GY:aQ P w K mg base 9 "_law_copy" ["_law_rows"] HM)(GK:d7 P w K mg base 9 "kind_of" ["rows","tie"]<|zU c)(GW:aQ P w K mg base 9 "_law_shown" ["_law_rows","_law_tie","_law_told"] Lf)(GR:aQ P w K mg base 9 "_law_refused" ["_law_rows","_law_name"] Lg):aG P w K mg base bH 10 f fd ["_law_script"] (zW K):=by
 refine F.gb oK (λvs H Q E h=>?_) λb0 H vs Q E hr h=>?_
 ·obtain⟨a,ns,rfl,_⟩:=h;rfl
 obtain⟨a,ns,rfl,hS,h63,q⟩:=h;have nd:=oK.nd;have un:=hr.hU;show Run _ _ _ [some<|.ref a,none,none,none,none,none,none] H;refine aX 1 nd (bj GN hr<|ah<|bj GB hr<|ah<|ae 0<|ah<|aC<|ax ⟨a,ns,0,rfl,hS,by decide,λb1 H1 s1=>?_⟩);refine ah (aC<|ah<|bj GC hr<|ah<|ae 0<|ah<|aC<|ax ⟨a,ns,1,rfl,s1.seq hS,by decide,λc2=>?_⟩);refine ax ⟨b1,20,c2,rfl,by decide,by decide,λR as n H2 s2 n2 hR hT lD hF xn d3 Ja has=>?_⟩;have e24:((20:Int)).toNat=20:=rfl;rw[e24]at d3 Ja;have h0:0 < n.length:=Dk.mpr hF.some;have vi:aj H H2:=s1.trans s2;show Run _ _ _ [some<|.ref a,some<|.ref R,none,none,none,none,none] H2;refine aX 2 nd (q4s rfl T.sorted T.j7 GS hr (ae 1 ⟨R,as,n,rfl,hR,by omega,by omega,λt tt H3 s3 n3 e3 l3 so3 m3=>?_⟩));have mU:=hR.same s3;refine aX 3 nd (bj GY hr<|ah<|ae 1<|ax ⟨R,as,n,rfl,mU,by omega,λM bs H4 s4 n4 f4 hM=>?_⟩);have lj:=mU.same s4;have Ln:=s4 _ _ e3;have QO:=(vi.trans s3).trans s4;show Run _ _ _ [some<|.ref a,some<|.ref R,some<|.ref t,some<|.ref M,none,none,none] H4;refine jU<|ae 2 ⟨t,rfl,⟨_,aq.of Ln⟩,?_⟩;refine jV (xs:=tt.map V.str) (λi σ H'=>∃ u4 u5:Option V,aj H4 H'/\σ=[some<|.ref a,some<|.ref R,some<|.ref t,some<|.ref M,u4,u5,none]) ⟨_,_,aj.refl _,rfl⟩ ?_ ?_ ?_
 ·rintro i σ H' _ ⟨_,_,sm,_⟩;exact aq.of<|sm _ _ Ln
 ·rintro i x σ H5 hx ⟨u4,u5,sm,rfl⟩;rw[Ai,Ay]at hx;obtain⟨z,hz,rfl⟩:=hx;have g5:=(m3 z).mp<|Au hz;have xo:=hM.same sm;have ku:=lj.same sm;refine bg 4 nd ?_;refine aX 5 nd (JS GK hr UH<|ah<|ae 3<|ah<|ae 4<|ax ⟨M,bs,n,z,rfl,xo,lD,hT,xn,h0,by omega,by omega,λk=>absurd g5 k,λ_ u L wd ss H6 s6 nu nL eu eL ok=>?_⟩);show Run _ _ _ [some<|.ref a,some<|.ref R,some<|.ref t,some<|.ref M,some<|.str z,some<|.ref u,none] H6;refine c9 (lZ<|l7<|bj GW hr<|ah<|ae 1<|ah<|ae 4<|ah<|ae 5<|ax ⟨R,u,as,n,z,rfl,ku.same s6,lD,hT,xn.1,h0,by omega,by omega,⟨L,wd,ss,eu,eL,ok⟩,λH7 s7=>⟨true,rfl,bu<|aW ?_⟩⟩);have lss:=uY hT (jA ok.1) ok.2.1;have vX:=s7 _ _ eL;refine fM (j4<|aP bt<|ae 5<|aC ⟨u,_,_,.ref L,rfl,rfl,aJ.of<|s7 _ _ eu,rfl,L,rfl,⟨_,vX⟩,fK ⟨_,vX,by rw[Aa];exact b5 (by omega),?_⟩⟩);have zY:aj H5 (upd H7 L<|.lst<|ss.map V.str++[.str "zz"]):=fb (s6.trans s7) nL;show Run _ _ _ [some<|.ref a,some<|.ref R,some<|.ref t,some<|.ref M,some<|.str z,some<|.ref u,none] (upd H7 L<|.lst<|ss.map V.str++[.str "zz"]);generalize upd H7 L (.lst<|ss.map V.str++[.str "zz"])=H8 at zY;refine c9 (lZ<|l7<|bj GW hr<|ah<|ae 1<|ah<|ae 4<|ah<|JS GK hr UH<|ah<|ae 3<|ah<|ae 4<|ax ⟨M,bs,n,z,rfl,xo.same zY,lD,hT,xn,h0,by omega,by omega,λk=>absurd g5 k,λ_ v L2 wd2 ss2 H9 s9 nv nL2 ev tD ok2=>?_⟩);refine ax ⟨R,v,as,n,z,rfl,(ku.same zY).same s9,lD,hT,xn.1,h0,by omega,by omega,⟨L2,wd2,ss2,ev,tD,ok2⟩,λHA sA=>⟨true,rfl,bu<|aW<|aW ⟨_,_,((sm.trans zY).trans s9).trans sA,rfl⟩⟩⟩
 ·rintro σ H5 ⟨u4,u5,sm,rfl⟩;have xo:=hM.same sm;have ku:=lj.same sm;have UM:=sm _ _ Ln;have vV:=QO.trans sm;have bU:=ku.len;refine aX 6 nd (aP bt<|aP cF<|ae 1<|a7 cL<|bj GC hr<|ah<|ae 0<|ah<|aC<|ax ⟨a,ns,2,rfl,vV.seq hS,by decide,λc5=>?_⟩);refine b4 dE T.len DR<|ah<|ae 1<|ax ⟨R,_,rfl,.inl<|aq.of ku.lst,?_⟩;rw[Aa,bU];have xq:(0:Int) < (n.length:Int):=by omega
  refine⟨_,_,rfl,rfl,xq,?_⟩;obtain⟨j,hj,lh⟩:∃ j:Nat,c5 % (n.length:Int)=(j:Int)/\j < n.length:=by
   have h1:=Bp c5 (show(n.length:Int)≠0 by omega);have h2:=Bv c5 xq;exact⟨(c5 % (n.length:Int)).toNat,by omega,by omega⟩
  show t7 (N2 NW "law" (aU mH) P w K mg base b0).K (V.ref R) (V.int<|c5 % (n.length:Int)) H5 _;rw[hj];obtain⟨b,eb,cW,ebt,ebl,er⟩:=ku.at lh;refine⟨R,_,_,.ref b.1,rfl,rfl,aq.of ku.lst,cW,aC ⟨b.1,_,_,.str n[j].1,rfl,rfl,aJ.of ebt,rfl,?_⟩⟩;show Run _ _ _ [some<|.ref a,some<|.ref R,some<|.ref t,some<|.ref M,u4,u5,some<|.str n[j].1] H5;refine yb (λk H'=>H'=H5) (λσ' H'=>H'=H5/\∃ y,σ'=[some<|.ref a,some<|.ref R,some<|.ref t,some<|.ref M,u4,u5,some<|.str y]) ?_ (λH' h=>?_) (λH' h=>aW ⟨h,_,rfl⟩) ?_
  ·exact b8 lP<|ae 6<|ae 2 ⟨t,_,rfl,.inl<|aq.of UM,rfl,jz _,_,rfl,rfl⟩
  ·subst h;refine aX 6 nd<|a7 ME<|fK<|lY k6f T.pT MP<|ah<|a7 cL<|bj GC hr<|ah<|ae 0<|ah<|aC<|ax ⟨a,ns,2,rfl,vV.seq hS,by decide,λc6=>aC ⟨_,_,rfl,rfl,(by show(0:Int) < 999;decide),ax ⟨_,rfl,?_,?_⟩⟩⟩
   ·have h1:=Bp c6 (show(999:Int)≠0 by decide);have h2:=Bv c6 (show(0:Int) < 999 by decide);have:=k7q (k:=(c6 % 999).toNat) (by omega);rw[Int.toNat_of_nonneg h1]at this;exact this
   ·have h1:=Bp c6 (show(999:Int)≠0 by decide);have h2:=Bv c6 (show(0:Int) < 999 by decide);have e:=PySem.int_text_length_le10 (a:=c6 % 999) (k:=4) (by decide) (by omega);refine⟨_,_,rfl,rfl,?_,aW ⟨rfl,_,rfl⟩⟩;have l5:(Str.ofString "none0").length=5:=by decide
    rw[l5,PySem.ofString_length];exact small<|by omega
  rintro σ' H' ⟨hh,y,rfl⟩;obtain rfl:H5=H':=hh.symm;refine yb (λk H'=>k=false/\aj H5 H') (λσ' H'=>aj H5 H'/\σ'=[some<|.ref a,some<|.ref R,some<|.ref t,some<|.ref M,u4,u5,some<|.str y]) ?_ (λH' h=>by cases h.1) (λH' h=>aW ⟨h.2,rfl⟩) ?_
  ·refine rG<|CO<|b8 BF<|ae 6<|ae 2 ⟨t,_,rfl,.inl<|aq.of UM,rfl,jz _,_,rfl,?_⟩;have fT:∀(x y:Bool),(if true=true then x else y)=x:=λ_ _=>rfl;rw[fT,ka,qR]
   by_cases k:y∈tt
   ·rw[BW k];exact bu ⟨rfl,aj.refl _⟩
   ·rw[BR k];exact bY<|CU<|lZ<|l7<|bj GR hr<|ah<|ae 3<|ah<|ae 6<|ax ⟨M,bs,n,y,rfl,xo,lD,hT,xn,h0,by omega,by omega,λh=>k<|(m3 y).mpr h,λH6 s6=>⟨true,rfl,rfl,s6⟩⟩
  rintro σ' H6 ⟨s6,rfl⟩;exact bQ<|jT (OS un)<|ae 3<|ae 1 ⟨3,true,by decide,q19 (xo.same s6)<|ku.same s6,q _⟩
end
end E6
namespace E6
open PySem L2
def all_mk{l:PySem.W.OpenLaw}{w:World}{K:PySem.W.Frag}{h:Heap}{mg:Ó}{fa:Addr}(X:K.In h)(G:h.Ns mainGlobals mg)(DE:mg "law" = some (.ref fa))
  (h1:Df K "ends_round" yl) (h2:Df K "ends_in_order" ym) (h3:Df K "turned_left" EL) (h4:Df K "turned_right" ER) (h5:Df K "other_ends" EV) (h6:Df K "ties_by_end" yn) (h7:Df K "left_steps" yo) (h8:Df K "right_steps" yp) (h9:Df K "points_of" yq) (Lp:Df K "links_of" EX) (Lq:Df K "summed" EZ) (Lr:Df K "odd_points" ib) (wz:Df K "cut_of" yt) (Lv:Df K "walkers_of" pM) (Lw:Df K "walker_from" pN) (Lx:Df K "core_of" uD) (Ly:Df K "cores_of" yu) (Lz:Df K "parted" yv) (LA:Df K "points_by" E1) (LD:Df K "lowered" E3) (LI:Df K "_law_cell_at" E5) (LJ:Df K "_law_big" pP) (qO:Df K "_law_names" E7) (LL:Df K "_law_seats" E8) (LN:Df K "_law_other" E9) (LO:Df K "_law_step" FA) (LU:Df K "_law_face" FC) (LV:Df K "_law_put" pQ) (LW:Df K "_law_net_by" pR) (LX:Df K "_law_copy" yw) (LY:Df K "_law_is_round" yx) (LZ:Df K "_law_side" yy) (L4:Df K "_law_is_set" FD) (L9:Df K "ties_of" yr) (Ma:Df K "need_tie" EW) (Mb:Df K "kind_of" E4) (Md:Df K "_law_shown" yz) (Mf:Df K "_law_refused" FE) (hl:Df K "law" mH)
  (qc:K1 K=true)
  (z:∀ x∈(["isinstance","tuple","str","int","bool","list","dict","set","enumerate","zip","len","range","sorted","max","all","ValueError"]:Ò),PySem.W.nsIn K mainGlobals x=some none) :
  ∃ fd:FuncData,(∀(s:Shared) (v:Value),BindsTo s fd ⟨[v],[]⟩ [("_law_script",v)])/\∀ base:Heap,K.In base->base.Ns mainGlobals mg->aG l.prog w K mg base bH 10 fa fd ["_law_script"] (zW K):=by
 have T:Txt mg:=⟨CQ X G (z _<|by simp),CQ X G (z _<|by simp),CQ X G (z _<|by simp),CQ X G (z _<|by simp),CQ X G (z _<|by simp),CQ X G (z _<|by simp),CQ X G (z _<|by simp),CQ X G (z _<|by simp),CQ X G (z _<|by simp),CQ X G (z _<|by simp),CQ X G (z _<|by simp),CQ X G (z _<|by simp),CQ X G (z _<|by simp),CQ X G (z _<|by simp),CQ X G (z _<|by simp),CQ X G<|z _<|by simp⟩;have cl:=x0g X G qc;refine hl.law X G DE (λ_ _ _ _ _ _ s v=> .of_eq rfl) λbase f fd F=>?_;have G1:aQ l.prog w K mg base 1 "ends_round" ["row"] vq:=h1.has X G (λ_ _ _ _ _ _=>ja λ_=>rfl) λF=>q6q F T;have G2:aQ l.prog w K mg base 2 "ends_in_order" ["rows"] Ig:=h2.has X G (λ_ _ _ _ _ _=>ja λ_=>rfl) λF=>q14 F T (G1.mono<|by decide);have G3:aQ l.prog w K mg base 1 "turned_left" ["end","many"] (jg λj=>j+1):=h3.has X G (λ_ _ _ _ _ _=>gj λ_ _=>rfl) λF=>q5e F T;have G4:aQ l.prog w K mg base 1 "turned_right" ["end","many"] (jg λj=>j - 1):=h4.has X G (λ_ _ _ _ _ _=>gj λ_ _=>rfl) λF=>k8n F T;have G5:aQ l.prog w K mg base 2 "other_ends" ["rows"] mW:=h5.has X G (λ_ _ _ _ _ _=>ja λ_=>rfl) λF=>x1c F T (G1.mono<|by decide);have G6:aQ l.prog w K mg base 2 "ties_by_end" ["rows"] m5:=h6.has X G (λ_ _ _ _ _ _=>ja λ_=>rfl) λF=>x0p F T (G1.mono<|by decide);have G7:aQ l.prog w K mg base 3 "left_steps" ["rows"] (jj 1):=h7.has X G (λ_ _ _ _ _ _=>ja λ_=>rfl) λF=>x02 F T (G5.mono<|by decide) (G3.mono<|by decide);have G8:aQ l.prog w K mg base 3 "right_steps" ["rows"] (jj (-1)):=h8.has X G (λ_ _ _ _ _ _=>ja λ_=>rfl) λF=>x0u F T (G5.mono<|by decide) (G4.mono<|by decide);have G15:aQ l.prog w K mg base 1 "walker_from" ["lefts","rights","first"] qF:=Lw.has X G (λ_ _ _ _ _ _=>rJ λ_ _ _=>rfl) λF=>x05 F T;have G14:aQ l.prog w K mg base 4 "walkers_of" ["rows"] IE:=Lv.has X G (λ_ _ _ _ _ _=>ja λ_=>rfl) λF=>q7c F T (G7.mono<|by decide) (G8.mono<|by decide) (G6.mono<|by decide) (G2.mono<|by decide) (G15.mono<|by decide);have G16:aQ l.prog w K mg base 3 "core_of" ["rows","walker"] Kx:=Lx.has X G (λ_ _ _ _ _ _=>gj λ_ _=>rfl) λF=>q6p F T (G6.mono<|by decide);have G17:aQ l.prog w K mg base 5 "cores_of" ["rows"] KE:=Ly.has X G (λ_ _ _ _ _ _=>ja λ_=>rfl) λF=>q2m F T (G14.mono<|by decide) (G16.mono<|by decide);have G9:aQ l.prog w K mg base 1 "points_of" ["rows"] Kq:=h9.has X G (λ_ _ _ _ _ _=>ja λ_=>rfl) λF=>q9q F T;have G10:aQ l.prog w K mg base 1 "links_of" ["rows"] Jl:=Lp.has X G (λ_ _ _ _ _ _=>ja λ_=>rfl) λF=>q1g F T;have UN:aQ l.prog w K mg base 2 "cut_of" ["rows","points"] zN:=wz.has X G (λ_ _ _ _ _ _=>gj λ_ _=>rfl) λF=>q8i F T (G10.mono<|by decide);have UO:aQ l.prog w K mg base 1 "odd_points" ["rows","some"] zP:=Lr.has X G (λ_ _ _ _ _ _=>gj λ_ _=>rfl) λF=>q96 F T;have UP:aQ l.prog w K mg base 1 "summed" ["one","other"] zO:=Lq.has X G (λ_ _ _ _ _ _=>gj λ_ _=>rfl) λF=>k83 F T;have G20:aQ l.prog w K mg base 2 "lowered" ["steps","points","odds"] KG:=LD.has X G (λ_ _ _ _ _ _=>rJ λ_ _ _=>rfl) λF=>q8k F T (UP.mono<|by decide);have G19:aQ l.prog w K mg base 4 "points_by" ["rows","odds"] qT:=LA.has X G (λ_ _ _ _ _ _=>gj λ_ _=>rfl) λF=>x1e F T (G9.mono<|by decide) (G20.mono<|by decide) (UO.mono<|by decide) (UN.mono<|by decide);have G18:aQ l.prog w K mg base 6 "parted" ["rows","some"] KI:=Lz.has X G (λ_ _ _ _ _ _=>gj λ_ _=>rfl) λF=>k6n F T (G17.mono<|by decide) (UN.mono<|by decide) (G19.mono<|by decide) (UO.mono<|by decide) (UP.mono<|by decide);have UQ:aQ l.prog w K mg base 1 "_law_cell_at" ["_law_script","_law_k"] (yA K):=LI.has X G (λ_ _ _ _ _ _=>gj λ_ _=>rfl) λF=>ZF F T;have G22:aQ l.prog w K mg base 2 "_law_big" ["_law_script","_law_at"] (FI K):=LJ.has X G (λ_ _ _ _ _ _=>gj λ_ _=>rfl) λF=>ZI F T (UQ.mono<|by decide);have G23:aQ l.prog w K mg base 1 "_law_names" ["_law_stem","_law_many"] FK:=qO.has X G (λ_ _ _ _ _ _=>gj λ_ _=>rfl) λF=>ZK F T;have zZ:aQ l.prog w K mg base 1 "_law_seats" ["_law_rows"] pV:=LL.has X G (λ_ _ _ _ _ _=>ja λ_=>rfl) λF=>ZM F T;have UR:aQ l.prog w K mg base 1 "_law_other" ["_law_rows","_law_seats_here","_law_end"] yB:=LN.has X G (λ_ _ _ _ _ _=>rJ λ_ _ _=>rfl) λF=>ZN F T;have G26:aQ l.prog w K mg base 2 "_law_step" ["_law_rows","_law_seats_here","_law_end","_law_turn"] FL:=LO.has X G (λ_ _ _ _ _ _=>N3 λ_ _ _ _=>rfl) λF=>ZO F T (UR.mono<|by decide);have G27:aQ l.prog w K mg base 3 "_law_face" ["_law_rows","_law_seats_here","_law_end"] FO:=LU.has X G (λ_ _ _ _ _ _=>rJ λ_ _ _=>rfl) λF=>ZQ F T (G26.mono<|by decide);have G28:aQ l.prog w K mg base 4 "_law_put" ["_law_rows","_law_big_here","_law_tie","_law_point"] Hn:=LV.has X G (λ_ _ _ _ _ _=>N3 λ_ _ _ _=>rfl) λF=>q7p F T (zZ.mono<|by decide) (G27.mono<|by decide);have G29:aQ l.prog w K mg base 5 "_law_net_by" ["_law_big_here","_law_most","_law_stem"] Hz:=LW.has X G (λ_ _ _ _ _ _=>rJ λ_ _ _=>rfl) λF=>q8l F T (G23.mono<|by decide) (G28.mono<|by decide);have G30:aQ l.prog w K mg base 1 "_law_copy" ["_law_rows"] HM:=LX.has X G (λ_ _ _ _ _ _=>ja λ_=>rfl) λF=>q5f F T;have G34:aQ l.prog w K mg base 1 "ties_of" ["rows"] qV:=L9.has X G (λ_ _ _ _ _ _=>ja λ_=>rfl) λF=>q5r F T;have G35:d7 l.prog w K mg base 2 "need_tie" ["rows","tie"] (K2<|ik K):=Ma.wq X G (λ_ _ _ _ _ _=>gj λ_ _=>rfl) λF=>q5h F T cl (G34.mono<|by decide);have UT:d7 l.prog w K mg base 8 "kind_of" ["rows","tie"] (zU<|ik K):=Mb.wq X G (λ_ _ _ _ _ _=>gj λ_ _=>rfl) λF=>q4o F T cl (G35.mono<|by decide) (G18.mono<|by decide);have G31:aQ l.prog w K mg base 1 "_law_is_round" ["_law_rows","_law_some"] K5:=LY.has X G (λ_ _ _ _ _ _=>gj λ_ _=>rfl) λF=>q93 F T;have G32:aQ l.prog w K mg base 3 "_law_side" ["_law_rows","_law_some"] K7:=LZ.has X G (λ_ _ _ _ _ _=>gj λ_ _=>rfl) λF=>q0u F T (zZ.mono<|by decide) (UR.mono<|by decide);have G33:aQ l.prog w K mg base 1 "_law_is_set" ["_law_found","_law_ties"] K6:=L4.has X G (λ_ _ _ _ _ _=>gj λ_ _=>rfl) λF=>q1n F T;have G37:aQ l.prog w K mg base 4 "_law_shown" ["_law_rows","_law_tie","_law_told"] Lf:=Md.has X G (λ_ _ _ _ _ _=>rJ λ_ _ _=>rfl) λF=>q07 F T (zZ.mono<|by decide) (G33.mono<|by decide) (G31.mono<|by decide) (G32.mono<|by decide);have G38:aQ l.prog w K mg base 9 "_law_refused" ["_law_rows","_law_name"] Lg:=Mf.has X G (λ_ _ _ _ _ _=>gj λ_ _=>rfl) λF=>q7f F T cl (UT.mono<|by decide);exact q8n F T cl (UQ.mono<|by decide) (G22.mono<|by decide) (G29.mono<|by decide) (zZ.mono<|by decide) (G30.mono<|by decide) (UT.mono<|by decide) (G37.mono<|by decide)<|G38.mono<|by decide
def walk{l:PySem.W.OpenLaw}{q:Program}{loose:Ò}{XP:Ó->Heap->Prop}{YP:World->Heap->Prop}{d:DefRec}{K:Params->PySem.W.Frag}(hn:l.most=some 63)(lT:d.params.defaults=[])
  (hY:∀(w:World) (h:Heap),YP w h->(K w.params).In h)
  (F : ∀ (w : World) (mg : Str → Option Value) (fa : Addr) (h : Heap), (K w.params).In h → h.Ns mainGlobals mg → mg d.name = some (.ref fa) →
   ∃ fd:FuncData,(∀(s:Shared) (u:Value),BindsTo s fd ⟨[u],[]⟩ [("_law_script",u)])/\∀ base:Heap,(K w.params).In base->base.Ns mainGlobals mg->aG l.prog w (K w.params) mg base bH 10 fa fd ["_law_script"] (zW<|K w.params)) :
  PySem.W.WalkO q loose XP YP l.row.toRowW d [] (λf vs=>PySem.call f vs):=
 L2.lU (n:=63) (k:=10) (x:= "_law_script") (CX:=λ_=>bH) (sp:=λw=>zW<|K w.params) hn (by decide) lT ⟨rfl,by decide,by decide⟩ hY F (λ_ _ a ns hl _ hS=>⟨a,ns,rfl,hS,hl,λ_=>rfl⟩) λ_ _ _ _ _ z=>z
end E6
-- see NOTE.md
namespace PySem.W.Fast
def tw10275254304697379908:=()
def tw10545665125266574401:=()
def tw10583359825093184426:=()
def tw1058356424619525680:=()
def tw10730922299949193182:=()
def tw10801795213009579182:=()
def tw10820302673513147879:=()
def tw10929494461739719589:=()
def tw10932221882238337347:=()
def tw10977760064877814799:=()
def tw11061172519005989149:=()
def tw11154620003673043779:=()
def tw11284958347155631775:=()
def tw11339060690233329896:=()
def tw11370724857349862641:=()
def tw11425645428960771183:=()
def tw11547227360092258788:=()
def tw11673566585276360013:=()
def tw11854357619457798923:=()
def tw11911607395634919959:=()
def tw11960265910727721259:=()
def tw12093402893673647129:=()
def tw12189208463277408497:=()
def tw12207964644527883756:=()
def tw12696250903751277658:=()
def tw1287548298984810500:=()
def tw13292630354316352167:=()
def tw13392246123083238827:=()
def tw13569410301939622515:=()
def tw13783125566285589169:=()
def tw13796644835685566693:=()
def tw14280331205980311359:=()
def tw14317192282980943752:=()
def tw14399120869149301114:=()
def tw14429415868613690426:=()
def tw14663197920980879806:=()
def tw15045430107916275522:=()
def tw15172752836075459153:=()
def tw15598986436740855436:=()
def tw15619801181559824149:=()
def tw15753451836718851341:=()
def tw15839677088300242239:=()
def tw15879044386720781798:=()
def tw15931104130188438269:=()
def tw1594678776174580379:=()
def tw16030984405779281561:=()
def tw16085676657913304454:=()
def tw16101806398796696939:=()
def tw16182092378707439600:=()
def tw1620733626930133915:=()
def tw16649807413023484043:=()
def tw16752814608494868787:=()
def tw16909978132058555273:=()
def tw17345061521175419214:=()
def tw17424135072480629972:=()
def tw1771554964888920875:=()
def tw17922262102686986236:=()
def tw18091092364846770709:=()
def tw18127207360460850250:=()
def tw18338549718243966867:=()
def tw18344325679988653624:=()
def tw1866875623541755886:=()
def tw194782551982803819:=()
def tw1963620351832129497:=()
def tw2024653333051967526:=()
def tw2141113108961887398:=()
def tw2279215363317906476:=()
def tw2487601255242684034:=()
def tw2585522857611368212:=()
def tw2605887002152206552:=()
def tw2693839819492877812:=()
def tw2712241974332765957:=()
def tw276851351974220587:=()
def tw2829860237158220873:=()
def tw2873631400618022541:=()
def tw2951621447584811783:=()
def tw3966582772534111346:=()
def tw4213789183856758832:=()
def tw4238573782604184568:=()
def tw4365685023713528573:=()
def tw4416449867856998582:=()
def tw4449603340368024274:=()
def tw4972367904276309350:=()
def tw5129135195169593786:=()
def tw5196099757428860079:=()
def tw5392183948474601105:=()
def tw5504928491959862705:=()
def tw5517721578759654976:=()
def tw5613424157132155864:=()
def tw5655368313576668680:=()
def tw5679994404458001695:=()
def tw568407408312429222:=()
def tw5716809072055514773:=()
def tw5735056402706449451:=()
def tw5976087880134492447:=()
def tw6066711919667301254:=()
def tw6069703651209149412:=()
def tw6082027721228247596:=()
def tw6209584900136872129:=()
def tw6412515650592136861:=()
def tw6641370763568929099:=()
def tw669784369978942747:=()
def tw6707846912141609729:=()
def tw680259174634161294:=()
def tw7154487584593774319:=()
def tw7194090791139538805:=()
def tw7203661840882583710:=()
def tw7293986880309961207:=()
def tw7511925010953456471:=()
def tw7713210061771531665:=()
def tw7936700610110182579:=()
def tw7978627890378386513:=()
def tw8016277282221438832:=()
def tw8261720402465391353:=()
def tw8547813476953498648:=()
def tw8808523845309461392:=()
def tw8981469609132366908:=()
def tw8985969547002703665:=()
def tw9209832172809594464:=()
def tw9368981846087484237:=()
def tw9454590195534536603:=()
def tw9701589515958258956:=()
end PySem.W.Fast
open PySem PySem.W PyProof.Rows
set_option maxRecDepth 100000 in
set_option maxHeartbeats 0 in
theorem PySem.Challenge.cw_threewebs_k51_kinds_shown_holds : PySem.Challenge.rw_threewebs_k51_kinds_shown.Holds := by
 w_on;o_law;k_head;(case hw=>w_witness2)
 k_fill
 refine E6.walk (l:=PySem.Challenge.rw_threewebs_k51_kinds_shown) rfl rfl (λw h Y=>PySem.W.kIn_of Y) ?F
 case F=>
  intro w mg fa h KX G uc;refine' E6.all_mk KX G uc ?h1 ?h2 ?h3 ?h4 ?h5 ?h6 ?h7 ?h8 ?h9 ?Lp ?Lq ?Lr ?wz ?Lv ?Lw ?Lx ?Ly ?Lz ?LA ?LD ?LI ?LJ ?qO ?LL ?LN ?LO ?LU ?LV ?LW ?LX ?LY ?LZ ?L4 ?L9 ?Ma ?Mb ?Md ?Mf ?h0 ?qc ?zz
  case h1 | h2 | h3 | h4 | h5 | h6 | h7 | h8 | h9 | Lp | Lq | Lr | wz | Lv | Lw | Lx | Ly | Lz | LA | LD | LI | LJ | qO | LL | LN | LO | LU | LV | LW | LX | LY | LZ | L4 | L9 | Ma | Mb | Md | Mf | h0=>refine' L2.ul ?a ?l ?c ?k;(case a=>k_is);(case l=>k_is);(case c=>k_is);(case k=>k_is)
  case qc=>kernel_rfl
  case zz=>
   refine' List.forall_mem_cons.mpr ⟨?_,?_⟩;k_is
   iterate 15 (refine' List.forall_mem_cons.mpr ⟨?_,?_⟩;k_is)
   exact λx hx=>nomatch hx

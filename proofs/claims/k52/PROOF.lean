import PyProof.Rows.All
import Wide.All
import OpenK.AllK
import Wide.FinOn
import Lean
import PyProof.EqAt
import PyProof.EqKinds
import PyProof.TupleCall
import KE.KDictLaws
import KE.KDictList
import KE.KDictSum
import KE.KIsAll
import KE.KSortTup
import KE.KUnpack
import KE.KUnpackStar
import PyProof.AttrMissSeq
import PyProof.CallStr
import PyProof.Conv_int_bool
import PyProof.DictItems
import PyProof.DictIter
import PyProof.DictList
import PyProof.EnumFor
import PyProof.EnumMake
import PyProof.EnumStmt
import PyProof.ExcArgsOwn
import PyProof.ExcAttrAll.ValueError
import PyProof.ExcBaseAll.ValueError
import PyProof.FitsInt
import PyProof.NeKinds
import PyProof.NsDelKeeps
import PyProof.Rows.CatchOwn
import PyProof.Rows.CountFlat
import PyProof.Rows.EnumRows
import PyProof.Rows.FStr
import PyProof.Rows.SeqMore
import PyProof.Rows.SortRev
import PyProof.Rows.StrSplitJoin
import PyProof.Rows.StrWeight2
import PyProof.Rows.TupDisplay
import PyProof.RulesTry
import PyProof.SetNew
import PyProof.SetRoads
import PyProof.StationsW
import PyProof.TupleKey
import PyProof.WalkInts
import PyProof.ZipIter
import PySem.Challenge.RW_threewebs_k52_just_one_kind
abbrev Î:=PySem.Value->PySem.Shared->Prop
abbrev Ï:=List (PySem.Addr×PySem.Addr)
abbrev Ð:=List (PySem.Addr×PySem.Obj)
abbrev Ñ:=List PySem.Str
abbrev Ò:=PySem.Str->Option PySem.Value
abbrev Ó:=List PySem.Value
abbrev Ô:=List PySem.Expr
abbrev Õ:=List PySem.Stmt
abbrev BJ:=@PySem.wpAny_bind
abbrev BK:=@if_neg
abbrev BL:=@if_pos
abbrev BP:=@PySem.wpAny_pure
abbrev BR:=@decide_eq_false
abbrev BW:=@decide_eq_true
abbrev BX:=@of_decide_eq_true
abbrev BZ:=@congrArg
abbrev CG:=@PySem.wpAny_holding
abbrev CJ:=@PySem.wpAny_setState_of
abbrev CK:=@Ne.symm
abbrev CN:=@decide_eq_true_iff
abbrev CP:=@PySem.W.mg_none_of
abbrev CQ:=@PySem.Heap.SameBut.update
abbrev CT:=@if_false
abbrev CV:=@PySem.wpAny_mono
abbrev CW:=@PySem.mem_of_lookup
abbrev CZ:=@PySem.wpAny_newObj_type
abbrev DG:=@PySem.wpAny_call_entry
abbrev DK:=@PySem.F.plainAttrs_list
abbrev DN:=@Classical.byContradiction
abbrev DP:=@if_true
abbrev DQ:=@decide_eq_true_eq
abbrev DR:=@PySem.wpAny_setField
abbrev DW:=@PySem.sizeLine_eq
abbrev DX:=@PySem.boot_len
abbrev DY:=@PyProof.Rows.boot_sorted
abbrev EY:=@PySem.W.kia_one
abbrev FJ:=@PySem.Around.under_plainId
abbrev FN:=@PySem.codeAny_builtin
abbrev FP:=@PyProof.Rows.wpS_bind
abbrev FQ:=@decide_eq_false_iff_not
abbrev FT:=@bne_self_eq_false
abbrev FW:=@of_decide_eq_false
abbrev FZ:=@or_false
abbrev GD:=@PySem.wpAny_typeNameOfWhole_itemiter
abbrev GQ:=@PySem.wpAny_truthy_bool
abbrev GX:=@PySem.wpAny_storeSet_of
abbrev GZ:=@PySem.wpAny_standAt
abbrev HD:=@PySem.F.slot_dict_itemiterator_next
abbrev HJ:=@Prod.ext
abbrev HN:=@PySem.wpAny_rule
abbrev HS:=@PyProof.Rows.F.plain_set_update_loop
abbrev HW:=@PySem.wpAny_passesOwn
abbrev HX:=@beq_iff_eq
abbrev HY:=@PySem.wpAny_typeNameOf_itemiter
abbrev IK:=@PySem.wpAny_of_eq
abbrev IV:=@PySem.wpAny_callSpecial?_slot
abbrev IW:=@PySem.plainId_quiet
abbrev JB:=@PySem.wpAny_setField_rec
abbrev JC:=@PySem.W.cellsFrom_some
abbrev JD:=@PyProof.Rows.wpS_pure
abbrev JF:=@PySem.wpAny_field
abbrev JG:=@Bool.not_eq_true'
abbrev JH:=@PySem.codeAny_mono
abbrev JK:=@PyProof.Rows.callWith_type1
abbrev JL:=@PySem.wpAny_askSetting
abbrev JM:=@PySem.wpAny_isInstance
abbrev JN:=@PySem.wpAny_newList
abbrev JQ:=@PySem.wpAny_setEntries_of
abbrev JR:=@PySem.codeAny_of_tree
abbrev JT:=@PySem.W.KasT.kasWp_bind
abbrev JV:=@PySem.wpAny_Call_Name_kw
abbrev JW:=@PySem.wpAny_typeOf
abbrev JX:=@PyProof.Rows.F.entry_set_update_loop
abbrev JZ:=@PySem.F.slot_list_count
abbrev KC:=@PySem.F.type_list_count
abbrev KD:=@PySem.wpAny_setEpoch_of
abbrev KH:=@PySem.wpAny_pyIter_slot
abbrev KJ:=@PySem.Calls.callWith_builtin
abbrev KN:=@PySem.wpAny_isOneOf_itemiter
abbrev KQ:=@List.eraseIdx_append_of_lt_length
abbrev KR:=@PySem.W.mg_of
abbrev KY:=@PySem.wpAny_attempt
abbrev KZ:=@PyProof.Rows.listUpdate_at
abbrev LC:=@beq_self_eq_true
abbrev LK:=@List.Perm.append_left
abbrev LQ:=@PySem.builtinLookup_eq_fast
abbrev LR:=@PyProof.Rows.boot_set
abbrev MF:=@PySem.Obj.isFreed_of_fields
abbrev MJ:=@PySem.F.args_dict_itemiterator_next_1
abbrev MK:=@PySem.Calls.evalArgs_plain
abbrev MN:=@PySem.call_meets
abbrev MP:=@PySem.PassesOwn.never
abbrev NK:=@PySem.strKind_is
abbrev NQ:=@PyProof.Rows.listItems_at
abbrev NZ:=@PyProof.Rows.wpS_forRange
abbrev OD:=@PySem.F.entry_dict_itemiterator_next
abbrev OJ:=@PySem.F.slot_dict_itemiterator_iter
abbrev PB:=@PySem.entryFor_alias
abbrev PJ:=@PySem.wpAny_fieldsOf
abbrev PK:=@PySem.wpAny_newTuple
abbrev PL:=@PySem.wpAny_alloc
abbrev PN:=@PyProof.Rows.seqEpoch_at
abbrev PX:=@PySem.tupleKind_room_in1
abbrev QB:=@List.lookup_append
abbrev QC:=@Nat.lt_of_le_of_lt
abbrev QD:=@PySem.MeetsSeq2.wpAny_forIn_array
abbrev QF:=@PySem.Obj.data_mapFields
abbrev QG:=@Nat.mod_two_eq_zero_or_one
abbrev QJ:=@PySem.wpAny_pyIter_list
abbrev QK:=@Nat.le_succ_of_le
abbrev QL:=@List.Pairwise.map
abbrev QM:=@PySem.wpAny_dictEntries
abbrev QS:=@Nat.lt_trichotomy
abbrev QT:=@List.drop_eq_getElem_cons
abbrev QV:=@PySem.F.slot_set_contains
abbrev QW:=@Nat.succ_le_succ
abbrev QX:=@Array.getElem?_replicate
abbrev QZ:=@List.nodup_range
abbrev RB:=@List.ext_getElem
abbrev RD:=@Nat.sub_zero
abbrev RG:=@Nat.min_eq_right
abbrev RJ:=@PySem.F.slot_list_insert
abbrev RK:=@PySem.F.type_list_insert
abbrev RL:=@List.getElem_append_left
abbrev RM:=@List.filter_cons_of_pos
abbrev RN:=@PySem.F.slot_list_index
abbrev RP:=@PySem.wpAny_execs_nil
abbrev RQ:=@List.of_mem_zip
abbrev RT:=@PySem.wpAny_specialOf
abbrev RV:=@List.forIn_cons
abbrev RW:=@PySem.typeLookup_type
abbrev RX:=@Nat.min_eq_left
abbrev RZ:=@PySem.wpAny_dictEpoch
abbrev SJ:=@List.getElem?_set_self
abbrev SM:=@List.length_pos_of_mem
abbrev SN:=@List.drop_eq_nil_of_le
abbrev SQ:=@PyProof.Rows.boot_list
abbrev SX:=@PyProof.Rows.boot_dict
abbrev TF:=@List.Perm.append_right
abbrev TJ:=@Bool.false_and
abbrev TQ:=@Bool.not_false
abbrev TV:=@List.getElem?_toArray
abbrev TX:=@PyProof.Rows.boot_int
abbrev TY:=@List.count_nil
abbrev UG:=@PySem.F.plain_set_new
abbrev UJ:=@PyProof.Rows.boot_max
abbrev UL:=@List.count_cons_of_ne
abbrev UW:=@List.map_drop
abbrev VB:=@Nat.le_total
abbrev VD:=@Nat.add_comm
set_option Elab.async false
set_option linter.all false
set_option maxRecDepth 100000
set_option maxHeartbeats 4000000
abbrev Aa:=@List.length_map
abbrev Ab:=@List.getElem?_eq_getElem
abbrev Ac:=@List.getElem?_eq_some_iff
abbrev Ad:=@List.length_append
abbrev Ae:=@List.mem_singleton
abbrev Af:=@List.mem_cons_self
abbrev Ag:=@List.map_append
abbrev Ah:=@List.mem_cons_of_mem
abbrev Ai:=@PySem.Heap.get?_push_of_some
abbrev Aj:=@List.getElem?_map
abbrev Ak:=@List.mem_cons
abbrev Al:=@List.mem_append
abbrev Am:=@List.getElem?_append_right
abbrev An:=@List.getElem?_append_left
abbrev Ao:=@Nat.le_refl
abbrev Ap:=@List.mem_map
abbrev Aq:=@List.map_congr_left
abbrev Ar:=@List.length_cons
abbrev As:=@List.mem_of_getElem?
abbrev At:=@List.append_assoc
abbrev Au:=@PySem.Heap.lt_size
abbrev Av:=@PySem.Heap.get?_push_size
abbrev Aw:=@List.mem_append_right
abbrev Ax:=@Bool.false_ne_true
abbrev Ay:=@List.size_toArray
abbrev Az:=@Option.map_eq_some_iff
abbrev Ba:=@List.mem_filter
abbrev Bb:=@Bool.false_eq_true
abbrev Bc:=@List.mem_append_left
abbrev Bd:=@List.length_eq_zero_iff
abbrev Be:=@List.getElem?_eq_none
abbrev Bf:=@List.nodup_cons
abbrev Bg:=@List.length_take
abbrev Bh:=@List.append_nil
abbrev Bi:=@Nat.lt_of_lt_of_le
abbrev Bj:=@List.map_cons
abbrev Bk:=@List.contains_iff_mem
abbrev Bm:=@List.getElem?_of_mem
abbrev Bn:=@List.getElem_mem
abbrev Bo:=@Int.toNat_natCast
abbrev Bp:=@Nat.ne_of_lt
abbrev Bq:=@Nat.le_trans
abbrev Br:=@List.take_length
abbrev Bs:=@List.count_pos_iff
abbrev Bt:=@List.nodup_append
abbrev Bu:=@List.pairwise_iff_getElem
abbrev Bv:=@Array.length_toList
abbrev Bw:=@List.mem_range
abbrev Bx:=@Nat.lt_succ_of_lt
abbrev By:=@Bool.and_eq_true
abbrev Bz:=@List.take_of_length_le
abbrev Ca:=@Int.emod_nonneg
abbrev Cb:=@List.take_add_one
abbrev Cc:=@List.flatMap_cons
abbrev Cd:=@Array.getElem?_toList
abbrev Ce:=@Nat.mod_eq_of_lt
abbrev Cf:=@Nat.zero_le
abbrev Cg:=@PySem.Heap.get?_update_other
abbrev Ch:=@List.nodup_nil
abbrev Ci:=@Int.emod_lt_of_pos
abbrev Cj:=@List.length_drop
abbrev Ck:=@List.not_mem_nil
abbrev Cm:=@List.perm_append_comm
abbrev Cn:=@List.map_map
abbrev Co:=@List.nodup_iff_pairwise_ne
abbrev Cp:=@Bool.eq_iff_iff
abbrev Cq:=@List.count_append
abbrev Cr:=@List.flatMap_append
abbrev Cs:=@Nat.le_of_lt
abbrev Ct:=@Nat.ne_of_gt
abbrev Cu:=@List.filter_append
abbrev Cv:=@List.pairwise_cons
abbrev Cw:=@List.length_singleton
abbrev Cy:=@Nat.mod_self
abbrev Cz:=@List.count_cons
abbrev Da:=@List.getElem?_cons_succ
abbrev Db:=@List.length_eraseIdx
abbrev Dc:=@List.length_nil
abbrev Dd:=@PySem.Heap.size_push
abbrev De:=@Nat.lt_irrefl
abbrev Dg:=@List.filter_cons
abbrev Dh:=@List.mem_flatMap
abbrev Di:=@PySem.Heap.get?_update_self
abbrev Dj:=@List.length_filter_le
abbrev Dk:=@List.take_append_drop
abbrev Dl:=@List.flatten_cons
abbrev Dm:=@List.foldl_cons
abbrev Do:=@Nat.lt_or_ge
abbrev Dp:=@Array.getElem?_eq_getElem
abbrev Dq:=@List.length_pos_iff
abbrev Dr:=@List.count_eq_zero_of_not_mem
abbrev Ds:=@List.getElem?_take_of_lt
abbrev Du:=@List.range_succ
abbrev Dv:=@List.lookup_cons
abbrev Dw:=@List.getElem_map
abbrev Dx:=@List.mem_iff_getElem
abbrev Dy:=@Array.getD_eq_getD_getElem?
abbrev Dz:=@List.ext_getElem?
abbrev Eb:=@List.all_eq_true
abbrev Ec:=@Bool.not_true
abbrev Ed:=@Nat.sub_self
abbrev Ee:=@Nat.not_lt_zero
abbrev Ef:=@List.filterMap_cons
abbrev Eh:=@List.getElem?_range
abbrev Ej:=@Array.getElem?_eq_none
abbrev Ek:=@Int.zero_add
abbrev El:=@List.append_of_mem
abbrev Em:=@Nat.le_succ
abbrev Ep:=@Nat.le_of_succ_le
abbrev Er:=@Nat.zero_add
abbrev Es:=@Bool.eq_false_iff
abbrev Eu:=@List.pairwise_map
abbrev Ex:=@Option.isSome_iff_exists
abbrev Ey:=@List.mem_of_mem_eraseIdx
abbrev Ez:=@List.getElem?_replicate
abbrev Fa:=@List.getElem_range
abbrev Fb:=@List.drop_of_length_le
abbrev Fc:=@List.getElem?_drop
abbrev Fd:=@List.append_eq_nil_iff
abbrev Fe:=@List.find?_cons
abbrev Ff:=@List.nil_append
abbrev Fg:=@List.length_replicate
abbrev Fh:=@List.length_range
abbrev Fi:=@List.mem_zipIdx_iff_le_and_getElem?_sub
abbrev Fj:=@List.perm_ext_iff_of_nodup
abbrev Fk:=@List.mem_erase_of_ne
abbrev Fm:=@Nat.one_pos
abbrev Fn:=@List.getElem?_modify
abbrev Fo:=@Bool.false_xor
abbrev Fp:=@Bool.xor_false
abbrev Fq:=@Array.getElem?_eq_some_iff
abbrev Fr:=@List.take_zero
abbrev Fs:=@List.cons_append
abbrev Ft:=@Nat.lt_succ_self
abbrev Fu:=@List.mem_flatten
abbrev Fv:=@List.exists_mem_of_ne_nil
abbrev Fw:=@List.flatten_append
abbrev Fx:=@List.any_cons
abbrev Fy:=@List.length_erase_of_mem
abbrev Fz:=@List.sum_cons
abbrev Ga:=@Bool.and_comm
abbrev Gb:=@List.mem_filterMap
abbrev Gc:=@List.find?_eq_none
abbrev Gd:=@Nat.lt_of_le_of_ne
abbrev Ge:=@List.pairwise_singleton
abbrev Gf:=@Nat.succ_pos
abbrev Gg:=@Nat.add_zero
abbrev Gh:=@List.getElem?_eraseIdx
abbrev Gi:=@List.lt_irrefl
abbrev Gj:=@List.filter_eq_nil_iff
abbrev Gk:=@Nat.zero_lt_of_lt
abbrev Gm:=@List.getElem_inj
abbrev Gn:=@List.isEmpty_nil
abbrev Go:=@List.lt_trans
abbrev Gp:=@List.le_iff_lt_or_eq
abbrev Gq:=@List.nodup_iff_count
abbrev Gr:=@List.count_cons_self
abbrev Gs:=@Option.map_some
abbrev Gu:=@List.find?_some
abbrev Gv:=@List.filter_sublist
abbrev Gw:=@Bool.and_false
abbrev Gx:=@Nat.mod_lt
abbrev Gy:=@List.all_cons
abbrev Gz:=@Bool.true_and
namespace L2
open PySem PySem.Spec PyProof.Rows
abbrev Key:=Sum Int Str
def rd:Key->Value->Bool
 | .inl k,v=>Value.isInt k v
 | .inr x,v=>Value.isStrOf x v
def zW(w:World):Key->Int
 | .inl k=>hashInt k
 | .inr x=>hashStr w x
theorem lG:∀{k:Key} {v:Value},rd k v=true->(∃ i t,k=Sum.inl i/\v=Value.int i t)\/(∃ x t,k=Sum.inr x/\v=Value.str x t)
 | .inl i,v,h=>by
  obtain⟨t,e⟩:=Value.isInt_shape (k:=i) (v:=v) h;exact .inl ⟨i,t,rfl,e⟩
 | .inr x,v,h=>by
  obtain⟨t,e⟩:=Value.isStrOf_shape (x:=x) (v:=v) h;exact .inr ⟨x,t,rfl,e⟩
def UX(i:Int)(t:Tok):rd (.inl i) (.int i t)=true:=by simp[rd,Value.isInt]
def UY(x:Str)(t:Tok):rd (.inr x) (.str x t)=true:=by simp[rd,Value.isStrOf]
def UZ(a b:Int):decide ((Sum.inl a:Key)=Sum.inl b)=(a == b):=by
 by_cases e:a=b
 ·subst e;simp
 ·have h:¬(Sum.inl a:Key)=Sum.inl b:=λq=>e<|Sum.inl.inj q;rw[BR h];exact(beq_eq_false_iff_ne.mpr e).symm
def U0(a b:Str):decide ((Sum.inr a:Key)=Sum.inr b)=decide (a=b):=by
 by_cases e:a=b
 ·subst e;simp
 ·have h:¬(Sum.inr a:Key)=Sum.inr b:=λq=>e<|Sum.inr.inj q;rw[BR h,BR e]
def U1(a:Int)(b:Str):decide ((Sum.inl a:Key)=Sum.inr b)=false:=BR λq=>nomatch q
def U2(a:Str)(b:Int):decide ((Sum.inr a:Key)=Sum.inl b)=false:=BR λq=>nomatch q
def dz(prog:Program)(w:World):PySem.KeyKind prog w Key where
 is:=rd
 hash:=zW w
 inj:=λv a b ha hb=>by
  rcases lG ha with ⟨i,t,rfl,rfl⟩ | ⟨x,t,rfl,rfl⟩
  ·rcases lG hb with ⟨j,u,rfl,e⟩ | ⟨y,u,rfl,e⟩
   ·injection e with e1 _;rw[e1]
   ·exact nomatch e
  ·rcases lG hb with ⟨j,u,rfl,e⟩ | ⟨y,u,rfl,e⟩
   ·exact nomatch e
   ·injection e with e1 _;rw[e1]
 byValue:=λk v h=>by
  rcases lG h with ⟨i,t,rfl,rfl⟩ | ⟨x,t,rfl,rfl⟩ <;> rfl
 pyHash:=λhv h=>by
  rcases lG hv with ⟨i,t,rfl,rfl⟩ | ⟨x,t,rfl,rfl⟩
  ·exact wpAny_pyHash_int h
  ·exact wpAny_pyHash_str h
 eqBool:=λhu hv h=>by
  rcases lG hu with ⟨i,t,rfl,rfl⟩ | ⟨x,t,rfl,rfl⟩
  ·rcases lG hv with ⟨j,u,rfl,rfl⟩ | ⟨y,u,rfl,rfl⟩
   ·rw[UZ]at h;exact wpAny_eqBool_int h
   ·rw[U1]at h;exact SeqAt.EqAt.int_str i t y u _ _ _ _ h
  ·rcases lG hv with ⟨j,u,rfl,rfl⟩ | ⟨y,u,rfl,rfl⟩
   ·rw[U2]at h;exact SeqAt.EqAt.str_int x t j u _ _ _ _ h
   ·rw[U0]at h;exact wpAny_eqBool_str h
 «strs»:=λk x t v h=>by
  rcases lG h with ⟨i,u,rfl,e⟩ | ⟨y,u,rfl,e⟩
  ·exact nomatch e
  ·injection e with e1 _
   subst e1;cases v <;> rfl
def U3(prog:Program)(w:World)(i:Int)(t:Tok):(dz prog w).is (.inl i) (.int i t)=true:=UX i t
def U4(prog:Program)(w:World)(x:Str)(t:Tok):(dz prog w).is (.inr x) (.str x t)=true:=UY x t
inductive V where
 | non | bl (b:Bool) | int (i:Int) | str (x:Str) | iZ (b:Array UInt8) | rg (b:UInt64) | ref (a:Addr) | ty (n:String)
 deriving DecidableEq
def RelV:V->Value->Prop
 | .non,u=>u=Value.none
 | .bl b,u=>u=Value.bool b
 | .int i,u=>∃ t,u=Value.int i t
 | .str x,u=>∃ t,u=Value.str x t
 | .iZ b,u=>∃ t,u=Value.bytes b t
 | .rg b,u=>∃ t,u=Value.float b t
 | .ref a,u=>u=Value.ref a
 | .ty n,u=>u=Value.type n
abbrev aA:List V->Ó->Prop:=Paired RelV
def aA.length{xs:List V}{us:Ó}(r:aA xs us):xs.length=us.length:=Paired.length r
theorem aA.get:∀{xs:List V} {us:Ó} {i:Nat} {x:V},aA xs us->xs[i]?=some x->∃ u,us[i]?=some u/\RelV x u
 | _,_,_,_,.nil,e=>by simp at e
 | _,_,0,_,.cons r _,e=>by simp at e;subst e;exact⟨_,rfl,r⟩
 | _,_,i+1,x,.cons _ t,e=>by
  obtain⟨u,h1,h2⟩:=aA.get (i:=i) (x:=x) t (by simpa using e);exact⟨u,by simpa using h1,h2⟩
theorem aA.set{x:V}{u:Value}(r:RelV x u):∀{xs:List V} {us:Ó} (i:Nat),aA xs us->aA (xs.set i x) (us.set i u)
 | _,_,_,.nil=> .nil
 | _,_,0,.cons _ t=> .cons r t
 | _,_,i+1,.cons q t=> .cons q<|aA.set r i t
theorem aA.append:∀{xs ys:List V} {us ws:Ó},aA xs us->aA ys ws->aA (xs++ys) (us++ws)
 | _,_,_,_,.nil,s=>s
 | _,_,_,_,.cons r t,s=> .cons r<|aA.append t s
theorem aA.take:∀{xs:List V} {us:Ó} (n:Nat),aA xs us->aA (xs.take n) (us.take n)
 | _,_,0,_=> .nil
 | _,_,_+1,.nil=> .nil
 | _,_,n+1,.cons r t=> .cons r<|aA.take n t
theorem aA.drop:∀{xs:List V} {us:Ó} (n:Nat),aA xs us->aA (xs.drop n) (us.drop n)
 | _,_,0,r=>r
 | _,_,_+1,.nil=> .nil
 | _,_,n+1,.cons _ t=>aA.drop n t
def dA:Option V->Option Value->Prop
 | some v,some u=>RelV v u
 | none,none=>True
 | _,_=>False
def KV{κ:Type}:List (κ×V)->List (κ×Value)->Prop:=Paired λ(p:κ×V) (q:κ×Value)=>p.1=q.1/\RelV p.2 q.2
def kV:Key->V
 | .inl i=> .int i
 | .inr x=> .str x
inductive HO where
 | lst (xs:List V)
 | tup (xs:List V)
 | dK (kvs:List<|Key×V) | dT (kvs:List<|List Key×V)
 | set (S:Int->Bool) (n:Nat)
 | ins (C dx:Addr) (fs:List<|Str×V)
 | own (x:Addr)
 | xd (fs:List<|Str×V)
 | met (f x:Addr)
 | xg (lo hi:Int)
 | b7 (o:Obj) (u:HO)
 | m6 (ps:Array Value)
 | ext (φ:Heap->Prop)
abbrev Hp:=Addr->Option HO
def upd(H:Hp)(a:Addr)(o:HO):Hp:=λb=>if b=a then some o else H b
def aw{H:Hp}{a:Addr}{o:HO}:upd H a o a=some o:=by unfold upd;rw[BL rfl]
def ax{H:Hp}{a b:Addr}{o:HO}(h:b≠a):upd H a o b=H b:=by unfold upd;rw[BK h]
def zX{H:Hp}{a:Addr}{o u:HO}:upd (upd H a o) a u=upd H a u:=by
 funext b;unfold upd;split <;> rfl
def ce{H:Hp}{a b:Addr}{o u:HO}(h:H a=some o)(h':H b=some u)(d:o≠u):a≠b:=by
 intro e;subst e;rw[h]at h';exact d<|Option.some.inj h'
def bq{H:Hp}{a b:Addr}{o:HO}(h:H a=some o)(h':H b=none):a≠b:=by
 intro e;subst e;rw[h]at h';cases h'
section
variable(P:Program)(w:World)
def aB(H:Hp)(h:Heap)(a:Addr):HO->Prop
 | .lst xs=>xs.length<=sizeLine/\∃(its:Ó) (n:Nat),aA xs its/\h.get? a=some {cls:= .type "list",data:= .seq its.toArray n}
 | .tup xs=>xs.length<=sizeLine/\∃ its:Ó,aA xs its/\IsTup h a its.toArray
 | .dK kvs=>kvs.length<=sizeLine/\(a == sysModules)=false/\∃ vs,KV kvs vs/\h.DictOf (dz P w) a vs
 | .dT kvs=>kvs.length<=sizeLine/\(a == sysModules)=false/\∃ xs:List<|List Key×Addr×Value,
   Paired (λ(p:List Key×V) (q:List Key×Addr×Value)=>p.1=q.1/\H q.2.1=some (.tup<|p.1.map kV)/\RelV p.2 q.2.2) kvs xs /\
   ∃ o es ep,h.get? a=some o/\o.ExactDict/\o.data = .dict es ep/\es.toList=xs.map (entryOfKey<|tupleKind<|dz P w)/\(xs.map (·.1)).Nodup
 | .set S n=>h.SetOf (intKind P w) a S n
 | .ins C dx fs=>H dx=some (.own a)/\fs.length<=1000/\dx≠a/\h.get? a=some (PySem.W.instObj C dx) /\
   ∃ mA,h.Ns1 dx mA/\(∀ f,dA (fs.lookup f)<|mA f)/\PySem.Within mA (fs.map (·.1))
 | .own _=>∃ o,h.get? a=some o
 | .xd fs=>∃ mA,h.Ns1 a mA/\∀ f,dA (fs.lookup f)<|mA f
 | .xg lo hi=>∃ t u v,h.get? a=some {cls:= .type "range",data:= .fields #[.int lo t,.int hi u,.int 1 v]}
 | .b7 o u=>h.get? a=some o/\aB H h a u
 | .m6 ps=>h.get? a=some {cls:= .none,data:= .fields ps}
 | .met f x=>h.get? a=some (PySem.W.methodObj (.ref f)<|.ref x)
 | .ext φ=>φ h/\(∃ o,h.get? a=some o)/\∀ h1 h2:Heap,φ h1->(∀ o,h1.get? a=some o->h2.get? a=some o)->φ h2
def b9(H:Hp)(h:Heap):Prop:=∀ a o,H a=some o->aB P w H h a o
end
section
variable{P:Program}{w:World}{H H':Hp}{h h':Heap}{a:Addr}{o:HO}
theorem aB.lt(x:aB P w H h a o):a < h.objs.size:=by
 cases o with
 | lst xs=>obtain⟨_,_,_,_,e⟩:=x;exact Au e
 | tup xs=>obtain⟨_,_,_,p⟩:=x;exact p.lt
 | dK kvs=>obtain⟨_,_,_,_,o,_,_,e,_⟩:=x;exact Au e
 | dT kvs=>obtain⟨_,_,_,_,o,_,_,e,_⟩:=x;exact Au e
 | set S n=>obtain⟨o,_,_,_,e,_⟩:=x;exact Au e
 | ins C dx fs=>obtain⟨_,_,_,e,_⟩:=x;exact Au e
 | own y=>obtain⟨_,e⟩:=x;exact Au e
 | xd fs=>obtain⟨_,⟨_,_,_,e,_⟩,_⟩:=x;exact Au e
 | xg lo hi=>obtain⟨_,_,_,e⟩:=x;exact Au e
 | b7 ob u=>obtain⟨e,_⟩:=x;exact Au e
 | m6 ps=>exact Au (show h.get? a=some _ from x)
 | met f y=>exact Au (show h.get? a=some _ from x)
 | ext φ=>obtain⟨_,⟨_,e⟩,_⟩:=x;exact Au e
theorem Paired.oM{α β:Type}{F G:α->β->Prop}:∀{l₁:List α} {Ç:List β},Paired F l₁ Ç->(∀ a b,F a b->G a b)->Paired G l₁ Ç
 | _,_,.nil,_=> .nil
 | _,_,.cons r t,f=> .cons (f _ _ r)<|Paired.oM t f
theorem aB.g8(x:aB P w H h a o)(k:∀ b u,(b=a\/H b=some (.own a))->h.get? b=some u->h'.get? b=some u)
  (ho:∀ b,H b=some (.own a)->H' b=some (.own a)) (ht:∀ b xs,H b=some (.tup xs)->H' b=some (.tup xs)):aB P w H' h' a o:=by
 induction o with
 | lst xs=>obtain⟨z,its,n,r,e⟩:=x;exact⟨z,its,n,r,k _ _ (.inl rfl) e⟩
 | tup xs=>obtain⟨z,its,r,ob,e,c⟩:=x;exact⟨z,its,r,ob,k _ _ (.inl rfl) e,c⟩
 | dK kvs=>obtain⟨z,y,vs,r,ob,es,ep,e,c⟩:=x;exact⟨z,y,vs,r,ob,es,ep,k _ _ (.inl rfl) e,c⟩
 | dT kvs=>
  obtain⟨z,y,xs,r,ob,es,ep,e,c⟩:=x;exact⟨z,y,xs,Paired.oM r λp q z=>⟨z.1,ht _ _ z.2.1,z.2.2⟩,ob,es,ep,k _ _ (.inl rfl) e,c⟩
 | set S n=>obtain⟨ob,es,ep,t,e,c⟩:=x;exact⟨ob,es,ep,t,k _ _ (.inl rfl) e,c⟩
 | ins C dx fs=>
  obtain⟨d,z,ne,e,mA,⟨od,es,ep,e2,c⟩,r⟩:=x;exact⟨ho _ d,z,ne,k _ _ (.inl rfl) e,mA,⟨od,es,ep,k _ _ (.inr d) e2,c⟩,r⟩
 | own y=>obtain⟨ob,e⟩:=x;exact⟨ob,k _ _ (.inl rfl) e⟩
 | xd fs=>obtain⟨mA,⟨od,es,ep,e,c⟩,r⟩:=x;exact⟨mA,⟨od,es,ep,k _ _ (.inl rfl) e,c⟩,r⟩
 | xg lo hi=>obtain⟨t,u,v,e⟩:=x;exact⟨t,u,v,k _ _ (.inl rfl) e⟩
 | b7 ob u ih=>obtain⟨e,q⟩:=x;exact⟨k _ _ (.inl rfl) e,ih q⟩
 | m6 ps=>
  have e:h.get? a=some {cls:= .none,data:= .fields ps}:=x;show h'.get? a=some {cls:= .none,data:= .fields ps};exact k a _ (.inl rfl) e
 | met f y=>
  have e:h.get? a=some (PySem.W.methodObj (.ref f)<|.ref y):=x;show h'.get? a=some (PySem.W.methodObj (.ref f)<|.ref y);exact k a _ (.inl rfl) e
 | ext φ=>obtain⟨p,⟨o,e⟩,st⟩:=x;exact⟨st _ _ p λo q=>k _ _ (.inl rfl) q,⟨o,k _ _ (.inl rfl) e⟩,st⟩
def b9.lt(x:b9 P w H h)(e:H a=some o):a < h.objs.size:=(x a o e).lt
theorem b9.fresh(x:b9 P w H h)(e:h.objs.size<=a):H a=none:=by
 cases q:H a with
 | none=>rfl
 | some u=>exact absurd (Bi (x.lt q) e)<|De _
def b9.kept(x:b9 P w H h)(k:∀ b u,h.get? b=some u->h'.get? b=some u):b9 P w H h':=λa o e=>
 (x a o e).g8 (λb u _ q=>k b u q) (λ_ q=>q) λ_ _ q=>q
def b9.laid(x:b9 P w H h)(k:∀ b u,h.get? b=some u->h'.get? b=some u)(hp:h.objs.size<=a)(new:aB P w (upd H a o) h' a o):b9 P w (upd H a o) h':=λb u e=>by
 have hn:=x.fresh hp
 by_cases hb:b=a
 ·subst hb;rw[aw]at e;cases e;exact new
 ·rw[ax hb]at e;exact(x b u e).g8 (λc v _ q=>k c v q) (λc q=>by rw[ax<|bq q hn];exact q) λc xs q=>by rw[ax<|bq q hn];exact q
end
def Rd(H:Hp)(a:Addr)(u:HO):Prop:=H a=some u\/∃ o,H a=some (.b7 o u)
def Rd.ok{P:Program}{w:World}{H:Hp}{h:Heap}{a:Addr}{u:HO}(r:Rd H a u)(x:b9 P w H h):aB P w H h a u:=by
 rcases r with r | ⟨o,r⟩
 ·exact x a u r
 ·obtain⟨_,q⟩:=x a _ r;exact q
def tM:Option HO->Prop
 | some (.lst _)=>True
 | some (.dK _)=>True
 | some (.dT _)=>True
 | some (.set _ _)=>True
 | some (.ins _ _ _)=>True
 | some (.ext _)=>True
 | _=>False
section
variable{P:Program}{w:World}{H:Hp}{h h':Heap}{x e:Addr}{o':HO}
def b9.write(ok:b9 P w H h)(mu:tM<|H x)(he:e=x\/H e=some (.own x))(k:∀ b u,b≠e->h.get? b=some u->h'.get? b=some u)(rh:∃ u,h'.get? e=some u)
  (new:aB P w (upd H x o') h' x o'):b9 P w (upd H x o') h':=λb u q=>by
 have tN:∀ c y,H c=some (.own y)->c≠x:=λc y r z=>by subst z;rw[r]at mu;exact mu
 have zY:∀ c xs,H c=some (.tup xs)->c≠x:=λc xs r z=>by subst z;rw[r]at mu;exact mu
 by_cases hb:b=x
 ·subst hb;rw[aw]at q;cases q;exact new
 ·rw[ax hb]at q
  by_cases jZ:b=e
  ·have q':H b=some (.own x):=by
    rcases he with z | z
    ·exact absurd (jZ.trans z) hb
    ·rw[jZ];exact z
   rw[q]at q';cases q';obtain⟨v,hv⟩:=rh;exact⟨v,by rw[jZ];exact hv⟩
  ·refine(ok b u q).g8 (λc v hc r=>k c v ?_ r) (λc r=>by rw[ax<|tN c b r];exact r) λc xs r=>by rw[ax<|zY c xs r];exact r
   rcases hc with rfl | hc
   ·exact jZ
   ·rintro rfl
    rcases he with z | z
    ·exact tN c b hc z
    ·rw[hc]at z;cases z;exact hb rfl
end
structure Un(fs ex:List Addr)(H H':Hp)(h h':Heap):Prop where
 keep:∀ b o,h.get? b=some o->H b=none->b∉fs->b∉ex->h'.get? b=some o
 slot:∀ b o,h.get? b=some o->H b=none->b∈fs->b∉ex->∃ sl,h'.get? b=some {o with slots:=sl}
 free:∀ b o,h.get? b=some o->H b=none->b∉ex->H' b=none
 there:∀ b o,h.get? b=some o->b∉ex->∃ o',h'.get? b=some o'
 fm:∀ b xs,H b=some (.tup xs)->H' b=some (.tup xs)
 d6:∀ b o u,H b=some (.b7 o u)->H' b=some (.b7 o u)
 fq:∀ b ps,H b=some (.m6 ps)->∃ more,H' b=some (.m6<|ps++more)
section
variable{fs U5 ex L4:List Addr}{H H1 H2:Hp}{h h1 h2 h':Heap}{a x e:Addr}{o:HO}
def Un.any(u:Un fs ex H H1 h h1){b:Addr}{ob:Obj}(q:h.get? b=some ob)(n:H b=none)(hx:b∉ex):∃ sl,h1.get? b=some {ob with slots:=sl}:=by
 by_cases hb:b∈fs
 ·exact u.slot b ob q n hb hx
 ·exact⟨ob.slots,u.keep b ob q n hb hx⟩
def Un.kept(k:∀ b u,h.get? b=some u->h'.get? b=some u):Un fs ex H H h h':=
 ⟨λb ob q _ _ _=>k b ob q,λb ob q _ _ _=>⟨ob.slots,k b ob q⟩,λ_ _ _ n _=>n,λb ob q _=>⟨ob,k b ob q⟩,λ_ _ q=>q,λ_ _ _ q=>q,λ_ ps q=>⟨#[],by rw[q];simp⟩⟩
def Un.refl:Un fs ex H H h h:=Un.kept λ_ _ q=>q
def Un.laid(k:∀ b u,h.get? b=some u->h'.get? b=some u)(hp:h.objs.size<=a)(hn:H a=none):Un fs ex H (upd H a o) h h' where
 keep:=λb u q _ _ _=>k b u q
 slot:=λb u q _ _ _=>⟨u.slots,k b u q⟩
 free:=λb u q n _=>by rw[ax<|Bp<|Bi (Au q) hp];exact n
 there:=λb u q _=>⟨u,k b u q⟩
 fm:=λb xs q=>by rw[ax<|bq q hn];exact q
 d6:=λb u xs q=>by rw[ax<|bq q hn];exact q
 fq:=λb ps q=>⟨#[],by rw[ax<|bq q hn,q];simp⟩
def Un.write(mu:tM<|H x)(he:e=x\/H e=some (.own x))(k:∀ b u,b≠e->h.get? b=some u->h'.get? b=some u)(rh:∃ u,h'.get? e=some u):Un fs ex H (upd H x o) h h':=by
 have hx:∀ b,H b=none->b≠x:=λb n z=>by subst z;rw[n]at mu;exact mu
 have hb:∀ b,H b=none->b≠e:=λb n z=>by
  subst z
  rcases he with r | r
  ·exact hx b n r
  ·rw[n]at r;cases r
 have hm:∀ b u,H b=some u->¬ tM (some u)->b≠x:=λb u q nm z=>by subst z;rw[q]at mu;exact nm mu
 refine⟨λb u q n _ _=>k b u (hb b n) q,λb u q n _ _=>⟨u.slots,k b u (hb b n) q⟩,λb u q n _=>by rw[ax<|hx b n];exact n,λb u q _=>?_,
  λb xs q=>by rw[ax<|hm b _ q λz=>z];exact q,λb u xs q=>by rw[ax<|hm b _ q λz=>z];exact q,λb ps q=>⟨#[],by rw[ax<|hm b _ q λz=>z,q];simp⟩⟩
 by_cases jZ:b=e
 ·subst jZ;exact rh
 ·exact⟨u,k b u jZ q⟩
end
def xh(h:Heap)(H:Hp):List Addr:=(List.range h.objs.size).filter λa=>(H a).isSome
def ft(h:Heap)(H:Hp):Heap:=PySem.W.hideAll h<|xh h H
def U6(h:Heap)(H:Hp):(ft h H).objs.size=h.objs.size:=PySem.W.hideAll_size _ _
def U7{h:Heap}{H:Hp}{b:Addr}{o:Obj}(e:h.get? b=some o)(n:H b=none):(ft h H).get? b=some o:=
 PySem.W.hideAll_get _ e λhm=>by
  have q:(H b).isSome=true:=(Ba.mp hm).2;rw[n]at q;simp at q
theorem U8{h:Heap}{H:Hp}{b:Addr}{o:Obj}(e:(ft h H).get? b=some o):h.get? b=some o/\H b=none:=by
 have e':h.get? b=some o:=PySem.W.of_hideAll (xh h H) e;refine⟨e',?_⟩;cases q:H b with
 | none=>rfl
 | some x=>
  have hm:b∈xh h H:=Ba.mpr ⟨Bw.mpr<|Au e',by simp[q]⟩;have z:(ft h H).get? b=none:=PySem.W.hideAll_none (xh h H) hm;rw[z]at e;cases e
structure Mod(K:PySem.W.Frag)(mg:Ò)(base:Heap):Prop where
 ri:K.In base
 glob:base.Ns mainGlobals mg
 blt:∃ mb,base.Ns builtinsNs mb/\∀ x:Str,x ≠ "__name__"->mb x=bootBuiltins x
 nolimit:base.NoLimit
structure Cx where
 prog:Program
 w:World
 K:PySem.W.Frag
 mg:Ò
 base:Heap
 A:Around
 N:Ñ
 s₀:Shared
 H₀:Hp
 env:Env
 outer:List Env
 stack:List Env
 ex:List Addr
 fn:Str->Bool
 calm:Bool
 pn:List<|Addr×Obj
 xe:Î
def d7(l:List Env):List Addr:=l.filterMap (·.frame)
abbrev Cx.fs(X:Cx):List Addr:=d7 X.outer
def zZ(sc:Scope)(x:Str):Prop:=sc.names.lookup x=some .local\/sc.names.lookup x=some .cell\/sc.names.lookup x=some .free
def Loc(sc:Scope)(x:Str):Prop:=sc.names.lookup x=some .local\/sc.names.lookup x=some .cell
def Look(env:Env)(h:Heap)(m:Ò)(x:Str)(u:Value):Prop:=
 (env.kindOf x=some .local/\m x=some u)\/((env.kindOf x=some .cell\/env.kindOf x=some .free)/\∃ c,env.cells.lookup x=some c/\h.IsCell c (some u))
structure Cx.Ok(X:Cx):Prop where
 mod:Mod X.K X.mg X.base
 kind:X.env.scope.kind = .function
 glob:X.env.globals=mainGlobals
 blt:X.env.builtins=builtinsNs
 above:X.s₀.heap.objs.size<=X.env.locals
 inj:∀ x y c,X.env.cells.lookup x=some c->X.env.cells.lookup y=some c->x=y
 has:∀ x,(X.env.kindOf x=some .cell\/X.env.kindOf x=some .free)->∃ c,X.env.cells.lookup x=some c
 tO:∀ x c,X.fn x=true->X.env.cells.lookup x=some c->X.s₀.heap.objs.size<=c
 hd:X.calm=true->X.A.handled=none
 frames:X.A.frames=some X.stack
 xi:X.stack=X.outer\/(X.stack=X.env :: X.outer/\X.env.frame=some X.env.locals)
 L5:∀ b∈X.ex,b≠X.env.locals/\∀ x c,X.env.cells.lookup x=some c->c≠b
 bs:∀ b o,X.base.get? b=some o->X.s₀.heap.get? b=some o/\X.H₀ b=none
 m7:X.base.objs.size<=X.s₀.heap.objs.size
 j3:∀ b o,X.base.get? b=some o->b∉X.ex
 lH:∀ b∈X.ex,b∉X.fs
 dB:X.s₀.heap.FunFrames X.base X.outer
 rj:∀ b∈X.fs,X.H₀ b=none
structure Inv(X:Cx)(pins:Ð)(σ:List<|Option V)(H:Hp)(s:Shared):Prop where
 ok:X.Ok
 os:s.os=X.s₀.os
 bare:AllBare s.gens
 base:Un X.fs X.ex X.H₀ H X.s₀.heap s.heap
 loc:∃ m,s.heap.Ns X.env.locals m/\∀(i:Nat) (x:Str) (v:V),X.N[i]?=some x->σ[i]?=some (some v)->zZ X.env.scope x->∃ u,RelV v u/\Look X.env s.heap m x u
 cell:∀ x c,X.env.cells.lookup x=some c->∃ v,s.heap.IsCell c v
 free:H X.env.locals=none
 cf:∀ x c,X.env.cells.lookup x=some c->H c=none
 pin:∀ p∈X.pn++pins,s.heap.get? p.1=some p.2/\H p.1=none/\p.1≠X.env.locals/\p.1∉X.fs/\∀ v,p.2.data ≠ .cell v
 aI:b9 X.prog X.w H s.heap
 len:σ.length=X.N.length
section
variable{X:Cx}{pins:Ð}{σ:List (Option V)}{H H':Hp}{s:Shared}{h':Heap}
def Cx.Ok.z6(ok:X.Ok){b:Addr}{o:Obj}(e:X.base.get? b=some o):b∉X.fs:=λhb=>by
 have:=(ok.dB.mem hb).1;rw[e]at this;cases this
def Inv.bs(I:Inv X pins σ H s):∀ b o,X.base.get? b=some o->s.heap.get? b=some o/\H b=none:=λb o e=>
 ⟨I.base.keep b o (I.ok.bs b o e).1 (I.ok.bs b o e).2 (I.ok.z6 e)<|I.ok.j3 b o e,I.base.free b o (I.ok.bs b o e).1 (I.ok.bs b o e).2<|I.ok.j3 b o e⟩
def Inv.bk(I:Inv X pins σ H s):∀ b o,X.base.get? b=some o->s.heap.get? b=some o:=λb o e=>(I.bs b o e).1
def Inv.mod(I:Inv X pins σ H s):Mod X.K X.mg X.base:=I.ok.mod
def Inv.gd(I:Inv X pins σ H s):X.K.In s.heap:=I.ok.mod.ri.keeps I.bk
def Inv.lt(I:Inv X pins σ H s):X.env.locals < s.heap.objs.size:=let ⟨_,hn,_⟩:=I.loc;hn.lt
def Inv.sz(I:Inv X pins σ H s):X.s₀.heap.objs.size<=s.heap.objs.size:=Bq I.ok.above<|Cs I.lt
def Inv.z7(I:Inv X pins σ H s){a:Addr}(h:s.heap.objs.size<=a):a∉X.fs:=λhb=>by
 obtain⟨_,o,ho,_⟩:=I.ok.dB.mem hb;exact absurd (Bi (Au ho)<|Bq I.sz h)<|De _
def Inv.lJ(I:Inv X pins σ H s):∀ x c,X.env.cells.lookup x=some c->c≠X.env.locals:=λx c e z=>by
 obtain⟨v,o,ho,hd⟩:=I.cell x c e;obtain⟨m,⟨o',es,ep,fQ,oO,_⟩,_⟩:=I.loc;rw[z,fQ]at ho;cases ho;rw[oO]at hd;cases hd
def Inv.dB(I:Inv X pins σ H s):s.heap.FunFrames X.base X.outer:=by
 have all:∀(l:List Env),(∀ b∈d7 l,b∈X.fs)->X.s₀.heap.FunFrames X.base l->s.heap.FunFrames X.base l:=by
  intro l
  induction l with
  | nil=>intro _ _;trivial
  | cons env r ih=>
   intro hs hl;obtain⟨hk,⟨L,o,hf,hn,ho,hd⟩,hr⟩:=hl;have hL:L∈X.fs:=hs L (by unfold d7;rw[Ef,hf];exact Af);obtain⟨sl,e⟩:=I.base.slot L o ho (I.ok.rj L hL) hL λz=>I.ok.lH L z hL;exact⟨hk,⟨L,_,hf,hn,e,hd⟩,ih (λb hb=>hs b<|by unfold d7;rw[Ef,hf];exact Ah _ hb) hr⟩
 exact all X.outer (λ_ hb=>hb) I.ok.dB
def Inv.stack(I:Inv X pins σ H s):s.heap.FunFrames X.base X.stack:=by
 rcases I.ok.xi with e | ⟨e,hf⟩
 ·rw[e];exact I.dB
 ·rw[e];obtain⟨m,hn,_⟩:=I.loc;refine .cons (by rw[I.ok.kind];decide) hf hn ?_ I.dB;exact Heap.get?_none_of_le<|Bq I.ok.m7 I.ok.above
def Inv.fv(I:Inv X pins σ H s):∀ b∈d7 X.stack,b∈X.env.locals :: X.fs:=λb hb=>by
 rcases I.ok.xi with e | ⟨e,hf⟩
 ·rw[e]at hb;exact Ah _ hb
 ·rw[e]at hb;unfold d7 at hb;rw[Ef,hf]at hb;exact hb
def Inv.dk(I:Inv X pins σ H s):∀ b∈d7 X.stack,H b=none:=λb hb=>by
 rcases Ak.mp (I.fv b hb)with e | hb
 ·rw[e];exact I.free
 ·obtain⟨_,o,ho,_⟩:=I.ok.dB.mem hb;exact I.base.free b o ho (I.ok.rj b hb) λz=>I.ok.lH b z hb
def Inv.step{g':Array GenState}{t':Nat}{d':Drawn}{ch:List Addr}(I:Inv X pins σ H s)
  (kY:∀ b∈ch,(b∈X.ex\/X.s₀.heap.objs.size<=b)/\b≠X.env.locals/\(∀ x c,X.env.cells.lookup x=some c->c≠b)/\∀ p∈X.pn++pins,p.1≠b)
  (keep:∀ b o,b≠X.env.locals->b∉X.fs->b∉ch->s.heap.get? b=some o->H b=none->h'.get? b=some o)
  (slot:∀ b o,b≠X.env.locals->b∈X.fs->b∉ch->s.heap.get? b=some o->H b=none->∃ sl,h'.get? b=some {o with slots:=sl}) (free:∀ b o,b∉ch->s.heap.get? b=some o->H b=none->H' b=none)
  (there:∀ b o,b∉ch->s.heap.get? b=some o->∃ o',h'.get? b=some o')
  (fm:∀ b xs,H b=some (.tup xs)->H' b=some (.tup xs)) (d6:∀ b o u,H b=some (.b7 o u)->H' b=some (.b7 o u)) (fq:∀ b ps,H b=some (.m6 ps)->∃ more,H' b=some (.m6<|ps++more))
  (ns:∀ m,s.heap.Ns X.env.locals m->h'.Ns X.env.locals m) (aI:b9 X.prog X.w H' h') (hg:AllBare g') :
  Inv X pins σ H' {s with heap:=h',gens:=g',drawn:=d',toks:=t'}:=by
 have L9:∀ b o,X.s₀.heap.get? b=some o->b≠X.env.locals:=λb o e=>Bp<|Bi (Au e) I.ok.above;have xj:∀ b o,X.s₀.heap.get? b=some o->b∉X.ex->b∉ch:=λb o e hx hb=>by
  rcases (kY b hb).1 with z | z
  ·exact hx z
  ·exact absurd (Bi (Au e) z)<|De _
 have cellK:∀ x c,X.env.cells.lookup x=some c->∀ v,s.heap.IsCell c v->h'.IsCell c v:=λx c e v ⟨o,ho,hd⟩=>by
  have tP:c∉ch:=λz=>(kY c z).2.2.1 x c e rfl
  by_cases hc:c∈X.fs
  ·obtain⟨sl,q⟩:=slot c o (I.lJ x c e) hc tP ho<|I.cf x c e;exact⟨_,q,hd⟩
  ·exact⟨o,keep c o (I.lJ x c e) hc tP ho<|I.cf x c e,hd⟩
 refine⟨I.ok,I.os,hg,⟨λb o e n hb hx=>?_,λb o e n hb hx=>?_,λb o e n hx=>?_,λb o e hx=>?_,λb xs e=>fm b xs<|I.base.fm b xs e,λb o xs e=>d6 b o xs<|I.base.d6 b o xs e,λb ps e=>?_⟩,?_,λx c e=>?_,?_,λx c e=>?_,λp hp=>?_,aI,I.len⟩
 ·exact keep b o (L9 b o e) hb (xj b o e hx) (I.base.keep b o e n hb hx)<|I.base.free b o e n hx
 ·obtain⟨sl,e1⟩:=I.base.slot b o e n hb hx;obtain⟨xk,e2⟩:=slot b _ (L9 b o e) hb (xj b o e hx) e1<|I.base.free b o e n hx;exact⟨xk,e2⟩
 ·obtain⟨o',e1⟩:=I.base.there b o e hx;exact free b o' (xj b o e hx) e1<|I.base.free b o e n hx
 ·obtain⟨o',e1⟩:=I.base.there b o e hx;exact there b o' (xj b o e hx) e1
 ·obtain⟨m1,e1⟩:=I.base.fq b ps e;obtain⟨m2,e2⟩:=fq b _ e1;exact⟨m1++m2,by rw[e2,Array.append_assoc]⟩
 ·obtain⟨m,hn,hl⟩:=I.loc;refine⟨m,ns m hn,λi x v e1 e2 e3=>?_⟩;obtain⟨u,r,l⟩:=hl i x v e1 e2 e3;refine⟨u,r,?_⟩
  rcases l with l | ⟨k,c,e,z⟩
  ·exact .inl l
  ·exact .inr ⟨k,c,e,cellK x c e _ z⟩
 ·obtain⟨v,z⟩:=I.cell x c e;exact⟨v,cellK x c e v z⟩
 ·obtain⟨m,⟨o,_,_,ho,_⟩,_⟩:=I.loc;exact free _ o (λz=>(kY _ z).2.1 rfl) ho I.free
 ·obtain⟨v,o,ho,hd⟩:=I.cell x c e;exact free c o (λz=>(kY c z).2.2.1 x c e rfl) ho<|I.cf x c e
 ·obtain⟨e,n,ne,nf,d⟩:=I.pin p hp;have tP:p.1∉ch:=λz=>(kY p.1 z).2.2.2 p hp rfl;exact⟨keep p.1 p.2 ne nf tP e n,free p.1 p.2 tP e n,ne,nf,d⟩
def Inv.un{t':Nat}(I:Inv X pins σ H s)(u:Un X.fs [] H H' s.heap h')(aI:b9 X.prog X.w H' h'):Inv X pins σ H' {s with heap:=h',toks:=t'}:=by
 obtain⟨m,⟨o,es,ep,ho,r⟩,_⟩:=id I.loc;obtain⟨sl,hL⟩:=u.any ho I.free (by simp);exact I.step (g':=s.gens) (d':=s.drawn) (ch:=[]) (λ_ z=>nomatch z) (λb o _ hb _ e n=>u.keep b o e n hb<|by simp) (λb o _ hb _ e n=>u.slot b o e n hb<|by simp) (λb o _ e n=>u.free b o e n<|by simp) (λb o _ e=>u.there b o e<|by simp) u.fm u.d6 u.fq (λm' hm=>by
  obtain⟨o',fT,oQ,fQ,r'⟩:=hm;rw[ho]at fQ;cases fQ;exact⟨_,fT,oQ,hL,r'⟩) aI I.bare
def Inv.call{g':Array GenState}{t':Nat}{d':Drawn}{ch:List Addr}(I:Inv X pins σ H s)(u:Un (d7 X.stack) ch H H' s.heap h')(aI:b9 X.prog X.w H' h')(hg:AllBare g')
  (kY:∀ b∈ch,(b∈X.ex\/X.s₀.heap.objs.size<=b)/\b≠X.env.locals/\(∀ x c,X.env.cells.lookup x=some c->c≠b)/\∀ p∈X.pn++pins,p.1≠b) :
  Inv X pins σ H' {s with heap:=h',gens:=g',drawn:=d',toks:=t'}:=by
 obtain⟨m,⟨o,es,ep,ho,r⟩,_⟩:=id I.loc;obtain⟨sl,hL⟩:=u.any ho I.free λz=>(kY _ z).2.1 rfl;exact I.step (ch:=ch) kY (λb o hL hb hc e n=>u.keep b o e n (λz=>(Ak.mp<|I.fv b z).elim hL hb) hc) (λb o _ _ hc e n=>u.any e n hc) (λb o hc e n=>u.free b o e n hc) (λb o hc e=>u.there b o e hc) u.fm u.d6 u.fq (λm' hm=>by
  obtain⟨o',fT,oQ,fQ,r'⟩:=hm;rw[ho]at fQ;cases fQ;exact⟨_,fT,oQ,hL,r'⟩) aI hg
def Inv.turned{t':Nat}{it:Addr}(I:Inv X pins σ H s)(k:∀ b o,b≠it->s.heap.get? b=some o->h'.get? b=some o)(hn:H it=none)(hL:it≠X.env.locals)
  (h1:it∈X.ex\/X.s₀.heap.objs.size<=it) (h2:∀ x c,X.env.cells.lookup x=some c->c≠it) (h3:∀ p∈X.pn++pins,p.1≠it):Inv X pins σ H {s with heap:=h',toks:=t'}:=by
 have tQ:∀ b u,H b=some u->b≠it:=λb u e z=>by rw[z,hn]at e;cases e
 refine I.step (g':=s.gens) (d':=s.drawn) (ch:=[it]) (λb hb=>?_) (λb o _ _ hc e _=>k b o (λz=>hc<|by simp[z]) e) (λb o _ _ hc e _=>⟨o.slots,k b o (λz=>hc<|by simp[z]) e⟩) (λ_ _ _ _ n=>n)
  (λb o hc e=>⟨o,k b o (λz=>hc<|by simp[z]) e⟩) (λ_ _ e=>e) (λ_ _ _ e=>e) (λb ps e=>⟨#[],by rw[e];simp⟩) (λm hm=>?_) (λb u e=>?_) I.bare
 ·have e:b=it:=by simpa using hb
  subst e;exact⟨h1,hL,h2,h3⟩
 ·obtain⟨o,es,ep,ho,r⟩:=hm;exact⟨o,es,ep,k _ o (CK hL) ho,r⟩
 ·refine(I.aI b u e).g8 (λc v hc q=>k c v ?_ q) (λ_ q=>q) λ_ _ q=>q
  rcases hc with z | z
  ·rw[z];exact tQ b u e
  ·exact tQ c _ z
def Inv.tok(I:Inv X pins σ H s)(t:Nat):Inv X pins σ H {s with toks:=t}:=I.un (h':=s.heap) (t':=t) Un.refl I.aI
def Inv.kept{t':Nat}(I:Inv X pins σ H s)(k:∀ b u,s.heap.get? b=some u->h'.get? b=some u):Inv X pins σ H {s with heap:=h',toks:=t'}:=I.un (Un.kept k)<|I.aI.kept k
def Inv.laid{a:Addr}{o:HO}{t':Nat}(I:Inv X pins σ H s)(k:∀ b u,s.heap.get? b=some u->h'.get? b=some u)(hp:s.heap.objs.size<=a)(new:aB X.prog X.w (upd H a o) h' a o) :
  Inv X pins σ (upd H a o) {s with heap:=h',toks:=t'}:=I.un (Un.laid k hp<|I.aI.fresh hp)<|I.aI.laid k hp new
def Inv.write{x e:Addr}{o:HO}{t':Nat}(I:Inv X pins σ H s)(mu:tM<|H x)(he:e=x\/H e=some (.own x))(k:∀ b u,b≠e->s.heap.get? b=some u->h'.get? b=some u)(rh:∃ u,h'.get? e=some u)
  (new:aB X.prog X.w (upd H x o) h' x o):Inv X pins σ (upd H x o) {s with heap:=h',toks:=t'}:=I.un (Un.write mu he k rh)<|I.aI.write mu he k rh new
def Inv.iz{m8:Ð}(I:Inv X pins σ H s)(h:∀ p∈m8,s.heap.get? p.1=some p.2/\H p.1=none/\p.1≠X.env.locals/\p.1∉X.fs/\∀ v,p.2.data ≠ .cell v):Inv X m8 σ H s:=
 ⟨I.ok,I.os,I.bare,I.base,I.loc,I.cell,I.free,I.cf,λp hp=>(Al.mp hp).elim (λz=>I.pin p<|Bc _ z)<|h p,I.aI,I.len⟩
def Ma{N:Ñ}(hN:N.Nodup){i j:Nat}{x:Str}(a:N[i]?=some x)(b:N[j]?=some x):i=j:=by
 obtain⟨h1,e1⟩:=Ac.mp a;obtain⟨h2,e2⟩:=Ac.mp b;exact(Gm hN).mp<|e1.trans e2.symm
def U9{M:Model}{A:Around}{E:Î}{i:Nat}{x:Str}{v:V}{u:Value}{Q:Unit->Shared->Prop}(I:Inv X pins σ H s)(hN:X.N.Nodup)(hi:X.N[i]?=some x)(hx:Loc X.env.scope x)(r:RelV v u)
  (h:∀ s',Inv X pins (σ.set i<|some v) H s'->(∃ a,Heap.SameBut a s.heap s'.heap/\(a=X.env.locals\/X.env.cells.lookup x=some a))->Q () s') (hf:X.fn x=true\/X.env.scope.names.lookup x=some .local:=by first | exact .inl rfl | exact .inr rfl | assumption):wpAny M A (storeName X.env x u) Q E s:=by
 obtain⟨m,hn,hl⟩:=id I.loc;have z8:(X.env.scope.kind == .class || (X.env.scope.kind == .module && X.env.locals != X.env.globals))=false:=by rw[I.ok.kind];rfl
 have hiσ:i < σ.length:=by rw[I.len];exact(Ac.mp hi).1
 have lJ:=I.lJ;have tracked:∀{a:Addr} {h':Heap},(∃ o,s.heap.get? a=some o/\H a=none)->Heap.SameBut a s.heap h'->b9 X.prog X.w H h':=λ{a h'} ha hs b ob e=>by
  obtain⟨_,_,m9⟩:=ha;refine(I.aI b ob e).g8 (λc w' hc q=>(hs.2 c ?_).trans q) (λ_ q=>q) λ_ _ q=>q;rintro rfl
  rcases hc with rfl | hc
  ·rw[m9]at e;cases e
  ·rw[m9]at hc;cases hc
 rcases hx with hk | hk
 ·refine wpAny_storeName_local hk hn (λh' xl hs=>?_) z8;obtain⟨oL,_,_,j4,_⟩:=id hn;refine h _ ⟨I.ok,I.os,I.bare,⟨λb o e n hb hx=>?_,λb o e n hb hx=>?_,I.base.free,λb o e hx=>?_,I.base.fm,I.base.d6,I.base.fq⟩,⟨_,xl,λj y v' e1 e2 e3=>?_⟩,λy c e=>?_,I.free,I.cf,λp hp=>?_,tracked ⟨oL,j4,I.free⟩ hs,by simpa using I.len⟩ ⟨_,hs,.inl rfl⟩
  ·exact(hs.2 b<|Bp<|Bi (Au e) I.ok.above).trans<|I.base.keep b o e n hb hx
  ·obtain⟨sl,e1⟩:=I.base.slot b o e n hb hx;exact⟨sl,(hs.2 b<|Bp<|Bi (Au e) I.ok.above).trans e1⟩
  ·obtain⟨o',e1⟩:=I.base.there b o e hx;exact⟨o',(hs.2 b<|Bp<|Bi (Au e) I.ok.above).trans e1⟩
  ·by_cases hj:j=i
   ·subst hj;rw[hi]at e1;cases e1;rw[SJ hiσ]at e2;cases e2;exact⟨u,r,.inl ⟨hk,by simp⟩⟩
   ·rw[List.getElem?_set_ne<|CK hj]at e2;obtain⟨u',r',q⟩:=hl j y v' e1 e2 e3;refine⟨u',r',?_⟩
    rcases q with ⟨k,e⟩ | ⟨k,c,e,z⟩
    ·refine .inl ⟨k,?_⟩;have:y≠x:=λe=>hj<|Ma hN e1<|e ▸ hi;simp[this,e]
    ·exact .inr ⟨k,c,e,z.sameBut hs<|lJ y c e⟩
  ·obtain⟨w',z⟩:=I.cell y c e;exact⟨w',z.sameBut hs<|lJ y c e⟩
  ·obtain⟨e,n,ne,nf,d⟩:=I.pin p hp;exact⟨(hs.2 p.1 ne).trans e,n,ne,nf,d⟩
 ·have z9:X.fn x=true:=by
   rcases hf with z | z
   ·exact z
   ·rw[z]at hk;cases hk
  obtain⟨c,hc⟩:=I.ok.has x<|.inl hk;obtain⟨w',z⟩:=I.cell x c hc;refine wpAny_storeName_cell I.ok.kind hk hc z λh' bY hs=>?_;obtain⟨oc,Mb,AA⟩:=id z;refine h {s with heap:=h'} ⟨I.ok,I.os,I.bare,⟨λb o e n hb hx=>?_,λb o e n hb hx=>?_,I.base.free,λb o e hx=>?_,I.base.fm,I.base.d6,I.base.fq⟩,⟨m,hn.sameBut hs<|CK<|lJ x c hc,λj y v' e1 e2 e3=>?_⟩,λy c' e=>?_,I.free,I.cf,λp hp=>?_,tracked ⟨oc,Mb,I.cf x c hc⟩ hs,by simpa using I.len⟩ ⟨c,hs,.inr hc⟩
  ·exact(hs.2 b<|Bp<|Bi (Au e)<|I.ok.tO x c z9 hc).trans<|I.base.keep b o e n hb hx
  ·obtain⟨sl,e1⟩:=I.base.slot b o e n hb hx;exact⟨sl,(hs.2 b<|Bp<|Bi (Au e)<|I.ok.tO x c z9 hc).trans e1⟩
  ·obtain⟨o',e1⟩:=I.base.there b o e hx;exact⟨o',(hs.2 b<|Bp<|Bi (Au e)<|I.ok.tO x c z9 hc).trans e1⟩
  ·by_cases hj:j=i
   ·subst hj;rw[hi]at e1;cases e1;rw[SJ hiσ]at e2;cases e2;exact⟨u,r,.inr ⟨.inl hk,c,hc,bY⟩⟩
   ·rw[List.getElem?_set_ne<|CK hj]at e2;obtain⟨u',r',q⟩:=hl j y v' e1 e2 e3;refine⟨u',r',?_⟩
    rcases q with q | ⟨k,c',e,z'⟩
    ·exact .inl q
    ·refine .inr ⟨k,c',e,z'.sameBut hs ?_⟩;rintro rfl;exact hj<|Ma hN e1<|I.ok.inj _ _ _ e hc ▸ hi
  ·by_cases iA:c'=c
   ·subst iA;exact⟨_,bY⟩
   ·obtain⟨w2,z2⟩:=I.cell y c' e;exact⟨w2,z2.sameBut hs iA⟩
  ·obtain⟨e,n,ne,nf,d⟩:=I.pin p hp;refine⟨(hs.2 p.1 ?_).trans e,n,ne,nf,d⟩;intro q;rw[q,Mb]at e;have q':oc=p.2:=Option.some.inj e;exact d w'<|by rw[<- q'];exact AA
def Md{M:Model}{A:Around}{E:Î}{i:Nat}{x:Str}{v:V}{u:Value}{Q:Unit->Shared->Prop}(I:Inv X pins σ H s)(hN:X.N.Nodup)(hi:X.N[i]?=some x)(hx:Loc X.env.scope x)(r:RelV v u)
  (h:∀ s',Inv X pins (σ.set i<|some v) H s'->Q () s') (hf:X.fn x=true\/X.env.scope.names.lookup x=some .local:=by first | exact .inl rfl | exact .inr rfl | assumption):wpAny M A (storeName X.env x u) Q E s:=
 U9 I hN hi hx r (λs' I' _=>h s' I') hf
def Inv.call'{s':Shared}{ch:List Addr}(I:Inv X pins σ H s)(ho:s'.os=s.os)(u:Un (d7 X.stack) ch H H' s.heap s'.heap)(aI:b9 X.prog X.w H' s'.heap)(hg:AllBare s'.gens)
  (kY:∀ b∈ch,(b∈X.ex\/X.s₀.heap.objs.size<=b)/\b≠X.env.locals/\(∀ x c,X.env.cells.lookup x=some c->c≠b)/\∀ p∈X.pn++pins,p.1≠b):Inv X pins σ H' s':=by
 obtain⟨h',g',d',t',o'⟩:=s';have e:o'=s.os:=ho;subst e;exact I.call (g':=g') (t':=t') (d':=d') u aI hg kY
end
abbrev XK:=Value->Option Addr->Hp->Prop
abbrev St:=List<|Option V
abbrev VK:=V->Hp->Prop
abbrev TE:=St->Hp->VK->Prop
abbrev TT:=St->Hp->(Bool->Hp->Prop)->Prop
abbrev TA:=St->Hp->(List V->Hp->Prop)->Prop
structure Ends where
 nx:St->Hp->Prop
 rt:VK
 bk:St->Hp->Prop:=λ_ _=>False
 ct:St->Hp->Prop:=λ_ _=>False
abbrev TS:=Ends->St->Hp->Prop
def EP(X:Cx)(pins:Ð)(σ:St)(Q:VK)(u:Value)(s':Shared):Prop:=∃ v H',Inv X pins σ H' s'/\RelV v u/\Q v H'
def TP(X:Cx)(pins:Ð)(σ:St)(Q:Bool->Hp->Prop)(b:Bool)(s':Shared):Prop:=∃ H',Inv X pins σ H' s'/\Q b H'
def AP(X:Cx)(pins:Ð)(σ:St)(Q:List V->Hp->Prop)(us:Ó)(s':Shared):Prop:=∃ vs H',Inv X pins σ H' s'/\aA vs us/\Q vs H'
def SP(X:Cx)(pins:Ð)(D:Ends)(f:Flow)(s':Shared):Prop:=
 match f with
 | .next=>∃ σ' H',Inv X pins σ' H' s'/\D.nx σ' H'
 | .brk=>∃ σ' H',Inv X pins σ' H' s'/\D.bk σ' H'
 | .cont=>∃ σ' H',Inv X pins σ' H' s'/\D.ct σ' H'
 | .ret u=>∃ v σ' H',Inv X pins σ' H' s'/\RelV v u/\D.rt v H'
def PE(X:Cx)(e:Expr)(t:TE):Prop:=
 ∀(pins:Ð) (s:Shared) (σ:St) (H:Hp) (Q:VK),Inv X pins σ H s->t σ H Q->wpAny (model X.prog X.w) X.A (eval e X.env) (EP X pins σ Q) X.xe s
def PT(X:Cx)(e:Expr)(t:TT):Prop:=
 ∀(pins:Ð) (s:Shared) (σ:St) (H:Hp) (Q:Bool->Hp->Prop),Inv X pins σ H s->t σ H Q->wpAny (model X.prog X.w) X.A (isTrue e X.env<|eval e X.env) (TP X pins σ Q) X.xe s
def PW(X:Cx)(e:Expr)(t:TT):Prop:=
 ∀(whole:Sem Value) (pins:Ð) (s:Shared) (σ:St) (H:Hp) (Q:Bool->Hp->Prop),Inv X pins σ H s->t σ H Q->wpAny (model X.prog X.w) X.A (isTrue e X.env whole) (TP X pins σ Q) X.xe s
def PA(X:Cx)(es:Ô)(t:TA):Prop:=
 ∀(pos:Pos) (pins:Ð) (s:Shared) (σ:St) (H:Hp) (Q:List V->Hp->Prop),Inv X pins σ H s->t σ H Q->wpAny (model X.prog X.w) X.A (spliced<|backTo pos<|starEach es X.env) (AP X pins σ Q) X.xe s
def PS(X:Cx)(st:Stmt)(t:TS):Prop:=
 ∀(pins:Ð) (s:Shared) (σ:St) (H:Hp) (D:Ends),Inv X pins σ H s->t D σ H->wpAny (model X.prog X.w) X.A (exec st X.env) (SP X pins D) X.xe s
def i0(X:Cx)(st:Õ)(t:TS):Prop:=
 ∀(pins:Ð) (s:Shared) (σ:St) (H:Hp) (D:Ends),Inv X pins σ H s->t D σ H->wpAny (model X.prog X.w) X.A (execs st X.env) (SP X pins D) X.xe s
def aU{α:Type}{t:Sem α}{Q Q':α->Shared->Prop}{M:Model}{A:Around}{E:Î}{s:Shared}(h:wpAny M A t Q E s)(hQ:∀ a s,Q a s->Q' a s):wpAny M A t Q' E s:=CV h hQ λ_ _ x=>x
section
variable{X:Cx}
def bin{a b:Expr}{ta tb:TE}(ha:PE X a ta)(hb:PE X b tb){pins:Ð}{s:Shared}{σ:St}{H:Hp}{R:V->V->Hp->Prop}(I:Inv X pins σ H s)(h:ta σ H λx H1=>tb σ H1 λy H2=>R x y H2)
  {α:Type} {Q:α->Shared->Prop} {f:Value->Value->Sem α}
  (hf:∀ v u s2 x y H2,Inv X pins σ H2 s2->RelV x v->RelV y u->R x y H2->wpAny (model X.prog X.w) X.A (f v u) Q X.xe s2) :
  wpAny (model X.prog X.w) X.A (eval a X.env) (λv À=>wpAny (model X.prog X.w) X.A (eval b X.env) (λu Á=>wpAny (model X.prog X.w) X.A (f v u) Q X.xe Á) X.xe À) X.xe s:=by
 refine aU (ha pins s σ H _ I h) λv s1 ⟨x,H1,I1,r1,q1⟩=>?_;refine aU (hb pins s1 σ H1 _ I1 q1) λu s2 ⟨y,H2,I2,r2,q2⟩=>?_;exact hf v u s2 x y H2 I2 r1 r2 q2
def AB(i:Nat):TE:=λσ H Q=>∃ v,σ[i]?=some (some v)/\Q v H
def tC(v:V):TE:=λ_ H Q=>Q v H
def U'{i:Nat}{x:Str}{pos:Pos}(hN:X.N[i]?=some x)(hv:zZ X.env.scope x)(hd:(x == ("__debug__" : Str))=false:=by decide)(iB:(x == ("__classdict__" : Str))=false:=by decide):PE X (.Name x pos) (AB i):=by
 intro pins s σ H Q I h;obtain⟨v,e,h⟩:=h;obtain⟨m,hn,hl⟩:=I.loc;obtain⟨u,r,l⟩:=hl i x v hN e hv;have fin:EP X pins σ Q u s:=⟨v,H,I,r,h⟩
 rcases l with ⟨hk,hm⟩ | ⟨hk,c,hc,iC⟩
 ·exact wpAny_Name (wpAny_loadName_local I.ok.kind hk hn hm fin) hd
 ·rcases hk with hk | hk
  ·exact wpAny_Name (wpAny_loadName_cell I.ok.kind hk hc iC fin) hd
  ·exact wpAny_Name (wpAny_loadName_free I.ok.kind hk hc iC fin iB) hd
def Va{i j pos}:PE X (.Constant (.int i) j pos) (tC<|.int i):=λ_ _ _ H _ I h=>wpAny_Constant_int ⟨.int i,H,I.tok _,⟨_,rfl⟩,h⟩
def Vb{b j pos}:PE X (.Constant (.bool b) j pos) (tC<|.bl b):=λ_ _ _ H _ I h=>Constant_bool ⟨.bl b,H,I,rfl,h⟩
def Vc{x j pos}:PE X (.Constant (.str x) j pos) (tC<|.str x):=λ_ _ _ H _ I h=>Calls.Constant_str ⟨.str x,H,I.tok _,⟨_,rfl⟩,h⟩
def Gl(X:Cx)(x:Str):Prop:=X.env.kindOf x=some .globalImplicit
def Mf{E:Î}{pins:Ð}{s:Shared}{σ:St}{H:Hp}{x:Str}{u:Value}{pos:Pos}{Q:Î}(I:Inv X pins σ H s)(hg:Gl X x)(hm:X.mg x=some u)(h:Q u s)
  (hd:(x == ("__debug__" : Str))=false:=by decide):wpAny (model X.prog X.w) X.A (eval (.Name x pos) X.env) Q E s:=
 Calls.Name_function_global I.ok.kind hg (Calls.loadGlobal_global (by rw[I.ok.glob];exact I.mod.glob.keeps I.bk) hm h) hd
def oR{E:Î}{pins:Ð}{s:Shared}{σ:St}{H:Hp}{x:Str}{u:Value}{pos:Pos}{Q:Î}(I:Inv X pins σ H s)(hg:Gl X x)(hm:X.mg x=none)(hv:bootBuiltins x=some u)(h:Q u s)
  (hn:x ≠ "__name__":=by decide) (hd:(x == ("__debug__" : Str))=false:=by decide):wpAny (model X.prog X.w) X.A (eval (.Name x pos) X.env) Q E s:=by
 obtain⟨mb,h1,h2⟩:=I.mod.blt;exact Calls.Name_function_global I.ok.kind hg (Calls.loadGlobal_builtin (by rw[I.ok.glob];exact I.mod.glob.keeps I.bk) hm (by rw[I.ok.blt];exact h1.keeps I.bk) ((h2 x hn).trans hv) h) hd
def Vd{x:Str}{v:V}{u:Value}{pos:Pos}(hg:Gl X x)(hm:X.mg x=none)(hv:bootBuiltins x=some u)(r:RelV v u)(hn:x ≠ "__name__":=by decide)(hd:(x == ("__debug__" : Str))=false:=by decide):PE X (.Name x pos) (tC v):=
 λ_ _ _ H _ I h=>oR I hg hm hv ⟨v,H,I,r,h⟩ hn hd
variable{a b:Expr}{ta tb:TE}{pos:Pos}
def PC(X:Cx)(op:CmpOp)(a b:Expr)(t:TE):Prop:=
 ∀(pins:Ð) (s:Shared) (σ:St) (H:Hp) (Q:VK),Inv X pins σ H s->t σ H Q ->
  wpAny (model X.prog X.w) X.A (eval a X.env) (λv À=>wpAny (model X.prog X.w) X.A (eval b X.env) (λu Á=>wpAny (model X.prog X.w) X.A (compareOp op v u) (EP X pins σ Q) X.xe Á) X.xe À) X.xe s
def tB(t:TE):TT:=λσ H Q=>t σ H λx H1=>∃ c,x = .bl c/\Q c H1
def Ve{op:CmpOp}{t:TE}(h:PC X op a b t)(h1:behindInMarks op b=false:=by first | exact tR _ (by decide) (by decide) | rfl):PT X (.Compare a [op] [b] pos) (tB t):=by
 intro pins s σ H Q I hw;refine wpAny_isTrue_Compare1 (aU (h pins s σ H _ I hw) λv s1 h1=>aU h1 λu s2 h2=>aU h2 λc s3 ⟨x,H1,I1,r1,q1⟩=>?_) h1;obtain⟨d,rfl,q⟩:=q1;cases r1;exact GQ ⟨H1,I1,q⟩
def Vf{e:Expr}{t:TE}(h:PE X e t)(he:∀ whole,isTrue e X.env whole=(do let v <- whole;standAt e.pos;holding [v] (truthy v)):=by intro _;rfl):PT X e (tB t):=by
 intro pins s σ H Q I hw;refine isTrue_plain (aU (h pins s σ H _ I hw) λv s1 ⟨x,H1,I1,r1,q1⟩=>?_)<|he _;obtain⟨d,rfl,q⟩:=q1;cases r1;exact GQ ⟨H1,I1,q⟩
variable{tA xm:TT}{rest:Ô}
def AF(t u:TT):TT:=λσ H Q=>t σ H λc H1=>if c=true then u σ H1 Q else Q false H1
def Vg(t u:TT):TT:=λσ H Q=>t σ H λc H1=>if c=true then Q true H1 else u σ H1 Q
def AG(t:TT):TT:=λσ H Q=>t σ H λc H1=>Q (!c) H1
theorem Vh(ha:PT X a tA):PW X (.BoolOp .And [a] pos) tA:=by
 intro wh pins s σ H Q I h;refine isTrue_and<|aU (ha pins s σ H Q I h) λc s1 e=>?_;cases c with
 | true=>exact isTrue_and_nil e
 | false=>exact e
theorem Vi(ha:PT X a tA):PW X (.BoolOp .Or [a] pos) tA:=by
 intro wh pins s σ H Q I h;refine isTrue_or<|aU (ha pins s σ H Q I h) λc s1 e=>?_;cases c with
 | false=>exact isTrue_or_nil e
 | true=>exact e
theorem Vj(ha:PT X a tA)(hb:PW X (.BoolOp .And (b :: rest) pos) xm):PW X (.BoolOp .And (a :: b :: rest) pos) (AF tA xm):=by
 intro wh pins s σ H Q I h;refine isTrue_and<|aU (ha pins s σ H _ I h) λc s1 ⟨H1,I1,q1⟩=>?_;cases c with
 | true=>exact hb wh pins s1 σ H1 Q I1 q1
 | false=>exact⟨H1,I1,q1⟩
theorem Vk(ha:PT X a tA)(hb:PW X (.BoolOp .Or (b :: rest) pos) xm):PW X (.BoolOp .Or (a :: b :: rest) pos) (Vg tA xm):=by
 intro wh pins s σ H Q I h;refine isTrue_or<|aU (ha pins s σ H _ I h) λc s1 ⟨H1,I1,q1⟩=>?_;cases c with
 | true=>exact⟨H1,I1,q1⟩
 | false=>exact hb wh pins s1 σ H1 Q I1 q1
def Vl(ha:PT X a tA):PT X (.UnaryOp .Not a pos) (AG tA):=by
 intro pins s σ H Q I h;exact isTrue_not<|ha pins s σ H (λc H1=>Q (!c) H1) I h
def Vm(t:TT)(ta tb:TE):TE:=λσ H Q=>t σ H λc H1=>if c=true then ta σ H1 Q else tb σ H1 Q
theorem Vn{c:Expr}(hc:PT X c tA)(ha:PE X a ta)(hb:PE X b tb):PE X (.IfExp c a b pos) (Vm tA ta tb):=by
 intro pins s σ H Q I h;refine wpAny_IfExp<|aU (hc pins s σ H _ I h) λd s1 ⟨H1,I1,q1⟩=>?_;cases d with
 | true=>exact ha pins s1 σ H1 Q I1 q1
 | false=>exact hb pins s1 σ H1 Q I1 q1
end
def ak(K:PySem.W.Frag)(H:Hp)(a:Addr)(xs:List V):Prop:=
 Rd H a (.lst xs) \/
  ∃(o:Obj) (its:Array Value) (n:Nat),K.lookup a=some o/\o.cls = .type "list"/\o.dict=none/\o.data = .seq its n/\its.size<=sizeLine/\aA xs its.toList
def aP(K:PySem.W.Frag)(H:Hp)(a:Addr)(xs:List V):Prop:=
 Rd H a (.tup xs) \/
  ∃(o:Obj) (its:Array Value) (n:Nat),K.lookup a=some o/\o.cls = .type "tuple"/\o.data = .seq its n/\its.size<=sizeLine/\aA xs its.toList
def AH:Value->Option V
 | .none=>some .non
 | .bool b=>some<|.bl b
 | .int i _=>some<|.int i
 | .str x _=>some<|.str x
 | .bytes b _=>some<|.iZ b
 | .float b _=>some<|.rg b
 | .ref a=>some<|.ref a
 | .type n=>some<|.ty n
 | _=>none
theorem RelV.abs{x:V}{u:Value}(r:RelV x u):AH u=some x:=by
 cases x with
 | non=>cases r;rfl
 | bl _=>cases r;rfl
 | int _=>obtain⟨t,rfl⟩:=r;rfl
 | str _=>obtain⟨t,rfl⟩:=r;rfl
 | iZ _=>obtain⟨t,rfl⟩:=r;rfl
 | rg _=>obtain⟨t,rfl⟩:=r;rfl
 | ref _=>cases r;rfl
 | ty _=>cases r;rfl
def RelV.inj{x y:V}{u:Value}(r:RelV x u)(q:RelV y u):x=y:=Option.some.inj<|r.abs.symm.trans q.abs
theorem aA.inj:∀{xs ys:List V} {us:Ó},aA xs us->aA ys us->xs=ys
 | _,_,_,.nil,.nil=>rfl
 | _,_,_,.cons r t,.cons r' t'=>by rw[r.inj r',aA.inj t t']
section
variable{X:Cx}{pins:Ð}{σ:St}{H:Hp}{s:Shared}{a:Addr}{xs ys:List V}
def ak.of{K:PySem.W.Frag}(h:H a=some (.lst xs)):ak K H a xs:= .inl<|.inl h
def aP.of{K:PySem.W.Frag}(h:H a=some (.tup xs)):aP K H a xs:= .inl<|.inl h
def Inv.list(I:Inv X pins σ H s)(h:ak X.K H a xs):∃ its:Ó,aA xs its/\PlainL s.heap a its.toArray/\xs.length<=sizeLine:=by
 rcases h with h | ⟨o,its,n,hk,hc,hd,hs,hz,r⟩
 ·obtain⟨z,its,n,r,e⟩:=h.ok I.aI;exact⟨its,r,⟨_,n,e,rfl,rfl,rfl⟩,z⟩
 ·refine⟨its.toList,r,⟨o,n,I.gd a o hk,hc,hd,by simpa using hs⟩,?_⟩;have e:=r.length;simp only[Bv]at e;omega
def Inv.tuple(I:Inv X pins σ H s)(h:aP X.K H a xs):∃ its:Ó,aA xs its/\IsTup s.heap a its.toArray/\xs.length<=sizeLine:=by
 rcases h with h | ⟨o,its,n,hk,hc,hs,hz,r⟩
 ·obtain⟨z,its,r,p⟩:=h.ok I.aI;exact⟨its,r,p,z⟩
 ·refine⟨its.toList,r,⟨o,I.gd a o hk,hc,n,by simpa using hs⟩,?_⟩;have e:=r.length;simp only[Bv]at e;omega
def Inv.dC(I:Inv X pins σ H s)(h:ak X.K H a xs)(h':ak X.K H a ys):xs=ys:=by
 obtain⟨its,r,⟨o,n,e,_,_,d⟩,_⟩:=I.list h;obtain⟨its',r',⟨o',n',e',_,_,d'⟩,_⟩:=I.list h';rw[e]at e';cases e';rw[d]at d'
 injection d' with d1 _
 have:its=its':=by simpa using BZ Array.toList d1
 subst this;exact r.inj r'
end
abbrev Cx.d8(X:Cx)(E:Î):Cx:={X with xe:=E}
abbrev Cx.rk(X:Cx):Cx:=X.d8 λ_ _=>False
def Cx.Ok.d8{X:Cx}(ok:X.Ok)(E:Î):(X.d8 E).Ok:=
 ⟨ok.mod,ok.kind,ok.glob,ok.blt,ok.above,ok.inj,ok.has,ok.tO,ok.hd,ok.frames,ok.xi,ok.L5,ok.bs,ok.m7,ok.j3,ok.lH,ok.dB,ok.rj⟩
def Cx.Ok.cg{X:Cx}{E:Î}(ok:(X.d8 E).Ok):X.Ok:=
 ⟨ok.mod,ok.kind,ok.glob,ok.blt,ok.above,ok.inj,ok.has,ok.tO,ok.hd,ok.frames,ok.xi,ok.L5,ok.bs,ok.m7,ok.j3,ok.lH,ok.dB,ok.rj⟩
section
variable{X:Cx}{pins:Ð}{σ:St}{H:Hp}{s:Shared}{E:Î}
def Inv.d8(I:Inv X pins σ H s)(E:Î):Inv (X.d8 E) pins σ H s:=⟨I.ok.d8 E,I.os,I.bare,I.base,I.loc,I.cell,I.free,I.cf,I.pin,I.aI,I.len⟩
def Inv.cg(I:Inv (X.d8 E) pins σ H s):Inv X pins σ H s:=⟨I.ok.cg,I.os,I.bare,I.base,I.loc,I.cell,I.free,I.cf,I.pin,I.aI,I.len⟩
theorem SP.cg{D:Ends}{f:Flow}{s':Shared}(h:SP (X.d8 E) pins D f s'):SP X pins D f s':=by
 cases f with
 | next=>obtain⟨σ',H',I,q⟩:=h;exact⟨σ',H',I.cg,q⟩
 | brk=>obtain⟨σ',H',I,q⟩:=h;exact⟨σ',H',I.cg,q⟩
 | cont=>obtain⟨σ',H',I,q⟩:=h;exact⟨σ',H',I.cg,q⟩
 | ret u=>obtain⟨v,σ',H',I,r,q⟩:=h;exact⟨v,σ',H',I.cg,r,q⟩
def i0.rk{st:Õ}{t:TS}(h:i0 X.rk st t):i0 X st t:=λpins s σ H D I hw=>
 CV (h pins s σ H D (I.d8 _) hw) (λ_ _ q=>q.cg) λ_ _ z=>False.elim z
end
section
variable{X:Cx}{st:Stmt}{rest:Õ}{t u:TS}{e:Expr}{te:TE}{pos:Pos}
def Vo:TS:=λD σ H=>D.nx σ H
def AI(t u:TS):TS:=λD σ H=>t {D with nx:=u D} σ H
def Vp:i0 X [] Vo:=λ_ _ σ H _ I h=>RP ⟨σ,H,I,h⟩
theorem Vq(h1:PS X st t)(h2:i0 X rest u):i0 X (st :: rest) (AI t u):=by
 intro pins s σ H D I h;refine wpAny_execs_cons<|aU (h1 pins s σ H {D with nx:=u D} I h) λf s1 q=>?_;cases f with
 | next=>
  obtain⟨σ',H',I',q⟩:=q;exact h2 pins s1 σ' H' D I' q
 | ret v=>exact q
 | brk=>exact q
 | cont=>exact q
def Inv.quiet{pins:Ð}{σ:St}{H:Hp}{s:Shared}(I:Inv X pins σ H s):interactive X.env=false:=by simp[interactive,I.ok.kind]
def Vr(te:TE):TS:=λD σ H=>te σ H λ_ H1=>D.nx σ H1
def Vs(he:PE X e te)(hs:swapsWith e none pos.line X.env=pure false:=by rfl):PS X (.Expr e pos) (Vr te):=by
 intro pins s σ H D I h;exact wpAny_Expr_any (aU (he pins s σ H _ I h) λv s1 ⟨x,H1,I1,r1,q1⟩=>⟨σ,H1,I1,q1⟩) I.quiet hs
def AJ(te:TE):TS:=λD σ H=>te σ H D.rt
def Vt(he:PE X e te):PS X (.Return (some e) pos) (AJ te):=by
 intro pins s σ H D I h;exact wpAny_Return_some<|aU (he pins s σ H _ I h) λv s1 ⟨x,H1,I1,r1,q1⟩=>⟨x,σ,H1,I1,r1,q1⟩
def AK(c:TT)(t u:TS):TS:=λD σ H=>c σ H λb H1=>if b=true then t D σ H1 else u D σ H1
theorem Vu{c:Expr}{a b:Õ}{tc:TT}(hc:PT X c tc)(ha:i0 X a t)(hb:i0 X b u):PS X (.If c a b pos) (AK tc t u):=by
 intro pins s σ H D I h;refine wpAny_If<|aU (hc pins s σ H _ I h) λd s1 ⟨H1,I1,q1⟩=>?_;cases d with
 | true=>exact ha pins s1 σ H1 D I1 q1
 | false=>exact hb pins s1 σ H1 D I1 q1
end
abbrev TG:=V->St->Hp->(St->Hp->Prop)->Prop
abbrev oU:=List V->St->Hp->(St->Hp->Prop)->Prop
def PG(X:Cx)(target:Expr)(t:TG):Prop:=
 ∀(pins:Ð) (s:Shared) (σ:St) (H:Hp) (v:V) (u:Value) (Q:St->Hp->Prop),Inv X pins σ H s->RelV v u->t v σ H Q ->
  wpAny (model X.prog X.w) X.A (assign target X.env u) (λ_ s'=>∃ σ' H',Inv X pins σ' H' s'/\Q σ' H') X.xe s
def xn(X:Cx)(ts:Ô)(t:oU):Prop:=
 ∀(pins:Ð) (s:Shared) (σ:St) (H:Hp) (vs:List V) (us:Ó) (Q:St->Hp->Prop),Inv X pins σ H s->aA vs us->t vs σ H Q ->
  wpAny (model X.prog X.w) X.A (assignInOrder ((assignEach ts X.env).map (·.2)) us) (λ_ s'=>∃ σ' H',Inv X pins σ' H' s'/\Q σ' H') X.xe s
section
variable{X:Cx}{pos:Pos}
def Mg(i:Nat):TG:=λv σ H Q=>Q (σ.set i<|some v) H
def Vv{i:Nat}{x:Str}(hN:X.N.Nodup)(hi:X.N[i]?=some x)(hx:Loc X.env.scope x)(hf:X.fn x=true\/X.env.scope.names.lookup x=some .local:=by first | exact .inl rfl | exact .inr rfl | assumption):PG X (.Name x pos) (Mg i):=by
 intro pins s σ H v u Q I r h;exact wpAny_assign_Name<|Md I hN hi hx r (λs' I'=>⟨_,H,I',h⟩) hf
def oV:oU:=λvs σ H Q=>vs=[]/\Q σ H
def rm(t:TG)(u:oU):oU:=λvs σ H Q=>∃ v r,vs=v :: r/\t v σ H λσ' H'=>u r σ' H' Q
def Mh:xn X [] oV:=by
 intro pins s σ H vs us Q I r h;obtain⟨e,h⟩:=h;subst e;cases r;exact assignInOrder_nil ⟨σ,H,I,h⟩
theorem tT{e:Expr}{es:Ô}{t:TG}{u:oU}(h1:PG X e t)(h2:xn X es u)
  (hs:(assignEach (e :: es) X.env).map (·.2)=assign e X.env :: (assignEach es X.env).map (·.2):=by rfl):xn X (e :: es) (rm t u):=by
 intro pins s σ H vs us Q I r h;obtain⟨v,vr,e1,h⟩:=h;subst e1;cases r with
 | cons r rr=>
  rw[hs];refine assignInOrder_cons<|aU (h1 pins s σ H _ _ _ I r h) λ_ s1 ⟨σ1,H1,I1,q1⟩=>?_;exact h2 pins s1 σ1 H1 _ _ Q I1 rr q1
def AO(K:PySem.W.Frag)(n:Nat)(t:oU):TG:=λv σ H Q=>∃ a xs,v = .ref a/\aP K H a xs/\xs.length=n/\t xs σ H Q
def Mi{es:Ô}{k:Nat}{t:oU}{n:Nat}(hc:X.calm=true)(h:xn X es t)
  (hn:(assignEach es X.env).length=n:=by rfl) (db:(assignEach es X.env).findIdx? (·.1)=none:=by rfl):PG X (.Tuple es k pos) (AO X.K n t):=by
 intro pins s σ H v u Q I r hw;obtain⟨a,xs,e1,hq,hl,hw⟩:=hw;subst e1;cases r;obtain⟨its,rv,ht,hz⟩:=I.tuple hq;refine assign_Tuple_tuple (I.ok.hd hc) ht (by simp[hn,<- hl,rv.length]) db λh' hx=>?_;have I1:Inv X pins σ H {s with heap:=h'}:=I.kept (t':=s.toks) λb o e=>hx b o (Bp<|Au e) e;exact h pins _ σ H xs _ Q I1 (by simpa using rv) hw
def tU(te:TE)(g:TG):TS:=λD σ H=>te σ H λx H1=>g x σ H1 D.nx
def Vw{tg e:Expr}{te:TE}{g:TG}(he:PE X e te)(hg:PG X tg g)(hs:swapsWithSole [tg] e pos.line X.env=pure false:=by rfl)(hw:swappedStores [tg] e X.env=pure none:=by rfl)
  (h1:(assignEach [tg] X.env).map (·.2)=[assign tg X.env]:=by rfl):PS X (.Assign [tg] e pos) (tU te g):=by
 intro pins s σ H D I h;refine wpAny_Assign_stores (aU (he pins s σ H _ I h) λv s1 ⟨x,H1,I1,r1,q1⟩=>?_) hs hw;rw[h1];exact aU (hg pins s1 σ H1 x v _ I1 r1 q1) λ_ s2 q=>q
def Vx{i:Nat}{x:Str}{e:Expr}{te:TE}{pos':Pos}(hN:X.N.Nodup)(hi:X.N[i]?=some x)(hx:Loc X.env.scope x)(he:PE X e te)(hs:swapsWith e (some<|.Name x pos') pos.line X.env=pure false:=by rfl)(hf:X.fn x=true\/X.env.scope.names.lookup x=some .local:=by first | exact .inl rfl | exact .inr rfl | assumption) :
  PS X (.Assign [.Name x pos'] e pos) (tU te<|Mg i):=by
 intro pins s σ H D I h;refine wpAny_Assign_Name (aU (he pins s σ H _ I h) λv s1 ⟨y,H1,I1,r1,q1⟩=>?_) hs;exact Md I1 hN hi hx r1 (λs2 I2=>⟨_,H1,I2,q1⟩) hf
def Vy(c:TT)(tb:TS):TS:=λD σ H=>∃ W:Nat->St->Hp->Prop,(∃ m,W m σ H)/\∀ m σ H,W m σ H ->
 c σ H λb H1=>if b=true then ∃ N:St->Hp->Prop,(∀ σ' H',N σ' H'->∃ m',m' < m/\W m' σ' H')/\tb {D with nx:=N,ct:=N,bk:=D.nx} σ H1 else D.nx σ H1
theorem Vz{c:Expr}{body:Õ}{tc:TT}{tb:TS}(hp:PassesOwn (model X.prog X.w) X.A X.env X.xe)(hc:PT X c tc)(hb:i0 X body tb):PS X (.While c body [] pos) (Vy tc tb):=by
 intro pins s σ H D I h;obtain⟨W,⟨m0,w0⟩,turn⟩:=h;refine wpAny_While<|codeAny_whileLoop (λn s'=>∃ σ' H',Inv X pins σ' H' s'/\W n σ' H') ?_ m0 ⟨σ,H,I,w0⟩;rintro n s1 ⟨σ1,H1,I1,w1⟩;refine HW hp<|aU (hc pins s1 σ1 H1 _ I1<|turn n σ1 H1 w1) λb s2 ⟨H2,I2,q2⟩=>?_;cases b with
 | true=>
  obtain⟨N,hN,q2⟩:=q2;rw[BL rfl];refine HW hp<|aU (hb pins s2 σ1 H2 _ I2 q2) λf s3 q3=>?_;cases f with
  | next=>
   obtain⟨σ3,H3,I3,n3⟩:=q3;obtain⟨m',hm,w3⟩:=hN σ3 H3 n3;exact⟨m',hm,σ3,H3,I3,w3⟩
  | cont=>
   obtain⟨σ3,H3,I3,n3⟩:=q3;obtain⟨m',hm,w3⟩:=hN σ3 H3 n3;exact⟨m',hm,σ3,H3,I3,w3⟩
  | brk=>exact q3
  | ret v=>exact q3
 | false=>
  rw[BK Ax];exact RP ⟨σ1,H2,I2,q2⟩
end
structure It where
 go:Nat->Hp->Prop
 tV:Nat->Hp->V->Hp->Prop
 stop:Nat->Hp->Prop
def ci(X:Cx)(pins:Ð)(H:Hp)(b:Addr):Prop:=
 H b=none/\b≠X.env.locals/\b∉X.fs/\(b∈X.ex\/X.s₀.heap.objs.size<=b)/\(∀ x c,X.env.cells.lookup x=some c->c≠b)/\∀ p∈X.pn++pins,p.1≠b
def Inv.lK{X:Cx}{pins:Ð}{σ:St}{H H':Hp}{s:Shared}{b:Addr}(I:Inv X pins σ H s)(hb:s.heap.objs.size<=b)(hn:H' b=none):ci X pins H' b:=by
 refine⟨hn,Ct<|Bi I.lt hb,I.z7 hb,.inr<|Bq I.sz hb,λx c e z=>?_,λp hp z=>?_⟩
 ·obtain⟨v,q⟩:=I.cell x c e;exact absurd (Bi q.lt<|by rw[z];exact hb)<|De _
 ·exact absurd (Bi (Au (I.pin p hp).1)<|by rw[z];exact hb)<|De _
structure Turn(P:Program)(w:World)(K:PySem.W.Frag)(tg:Expr)(J:It)(fp:List Addr)(it:Addr)(tn:Nat->Heap->Prop):Prop where
 mem:it∈fp
 obj:∀ i h,tn i h->∀ b∈fp,∃ o,h.get? b=some o/\∀ v,o.data ≠ .cell v
 keep:∀ i h h',tn i h->(∀ b∈fp,∀ o,h.get? b=some o->h'.get? b=some o)->tn i h'
 item:∀(X:Cx),X.prog=P->X.w=w->X.K=K->X.calm=true->∀(i:Nat) (pins:Ð) (s:Shared) (σ:St) (H:Hp) (E:Î),Inv X pins σ H s->(∀ b∈fp,ci X pins H b)->tn i s.heap->J.go i H ->
  wpAny (model P w) X.A (pyNext<|.ref it) (λr s1=>∃ u,r=some u /\
   wpAny (model P w) X.A (letOwnedTupleGo tg (.ref it) u) (λ_ s2=>∃ x H',Inv X pins σ H' s2/\RelV x u/\J.tV i H x H'/\tn (i+1) s2.heap/\∀ b∈fp,H' b=none) E s1) E s
 done:∀(X:Cx),X.prog=P->X.w=w->X.K=K->X.calm=true->∀(i:Nat) (pins:Ð) (s:Shared) (σ:St) (H:Hp) (E:Î),Inv X pins σ H s->(∀ b∈fp,ci X pins H b)->tn i s.heap->J.stop i H ->
  wpAny (model P w) X.A (pyNext<|.ref it) (λr s1=>r=none/\Inv X pins σ H s1) E s
 self:∀(A:Around) (i:Nat) (s:Shared) (Q:Î) (E:Î),tn i s.heap->Q (.ref it) s->wpAny (model P w) A (pyIter<|.ref it) Q E s
abbrev TI:=St->Hp->(It->Hp->Prop)->Prop
def Mj(X:Cx)(pins:Ð)(σ:St)(tg:Expr)(R:It->Hp->Prop)(oW:Value)(s2:Shared):Prop:=
 ∃(it:Addr) (fp:List Addr) (tn:Nat->Heap->Prop) (J:It) (H':Hp),oW = .ref it/\Inv X pins σ H' s2/\Turn X.prog X.w X.K tg J fp it tn/\tn 0 s2.heap/\(∀ b∈fp,ci X pins H' b)/\R J H'
def PI(X:Cx)(tg iter:Expr)(wi:TI):Prop:=
 ∀(pins:Ð) (s:Shared) (σ:St) (H:Hp) (R:It->Hp->Prop),Inv X pins σ H s->wi σ H R ->
  wpAny (model X.prog X.w) X.A (eval iter X.env) (λv s1=>wpAny (model X.prog X.w) X.A (pyIter v) (Mj X pins σ tg R) X.xe s1) X.xe s
def Mk{M:Model}{A:Around}{E:Î}{s:Shared}{tg:Expr}{it:Addr}{u:Value}{o:Obj}{n:String}{vs:Array Value}{Q:Unit->Shared->Prop}(ho:s.heap.get? it=some o)(hc:o.cls = .type n)(hd:o.data = .fields vs)
    (hn:["enumerate","zip","dict_itemiterator","dict_reverseitemiterator","odict_iterator","itertools.zip_longest","itertools.pairwise"].contains n=false) (hQ:Q () s):wpAny M A (letOwnedTupleGo tg (.ref it) u) Q E s:=by
  unfold letOwnedTupleGo;cases tg <;> first
    | exact BP hQ
    | (cases u <;> first
        | exact BP hQ
        | (refine BJ<|wpAny_load ho ?_
           rw[hc,hd];show wpAny M A (if(["enumerate","zip","dict_itemiterator","dict_reverseitemiterator","odict_iterator","itertools.zip_longest","itertools.pairwise"].contains n && vs[0]? == some (rawInt _))=true then _ else _) Q E s;rw[BK<|by intro h;rw[hn,TJ]at h;cases h];exact BP hQ))
def ng(K:PySem.W.Frag)(a:Addr):It:=
 ⟨λi H=>∃ xs x,ak K H a xs/\xs[i]?=some x,λi H x H'=>H'=H/\∀ xs,ak K H a xs->xs[i]?=some x,λi H=>∃ xs,ak K H a xs/\xs.length<=i⟩
def VA(K:PySem.W.Frag)(a:Addr):It:=
 ⟨λi H=>∃ xs x,aP K H a xs/\xs[i]?=some x,λi H x H'=>H'=H/\∀ xs,aP K H a xs->xs[i]?=some x,λi H=>∃ xs,aP K H a xs/\xs.length<=i⟩
def ro(lo:Int)(n:Nat):It:=⟨λi _=>i < n,λi H x H'=>H'=H/\x = .int (lo+i),λi _=>n<=i⟩
def VC{P:Program}{w:World}{K:PySem.W.Frag}{tg:Expr}(a it:Addr):Turn P w K tg (ng K a) [it] it (λi h=>h.IsListIter it a i) where
 mem:=by simp
 obj:=λi h st b hb=>by
  have e:b=it:=by simpa using hb
  subst e;obtain⟨o,e,c,d⟩:=st;exact⟨o,e,λv z=>by rw[d]at z;cases z⟩
 keep:=λi h h' st k=>st.at λo e=>k it (by simp) o e
 item:=by
  intro X hP hw hK hc i pins s σ H E I hf st hg;subst hP hw hK;obtain⟨xs,x,hq,hx⟩:=hg;obtain⟨its,rv,p,hz⟩:=I.list hq;obtain⟨u,hu,ru⟩:=rv.get hx;obtain⟨f0,f1,f2,f3,f4,f5⟩:=hf it (by simp);refine wpAny_pyNext_list_item st p.isList (x:=u) (by simpa using hu) λh' d9 sb=>?_;have I1:Inv X pins σ H {s with heap:=h'}:=I.turned (t':=s.toks) (λb o hb e=>(sb.2 b hb).trans e) f0 f1 f3 f4 f5;obtain⟨o,e,c,d⟩:=id d9;exact⟨u,rfl,Mk (s:={s with heap:=h'}) e c d (by decide) ⟨x,H,I1,ru,⟨rfl,λys hy=>by rw[I.dC hy hq];exact hx⟩,d9,λb hb=>(hf b hb).1⟩⟩
 done:=by
  intro X hP hw hK hc i pins s σ H E I hf st hg;subst hP hw hK;obtain⟨xs,hq,hx⟩:=hg;obtain⟨its,rv,p,hz⟩:=I.list hq;obtain⟨f0,f1,f2,f3,f4,f5⟩:=hf it (by simp);have hl:=rv.length;exact wpAny_pyNext_list_end (I.ok.hd hc) st p.isList (by simp;omega) λh' eb=>⟨rfl,I.turned (t':=s.toks) (λb o hb e=>eb b o hb e) f0 f1 f3 f4 f5⟩
 self:=λ_ _ _ _ _ st h=>wpAny_pyIter_listiter st h
def VE{P:Program}{w:World}{K:PySem.W.Frag}{tg:Expr}(it:Addr)(lo:Int)(n:Nat):Turn P w K tg (ro lo n) [it] it (λi h=>IsRangeIter h it (lo+(i:Nat) * 1) ((n:Int) - (i:Nat)) 1) where
 mem:=by simp
 obj:=λi h st b hb=>by
  have e:b=it:=by simpa using hb
  subst e;exact⟨_,st,λv z=>by
   have z':Data.fields _=Data.cell v:=z;cases z'⟩
 keep:=λi h h' st k=>k it (by simp) _ st
 item:=by
  intro X hP hw hK hc i pins s σ H E I hf st hg;subst hP hw hK;obtain⟨f0,f1,f2,f3,f4,f5⟩:=hf it (by simp);have W:=Walks.range (prog:=X.prog) (w:=X.w) (I.ok.hd hc) it lo 1 n;refine W.item i s _ _ hg st λv h' tk hv d9 kk=>?_;obtain⟨t,rfl⟩:=hv;have I1:Inv X pins σ H {s with heap:=h',toks:=tk}:=I.turned (λb o hb e=>kk b o (by simpa using hb) e) f0 f1 f3 f4 f5;refine⟨_,rfl,Mk (s:={s with heap:=h',toks:=tk}) (n:= "range_iterator") d9 rfl rfl (by decide) ⟨.int<|lo+i,H,I1,⟨t,?_⟩,⟨rfl,rfl⟩,d9,λb hb=>(hf b hb).1⟩⟩;rw[Int.mul_one]
 done:=by
  intro X hP hw hK hc i pins s σ H E I hf st hg;subst hP hw hK;obtain⟨f0,f1,f2,f3,f4,f5⟩:=hf it (by simp);exact wpAny_pyNext_range_end (I.ok.hd hc) st (by have:n<=i:=hg;omega) λh' eb=>⟨rfl,I.turned (t':=s.toks) (λb o hb e=>eb b o hb e) f0 f1 f3 f4 f5⟩
 self:=λ_ _ _ _ _ st h=>wpAny_pyIter_rangeiter st h
section
variable{X:Cx}{tg:Expr}
def VF(K:PySem.W.Frag)(tl:TE):TI:=λσ H R=>tl σ H λx H1=>∃ a,x = .ref a/\(∃ xs,ak K H1 a xs)/\R (ng K a) H1
def dD{l:Expr}{tl:TE}(hl:PE X l tl):PI X tg l (VF X.K tl):=by
 intro pins s σ H R I h;refine aU (hl pins s σ H _ I h) λv s1 ⟨x,H1,I1,r1,q1⟩=>?_;obtain⟨a,e,⟨xs,hq⟩,q⟩:=q1;subst e;cases r1;obtain⟨its,rv,p,hz⟩:=I1.list hq;refine QJ p.isList ?_;refine⟨s1.heap.objs.size,[s1.heap.objs.size],_,_,H1,rfl,I1.kept (t':=s1.toks) λb o e=>Ai _ e,VC a _,⟨_,Av _ rfl,rfl,rfl⟩,λb hb=>?_,q⟩;have e:b=s1.heap.objs.size:=by simpa using hb
 subst e;exact I1.lK (Ao _)<|I1.aI.fresh<|Ao _
def VG{pins:Ð}{σ:St}{H:Hp}{s:Shared}{R:It->Hp->Prop}{E:Î}{lo hi:Int}{t u v:Tok}{tk:Nat}(I:Inv X pins σ H s)(h1:-(2 ^ 62)<=lo)(h2:lo < 2 ^ 62)(h3:-(2 ^ 62)<=hi)(h4:hi < 2 ^ 62)
  (q:R (ro lo (hi - lo).toNat) H):wpAny (model X.prog X.w) X.A (pyIter<|.ref s.heap.objs.size) (Mj X pins σ tg R) E {s with heap:=s.heap.push {cls:= .type "range",data:= .fields #[.int lo t,.int hi u,.int 1 v]},toks:=tk}:=by
 refine wpAny_pyIter_range (IsRange.new ..) (small_one h1 h2 h3 h4) ?_;have I1:Inv X pins σ H {s with heap:=s.heap.push {cls:= .type "range",data:= .fields #[.int lo t,.int hi u,.int 1 v]},toks:=tk}:=I.kept λb o e=>Ai _ e;refine⟨(s.heap.push {cls:= .type "range",data:= .fields #[.int lo t,.int hi u,.int 1 v]}).objs.size,[(s.heap.push {cls:= .type "range",data:= .fields #[.int lo t,.int hi u,.int 1 v]}).objs.size],_,_,H,rfl,
  I1.kept (t':=tk) λb o e=>Ai _ e,VE _ lo (hi - lo).toNat,?_,λb hb=>?_,q⟩
 ·have e1:lo+((0:Nat):Int) * 1=lo:=by simp
  have e2:(((hi - lo).toNat:Nat):Int) - ((0:Nat):Int)=Builtin.Range.rangeSize lo hi 1:=by rw[rangeSize_one];split <;> omega
  show IsRangeIter _ _ (lo+((0:Nat):Int) * 1) ((((hi - lo).toNat:Nat):Int) - ((0:Nat):Int)) 1;rw[e1,e2];exact Av _ rfl
 ·have e:b=(s.heap.push {cls:= .type "range",data:= .fields #[.int lo t,.int hi u,.int 1 v]}).objs.size:=by simpa using hb
  subst e;exact I1.lK (Ao _)<|I1.aI.fresh<|Ao _
def Ml(ta:TA):TI:=λσ H R=>ta σ H λvs H1=>∃ j:Int,vs=[.int j]/\-(2 ^ 62)<=j/\j < 2 ^ 62/\R (ro 0 j.toNat) H1
theorem Mm{a:Expr}{ta:TA}{p pos:Pos}(hg:Gl X "range")(hm:X.mg "range" = none)(ha:PA X [a] ta)(hs:starEach [a] X.env=[(false,eval a X.env)]:=by rfl):PI X tg (.Call (.Name "range" p) [a] [] pos) (Ml ta):=by
 intro pins s σ H R I h;refine Call_<|oR I hg hm boot_range<|JK (aU (ha pos pins s σ H _ I h) λus s1 ⟨vs,H1,I1,r1,q1⟩=>?_) hs rfl;obtain⟨j,e,q1,q2,q⟩:=q1;subst e;cases r1 with
 | cons r rr=>
  cases rr;obtain⟨t,rfl⟩:=r;exact call_range_1<|VG I1 (by omega) (by omega) q1 q2<|by simpa using q
def AQ(wi:TI)(g:TG)(tb:TS):TS:=λD σ H=>wi σ H λJ H1=>∃ W:Nat->Nat->St->Hp->Prop,(∃ m,W 0 m σ H1)/\∀ i m σ H,W i m σ H ->
 (J.stop i H/\D.nx σ H)\/(J.go i H/\∃ N:St->Hp->Prop,(∀ σ' H',N σ' H'->∃ m',m' < m/\W (i+1) m' σ' H')/\∀ x H',J.tV i H x H'->g x σ H' λσ2 H2=>tb {D with nx:=N,ct:=N,bk:=D.nx} σ2 H2)
def tW(fp:List Addr)(h:Heap):Ð:=fp.filterMap λb=>(h.get? b).map λo=>(b,o)
def xo{fp:List Addr}{h:Heap}{b:Addr}{o:Obj}(hb:b∈fp)(e:h.get? b=some o):(b,o)∈tW fp h:=Gb.mpr ⟨b,hb,by rw[e];rfl⟩
theorem VH{fp:List Addr}{h:Heap}{p:Addr×Obj}(hp:p∈tW fp h):p.1∈fp/\h.get? p.1=some p.2:=by
 obtain⟨b,hb,e⟩:=Gb.mp hp;cases q:h.get? b with
 | none=>rw[q]at e;cases e
 | some o=>
  rw[q]at e;have e':(b,o)=p:=Option.some.inj e;subst e';exact⟨hb,q⟩
def Inv.pinned{pins:Ð}{σ:St}{H:Hp}{s:Shared}{fp:List Addr}(I:Inv X pins σ H s)(hf:∀ b∈fp,ci X pins H b)(ho:∀ b∈fp,∃ o,s.heap.get? b=some o/\∀ v,o.data ≠ .cell v):Inv X (pins++tW fp s.heap) σ H s:=
 I.iz λp hp=>(Al.mp hp).elim (λz=>I.pin p<|Aw _ z) λz=>by
  obtain⟨hb,e⟩:=VH z;obtain⟨f0,f1,f2,_⟩:=hf p.1 hb;obtain⟨o,e',d⟩:=ho p.1 hb;rw[e]at e';cases e';exact⟨e,f0,f1,f2,d⟩
def Inv.cL{pins pl:Ð}{σ:St}{H:Hp}{s:Shared}(I:Inv X (pins++pl) σ H s):Inv X pins σ H s:=I.iz λp hp=>I.pin p<|Aw _<|Bc _ hp
def VI{iter:Expr}{body:Õ}{wi:TI}{g:TG}{tb:TS}{pos:Pos}(hp:PassesOwn (model X.prog X.w) X.A X.env X.xe)(hc:X.calm=true)(hi:PI X tg iter wi)(hg:PG X tg g)(hb:i0 X body tb)
  (hs:∀ x,foldedSetIterable iter X.env x=pure x:=by intro _;rfl):PS X (.For tg iter body [] pos) (AQ wi g tb):=by
 intro pins s σ H D I h;refine wpAny_For (aU (hi pins s σ H _ I h) λv s1 h1=>aU h1 λoW s2 h2=>?_) hs;obtain⟨it,fp,tn,J,H2,e,I2,T,gN,f2,W,⟨m0,w0⟩,turn⟩:=h2;subst e;have stat:∀{H':Hp},(∀ b∈fp,H' b=none)->∀ b∈fp,ci X pins H' b:=λhn b hb=>⟨hn b hb,(f2 b hb).2⟩;refine codeAny_forLoop_any (λn s'=>∃ i σ' H',Inv X pins σ' H' s'/\tn i s'.heap/\(∀ b∈fp,H' b=none)/\W i n σ' H') ?_ m0 ⟨0,σ,H2,I2,gN,λb hb=>(f2 b hb).1,w0⟩;rintro n s3 ⟨i,σ3,H3,I3,Mp,Mq,w3⟩
 rcases turn i n σ3 H3 w3 with ⟨stop,qn⟩ | ⟨go,N,hN,step⟩
 ·refine HW hp<|aU (T.done X rfl rfl rfl hc i pins s3 σ3 H3 X.xe I3 (stat Mq) Mp stop) λr s4 ⟨hr,I4⟩=>?_;subst hr;exact RP ⟨σ3,H3,I4,qn⟩
 ·refine HW hp<|aU (T.item X rfl rfl rfl hc i pins s3 σ3 H3 X.xe I3 (stat Mq) Mp go) λr s4 ⟨u,hr,h4⟩=>?_;subst hr;refine HW hp<|aU h4 λ_ s5 ⟨x,H5,I5,r5,y5,AT,VJ⟩=>?_;have VL:=I5.pinned (stat VJ)<|T.obj _ _ AT;refine HW hp<|aU (hg _ s5 σ3 H5 x u _ VL r5<|step x H5 y5) λ_ s6 ⟨σ6,H6,I6,q6⟩=>?_;refine HW hp<|aU (hb _ s6 σ6 H6 _ I6 q6) λf s7 q7=>?_;have again:∀{σ7:St} {H7:Hp},Inv X (pins++tW fp s5.heap) σ7 H7 s7->N σ7 H7->∃ m,m < n/\∃ i σ' H',Inv X pins σ' H' s7/\tn i s7.heap/\(∀ b∈fp,H' b=none)/\W i m σ' H':=λ{σ7 H7} I7 n7=>by
   obtain⟨m',hm,w7⟩:=hN σ7 H7 n7;refine⟨m',hm,i+1,σ7,H7,I7.cL,T.keep _ _ _ AT λb hb o e=>(I7.pin (b,o)<|Aw _<|Aw _<|xo hb e).1,λb hb=>?_,w7⟩;obtain⟨o,e,d⟩:=T.obj _ _ AT b hb;exact(I7.pin (b,o)<|Aw _<|Aw _<|xo hb e).2.1
  cases f with
  | next=>obtain⟨σ7,H7,I7,n7⟩:=q7;exact again I7 n7
  | cont=>obtain⟨σ7,H7,I7,n7⟩:=q7;exact again I7 n7
  | brk=>obtain⟨σ7,H7,I7,q7⟩:=q7;exact⟨σ7,H7,I7.cL,q7⟩
  | ret v=>obtain⟨x7,σ7,H7,I7,r7,q7⟩:=q7;exact⟨x7,σ7,H7,I7.cL,r7,q7⟩
end
abbrev R2:=V->V->Hp->VK->Prop
def cV(X:Cx)(f:Value->Value->Sem Value)(r:R2):Prop:=
 ∀(pins:Ð) (s:Shared) (σ:St) (H:Hp) (x y:V) (v u:Value) (Q:VK),Inv X pins σ H s->RelV x v->RelV y u->r x y H Q ->
  wpAny (model X.prog X.w) X.A (f v u) (EP X pins σ Q) X.xe s
def xq(X:Cx)(f:Value->Sem Value)(r:V->Hp->VK->Prop):Prop:=
 ∀(pins:Ð) (s:Shared) (σ:St) (H:Hp) (x:V) (v:Value) (Q:VK),Inv X pins σ H s->RelV x v->r x H Q ->
  wpAny (model X.prog X.w) X.A (f v) (EP X pins σ Q) X.xe s
def gO(X:Cx)(f:Value)(r:List V->Hp->VK->Prop):Prop:=
 ∀(pins:Ð) (s:Shared) (σ:St) (H:Hp) (xs:List V) (us:Ó) (Q:VK),Inv X pins σ H s->aA xs us->r xs H Q ->
  wpAny (model X.prog X.w) X.A (call f us) (EP X pins σ Q) X.xe s
def AU(X:Cx)(r:V->Hp->(Bool->Hp->Prop)->Prop):Prop:=
 ∀(pins:Ð) (s:Shared) (σ:St) (H:Hp) (x:V) (v:Value) (Q:Bool->Hp->Prop),Inv X pins σ H s->RelV x v->r x H Q ->
  wpAny (model X.prog X.w) X.A (truthy v) (TP X pins σ Q) X.xe s
def xr(r:R2)(ta tb:TE):TE:=λσ H Q=>ta σ H λx H1=>tb σ H1 λy H2=>r x y H2 Q
def VM(r:V->Hp->VK->Prop)(ta:TE):TE:=λσ H Q=>ta σ H λx H1=>r x H1 Q
def rI(C:Int->Int->Prop)(g:Int->Int->V):R2:=λx y H Q=>∃ i j,x = .int i/\y = .int j/\C i j/\Q (g i j) H
def rp(g:Int->Int->V):R2:=λx y H Q=>∃ i j,x = .int i/\y = .int j/\Q (g i j) H
def rU(g:Int->V):V->Hp->VK->Prop:=λx H Q=>∃ i,x = .int i/\Q (g i) H
section
variable{X:Cx}{a b c:Expr}{ta tb tc:TE}{pos:Pos}
def oX(ha:PE X a ta)(hb:PE X b tb){pins:Ð}{s:Shared}{σ:St}{H:Hp}{R:V->V->Hp->Prop}(I:Inv X pins σ H s)
  (h:ta σ H λx H1=>tb σ H1 λy H2=>R x y H2) {Q:Î} {f:Value->Value->Sem Value}
  (hf:∀ v u s2 x y H2,Inv X pins σ H2 s2->RelV x v->RelV y u->R x y H2->wpAny (model X.prog X.w) X.A (f v u) Q X.xe s2) :
  wpAny (model X.prog X.w) X.A (eval a X.env) (λv À=>wpAny (model X.prog X.w) X.A (eval b X.env) (λu Á=>wpAny (model X.prog X.w) X.A (f v u) Q X.xe Á) X.xe À) X.xe s:=by
 refine aU (ha pins s σ H _ I h) λv s1 ⟨x,H1,I1,r1,q1⟩=>?_;refine aU (hb pins s1 σ H1 _ I1 q1) λu s2 ⟨y,H2,I2,r2,q2⟩=>?_;exact hf v u s2 x y H2 I2 r1 r2 q2
def VN{op:Operator}{r:R2}(ho:cV X (binaryOp op) r)(ha:PE X a ta)(hb:PE X b tb):PE X (.BinOp a op b pos) (xr r ta tb):=by
 intro pins s σ H Q I h;exact wpAny_BinOp<|oX ha hb I h λv u s2 x y H2 I2 rx ry q=>ho pins s2 σ H2 x y v u Q I2 rx ry q
def VO{op:UnaryOp}{r:V->Hp->VK->Prop}(ho:xq X (unaryOp op) r)(ha:PE X a ta):PE X (.UnaryOp op a pos) (VM r ta):=by
 intro pins s σ H Q I h;exact UnaryOp_<|aU (ha pins s σ H _ I h) λv s1 ⟨x,H1,I1,r1,q1⟩=>ho pins s1 σ H1 x v Q I1 r1 q1
def xt{f:Value->Value->Sem Value}{C:Int->Int->Prop}{g:Int->Int->Int}
  (rule:∀(i j:Int) (t u:Tok) (s:Shared) (Q:Î) (E:Î),C i j->Q (.int (g i j) s.toks) {s with toks:=s.toks+1}->wpAny (model X.prog X.w) X.A (f (.int i t)<|.int j u) Q E s) :
  cV X f (rI C λi j=> .int<|g i j):=by
 intro pins s σ H x y v u Q I rx ry h;obtain⟨i,j,rfl,rfl,hc,q⟩:=h;obtain⟨t,rfl⟩:=rx;obtain⟨t',rfl⟩:=ry;exact rule i j t t' s _ _ hc ⟨.int<|g i j,H,I.tok _,⟨_,rfl⟩,q⟩
def tX{f:Value->Value->Sem Value}{g:Int->Int->Int}
  (rule:∀(i j:Int) (t u:Tok) (s:Shared) (Q:Î) (E:Î),Q (.int (g i j) s.toks) {s with toks:=s.toks+1}->wpAny (model X.prog X.w) X.A (f (.int i t)<|.int j u) Q E s) :
  cV X f (rp λi j=> .int<|g i j):=by
 intro pins s σ H x y v u Q I rx ry h;obtain⟨i,j,rfl,rfl,q⟩:=h;obtain⟨t,rfl⟩:=rx;obtain⟨t',rfl⟩:=ry;exact rule i j t t' s _ _ ⟨.int<|g i j,H,I.tok _,⟨_,rfl⟩,q⟩
def tY{f:Value->Value->Sem Value}{g:Int->Int->Bool}
  (rule:∀(i j:Int) (t u:Tok) (s:Shared) (Q:Î) (E:Î),Q (.bool<|g i j) s->wpAny (model X.prog X.w) X.A (f (.int i t)<|.int j u) Q E s) :
  cV X f (rp λi j=> .bl<|g i j):=by
 intro pins s σ H x y v u Q I rx ry h;obtain⟨i,j,rfl,rfl,q⟩:=h;obtain⟨t,rfl⟩:=rx;obtain⟨t',rfl⟩:=ry;exact rule i j t t' s _ _ ⟨.bl<|g i j,H,I,rfl,q⟩
def tZ(i j:Int):Prop:=0 < j/\j < 1073741824
def AV(i j:Int):Prop:=0<=j/\j<=1000000/\i.natAbs < 2 ^ 64
def oY(i j:Int):Prop:=(-(2 ^ 64) < i/\i < 2 ^ 64)\/(-(2 ^ 64) < j/\j < 2 ^ 64)
def oY.ok{i j:Int}(h:oY i j):IntMulOk i j:=by
 rcases h with ⟨h1,h2⟩ | ⟨h1,h2⟩
 ·exact .of_left<|intBits_le_64 h1 h2
 ·exact .of_right<|intBits_le_64 h1 h2
def gg:cV X (binaryOp .Add) (rp λi j=> .int<|i+j):=tX λ_ _ _ _ _ _ _ q=>add_int q
def VP:cV X (binaryOp .Sub) (rp λi j=> .int<|i - j):=tX λ_ _ _ _ _ _ _ q=>sub_int q
def xu:cV X (binaryOp .Mult) (rI oY λi j=> .int<|i * j):=xt λ_ _ _ _ _ _ _ hc q=>mul_int q hc.ok
def i4:cV X (binaryOp .FloorDiv) (rI tZ λi j=> .int<|i / j):=xt λi j _ _ _ _ _ hc q=>by
 have h1:(0:Int) < j:=hc.1;have h2:j < 1073741824:=hc.2;exact floordiv_int (by omega) (by rw[Int.fdiv_eq_ediv_of_nonneg i<|by omega];exact q)<|.inl<|PyProof.noPylong_small<|by omega
def cW:cV X (binaryOp .Mod) (rI (λ_ j=>0 < j) λi j=> .int<|i % j):=xt λi j _ _ _ _ _ hc q=>by
 have h1:(0:Int) < j:=hc;exact mod_int' (by omega)<|by rw[Int.fmod_eq_emod_of_nonneg i<|by omega];exact q
def Mr:cV X (binaryOp .Pow) (rI AV λi j=> .int<|i ^ j.toNat):=xt λ_ _ _ _ _ _ _ hc q=>pow_int_small hc.1 hc.2.1 hc.2.2 q
def VQ{f:Value->Sem Value}{g:Int->Int}
  (rule:∀(i:Int) (t:Tok) (s:Shared) (Q:Î) (E:Î),Q (.int (g i) s.toks) {s with toks:=s.toks+1}->wpAny (model X.prog X.w) X.A (f<|.int i t) Q E s) :
  xq X f (rU λi=> .int<|g i):=by
 intro pins s σ H x v Q I rx h;obtain⟨i,rfl,q⟩:=h;obtain⟨t,rfl⟩:=rx;exact rule i t s _ _ ⟨.int<|g i,H,I.tok _,⟨_,rfl⟩,q⟩
def t6:xq X (unaryOp .USub) (rU λi=> .int (-i)):=VQ λ_ _ _ _ _ q=>neg_int q
def t7:V->V->Bool
 | .non,.non=>true | .non,.int _=>true | .int _,.non=>true | .non,.bl _=>true | .bl _,.non=>true | .non,.str _=>true | .str _,.non=>true
 | .int _,.int _=>true | .bl _,.bl _=>true | .str _,.str _=>true | .iZ _,.iZ _=>true
 | .int _,.str _=>true | .str _,.int _=>true | .bl _,.str _=>true | .str _,.bl _=>true
 | _,_=>false
def VR:R2:=λx y H Q=>t7 x y=true/\Q (.bl<|decide (x=y)) H
def VS:R2:=λx y H Q=>t7 x y=true/\Q (.bl (!decide (x=y))) H
def Mt{i j:Int}:decide (V.int i=V.int j)=(i == j):=by
 rw[Cp];simp
def AW{i j:Bool}:decide (V.bl i=V.bl j)=(i == j):=by
 rw[Cp];simp
def Mu{i j:Str}:decide (V.str i=V.str j)=(i == j):=by
 rw[Cp];simp
def Mv{i j:Array UInt8}:decide (V.iZ i=V.iZ j)=(i.toList == j.toList):=by
 rw[Cp];cases i;cases j;simp
def cJ{pins:Ð}{σ:St}{H:Hp}{s:Shared}{Q:VK}{k k':Bool}(I:Inv X pins σ H s)(q:Q (.bl k) H)(e:k=k'):EP X pins σ Q (.bool k') s:=by
 subst e;exact⟨.bl k,H,I,rfl,q⟩
theorem i5:cV X (compareOp .Eq) VR:=by
 intro pins s σ H x y v u Q I rx ry h;obtain⟨hs,q⟩:=h;cases x with
 | non=>
  cases rx;cases y with
  | non=>cases ry;exact PySem.EqNone.eq_none_none<|cJ I q<|by simp
  | bl j=>cases ry;exact PySem.EqNone.eq_none_bool<|cJ I q<|by simp
  | int j=>obtain⟨t',rfl⟩:=ry;exact PySem.EqNone.eq_none_int<|cJ I q<|by simp
  | str j=>obtain⟨t',rfl⟩:=ry;exact PySem.EqNone.eq_none_str<|cJ I q<|by simp
  | _=>exact absurd (show false=true from hs) Ax
 | bl i=>
  cases rx;cases y with
  | non=>cases ry;exact PySem.EqNone.eq_bool_none<|cJ I q<|by simp
  | bl j=>cases ry;exact eq_bool<|cJ I q AW
  | str j=>obtain⟨t',rfl⟩:=ry;exact PySem.EqMixed.eq_bool_str<|cJ I q<|by simp
  | _=>exact absurd (show false=true from hs) Ax
 | int i=>
  obtain⟨t,rfl⟩:=rx;cases y with
  | non=>cases ry;exact PySem.EqNone.eq_int_none<|cJ I q<|by simp
  | int j=>obtain⟨t',rfl⟩:=ry;exact eq_int<|cJ I q Mt
  | str j=>obtain⟨t',rfl⟩:=ry;exact PySem.EqMixed.eq_int_str<|cJ I q<|by simp
  | _=>exact absurd (show false=true from hs) Ax
 | str i=>
  obtain⟨t,rfl⟩:=rx;cases y with
  | non=>cases ry;exact PySem.EqNone.eq_str_none<|cJ I q<|by simp
  | bl j=>cases ry;exact PySem.EqMixed.eq_str_bool<|cJ I q<|by simp
  | int j=>obtain⟨t',rfl⟩:=ry;exact PySem.EqMixed.eq_str_int<|cJ I q<|by simp
  | str j=>obtain⟨t',rfl⟩:=ry;exact eq_str<|cJ I q Mu
  | _=>exact absurd (show false=true from hs) Ax
 | iZ i=>
  obtain⟨t,rfl⟩:=rx;cases y with
  | iZ j=>obtain⟨t',rfl⟩:=ry;exact PySem.W.eq_bytes<|cJ I q Mv
  | _=>exact absurd (show false=true from hs) Ax
 | _=>cases y <;> exact absurd (show false=true from hs) Ax
theorem Mw:cV X (compareOp .NotEq) VS:=by
 intro pins s σ H x y v u Q I rx ry h;obtain⟨hs,q⟩:=h;cases x with
 | non=>
  cases rx;cases y with
  | non=>cases ry;exact PySem.EqNone.ne_none_none<|cJ I q<|by simp
  | bl j=>cases ry;exact PySem.EqNone.ne_none_bool<|cJ I q<|by simp
  | int j=>obtain⟨t',rfl⟩:=ry;exact PySem.EqNone.ne_none_int<|cJ I q<|by simp
  | str j=>obtain⟨t',rfl⟩:=ry;exact PySem.EqNone.ne_none_str<|cJ I q<|by simp
  | _=>exact absurd (show false=true from hs) Ax
 | bl i=>
  cases rx;cases y with
  | non=>cases ry;exact PySem.EqNone.ne_bool_none<|cJ I q<|by simp
  | bl j=>cases ry;exact ne_bool<|cJ I q<|BZ not AW
  | str j=>obtain⟨t',rfl⟩:=ry;exact PySem.EqMixed.ne_bool_str<|cJ I q<|by simp
  | _=>exact absurd (show false=true from hs) Ax
 | int i=>
  obtain⟨t,rfl⟩:=rx;cases y with
  | non=>cases ry;exact PySem.EqNone.ne_int_none<|cJ I q<|by simp
  | int j=>obtain⟨t',rfl⟩:=ry;exact ne_int<|cJ I q<|BZ not Mt
  | str j=>obtain⟨t',rfl⟩:=ry;exact PySem.EqMixed.ne_int_str<|cJ I q<|by simp
  | _=>exact absurd (show false=true from hs) Ax
 | str i=>
  obtain⟨t,rfl⟩:=rx;cases y with
  | non=>cases ry;exact PySem.EqNone.ne_str_none<|cJ I q<|by simp
  | bl j=>cases ry;exact PySem.EqMixed.ne_str_bool<|cJ I q<|by simp
  | int j=>obtain⟨t',rfl⟩:=ry;exact PySem.EqMixed.ne_str_int<|cJ I q<|by simp
  | str j=>obtain⟨t',rfl⟩:=ry;exact ne_str<|cJ I q<|BZ not Mu
  | _=>exact absurd (show false=true from hs) Ax
 | iZ i=>
  obtain⟨t,rfl⟩:=rx;cases y with
  | iZ j=>obtain⟨t',rfl⟩:=ry;exact PySem.W.ne_bytes<|cJ I q<|BZ not Mv
  | _=>exact absurd (show false=true from hs) Ax
 | _=>cases y <;> exact absurd (show false=true from hs) Ax
def VU:cV X (compareOp .Lt) (rp λi j=> .bl<|decide (i < j)):=tY λ_ _ _ _ _ _ _ q=>lt_int q
def Mx:cV X (compareOp .Gt) (rp λi j=> .bl<|decide (j < i)):=tY λ_ _ _ _ _ _ _ q=>gt_int q
def VV{op:CmpOp}{r:R2}(ho:cV X (compareOp op) r)(ha:PE X a ta)(hb:PE X b tb)(hm:behindInMarks op b=false):PE X (.Compare a [op] [b] pos) (xr r ta tb):=by
 intro pins s σ H Q I h;exact wpAny_Compare1 (oX ha hb I h λv u s2 x y H2 I2 rx ry q=>ho pins s2 σ H2 x y v u Q I2 rx ry q) hm
def VW(t:TE):TT:=λσ H Q=>t σ H λx H'=>∃ k,x = .bl k/\Q k H'
def VX{op:CmpOp}{r:R2}(ho:cV X (compareOp op) r)(ha:PE X a ta)(hb:PE X b tb)(hm:behindInMarks op b=false):PT X (.Compare a [op] [b] pos) (VW<|xr r ta tb):=by
 intro pins s σ H Q I h;refine wpAny_isTrue_Compare1 (aU (ha pins s σ H _ I h) λv s1 ⟨x,H1,I1,r1,q1⟩=>aU (hb pins s1 σ H1 _ I1 q1) λu s2 ⟨y,H2,I2,r2,q2⟩=>
  aU (ho pins s2 σ H2 x y v u _ I2 r1 r2 q2) λc s3 ⟨z,H3,I3,r3,k,e,q3⟩=>?_) hm
 subst e;cases r3;exact GQ ⟨H3,I3,q3⟩
def oZ(K:PySem.W.Frag)(x:V)(H:Hp)(k:Bool):Prop:=
 match x with
 | .non=>k=false
 | .bl b=>k=b
 | .int i=>k=(i != 0)
 | .str y=>y.length<=sizeLine/\k=((y.length:Int) != 0)
 | .iZ y=>y.size<=sizeLine/\k=((y.size:Int) != 0)
 | .ref p=>(∃ xs,ak K H p xs/\k = !xs.isEmpty)\/(∃ xs,aP K H p xs/\k = !xs.isEmpty)\/∃ kvs,H p=some (.dK kvs)/\k = !kvs.isEmpty
 | _=>False
def VY{κ:Type}{kvs:List (κ×V)}{vs:List (κ×Value)}(r:KV kvs vs):(!vs.isEmpty) = !kvs.isEmpty:=by
 cases r <;> rfl
def My{xs:List V}{its:Ó}(r:aA xs its):(!its.toArray.isEmpty) = !xs.isEmpty:=by
 cases r <;> simp
def t8:(sizeLine:Nat) < 2 ^ 63:=by rw[DW];decide
theorem VZ:AU X (λx H Q=>∃ k,oZ X.K x H k/\Q k H):=by
 intro pins s σ H x v Q I rx h;obtain⟨k,e,q⟩:=h;have hl:=t8;have hs:sizeLine=16777216:=DW;cases x with
 | non=>
  cases rx;have e':k=false:=e;subst e';exact truthy_none ⟨H,I,q⟩
 | bl b=>
  cases rx;have e':k=b:=e;subst e';exact GQ ⟨H,I,q⟩
 | int i=>
  obtain⟨t,rfl⟩:=rx;have e':k=(i != 0):=e;subst e';exact PySem.P.truthy_int ⟨H,I,q⟩
 | str y=>
  obtain⟨t,rfl⟩:=rx;obtain⟨hy,e'⟩:y.length<=sizeLine/\k=((y.length:Int) != 0):=e;subst e';exact PySem.P.truthy_str (by omega) ⟨H,I.tok _,q⟩
 | iZ y=>
  obtain⟨t,rfl⟩:=rx;obtain⟨hy,e'⟩:y.size<=sizeLine/\k=((y.size:Int) != 0):=e;subst e';exact PySem.W.truthy_bytes (by omega) ⟨H,I.tok _,q⟩
 | ref p=>
  cases rx;have e':(∃ xs,ak X.K H p xs/\k = !xs.isEmpty)\/(∃ xs,aP X.K H p xs/\k = !xs.isEmpty)\/∃ kvs,H p=some (.dK kvs)/\k = !kvs.isEmpty:=e
  rcases e' with ⟨xs,hx,e'⟩ | ⟨xs,hx,e'⟩ | ⟨kvs,hx,e'⟩
  ·subst e';obtain⟨its,r,pl,hz⟩:=I.list hx;have hlen:=r.length;exact wpAny_truthy_list pl.isList (by simp only[Ay];omega) ⟨H,I.tok _,by rw[My r];exact q⟩
  ·subst e';obtain⟨its,r,pl,hz⟩:=I.tuple hx;have hlen:=r.length;exact truthy_tuple pl (by simp only[Ay];omega) ⟨H,I.tok _,by rw[My r];exact q⟩
  ·subst e';obtain⟨hz,hS,vs,r,m⟩:kvs.length<=sizeLine/\(p == sysModules)=false/\∃ vs,KV kvs vs/\s.heap.DictOf (dz X.prog X.w) p vs:=I.aI p _ hx;have hlen:kvs.length=vs.length:=Paired.length r;exact wpAny_truthy_dict hS m (by omega) ⟨H,I.tok _,by rw[VY r];exact q⟩
 | _=>exact(show False from e).elim
def V0(ha:PE X a ta)(he:∀ whole,isTrue a X.env whole=(do let v <- whole;standAt a.pos;holding [v] (truthy v))) :
  PT X a (λσ H Q=>ta σ H λx H'=>∃ k,oZ X.K x H' k/\Q k H'):=by
 intro pins s σ H Q I h;exact isTrue_plain (aU (ha pins s σ H _ I h) λv s1 ⟨x,H1,I1,r1,q1⟩=>VZ pins s1 σ H1 x v Q I1 r1 q1)<|he _
def V1:cV X (binaryOp .Add) (λx y H Q=>∃ i j,x = .str i/\y = .str j/\i.length+j.length<=sizeLine/\Q (.str<|i++j) H):=by
 intro pins s σ H x y v u Q I rx ry h;obtain⟨i,j,rfl,rfl,hz,q⟩:=h;obtain⟨t,rfl⟩:=rx;obtain⟨t',rfl⟩:=ry;exact add_str (λt' tk=>⟨.str<|i++j,H,I.tok _,⟨_,rfl⟩,q⟩) hz
theorem vals1{x:V}{us:Ó}(r:aA [x] us):∃ u,us=[u]/\RelV x u:=by
 cases r with
 | cons r1 r2=>cases r2;exact⟨_,rfl,r1⟩
theorem vals2{x y:V}{us:Ó}(r:aA [x,y] us):∃ u w',us=[u,w']/\RelV x u/\RelV y w':=by
 cases r with
 | cons r1 r2=>
  cases r2 with
  | cons r3 r4=>cases r4;exact⟨_,_,rfl,r1,r3⟩
def Mz(hc:X.calm=true):gO X (.builtin "max") (λxs H Q=>∃ i j,xs=[.int i,.int j]/\Q (.int (if j > i then j else i)) H):=by
 intro pins s σ H xs us Q I r h;obtain⟨i,j,rfl,q⟩:=h;obtain⟨u,w',rfl,⟨t,rfl⟩,⟨t',rfl⟩⟩:=vals2 r;refine max_two_ints (I.ok.hd hc) λh' tk k=>⟨_,H,I.kept k,?_,q⟩
 by_cases hj:j > i
 ·rw[BL hj,BL hj];exact⟨_,rfl⟩
 ·rw[BK hj,BK hj];exact⟨_,rfl⟩
end
structure o6(h:Heap)(x dx C:Addr)(mA:Ò):Prop where
 obj:h.get? x=some (PySem.W.instObj C dx)
 ns:h.Ns1 dx mA
 ne:dx≠x
def V2{h:Heap}{dx:Addr}{mA:Ò}(n:h.Ns1 dx mA):∃ od,h.get? dx=some od/\∀ name,PySem.W.lookIn name od=some (mA name):=by
 obtain⟨o,es,ep,ho,hd,hk,_,hm⟩:=n;refine⟨o,ho,λname=>?_⟩;have e:=hm name;unfold nsFind findBy at e;rw[<- Array.find?_toList]at e;unfold PySem.W.lookIn;rw[hd]
 dsimp only
 split
 ·rename_i y q;rw[q]at e;exact BZ some e
 ·rename_i q;rw[q]at e;have a:es.toList.any (·.refKey)=false:=by
   rw[List.any_eq_false];intro y hy;obtain⟨z,t,AX⟩:=hk y<|Array.mem_toList_iff.mp hy;simp[DictEntry.refKey,AX]
  have a':¬ es.toList.any (·.refKey)=true:=by rw[a];exact Ax
  rw[BK a'];exact BZ some e
def o6.look{h:Heap}{x dx C:Addr}{mA:Ò}(I:o6 h x dx C mA):∃ od,PySem.W.InstAt h x (PySem.W.instObj C dx) C (some od)/\∀ name,PySem.W.lookIn name od=some (mA name):=
 let ⟨od,ho,hl⟩:=V2 I.ns
 ⟨od,⟨I.obj,rfl,rfl,ho⟩,hl⟩
section
variable{prog:Program}{w:World}{A:Around}{E:Î}{s:Shared}{K:PySem.W.Frag}{x dx C f:Addr}{mA:Ò}{name:Str}{v:Value}
end
theorem dA.some_of{v:V}{o:Option Value}(r:dA (some v) o):∃ u,o=some u/\RelV v u:=by
 cases o with
 | none=>exact(show False from r).elim
 | some u=>exact⟨u,rfl,r⟩
section
variable{P:Program}{w:World}{H H':Hp}{h h':Heap}{a C dx:Addr}{fs U5:List (Str×V)}
def V3(aI:b9 P w H h)(e:H a=some (.ins C dx fs)):∃ mA,o6 h a dx C mA/\(∀ f,dA (fs.lookup f)<|mA f)/\PySem.Within mA (fs.map (·.1))/\fs.length<=1000/\H dx=some (.own a):=by
 obtain⟨d,z,ne,ob,mA,n,r,q⟩:=(show aB P w H h a (.ins C dx fs)from aI a _ e);exact⟨mA,⟨ob,n,ne⟩,r,q,z,d⟩
end
structure AY(K:PySem.W.Frag)(C:Addr):Prop where
 pg:PySem.W.plainGet K C Str.empty=true
 hd:PySem.W.hasDictIn K C=true
 po:PySem.W.plainOver K C=true
 sa:PySem.W.findIn K (.ref C) "__setattr__" = some (some<|.builtin "object.__setattr__")
def AY.get{K:PySem.W.Frag}{C:Addr}(c:AY K C)(f:Str):PySem.W.plainGet K C f=true:=c.pg
section
variable{X:Cx}{pins:Ð}{σ:St}{H:Hp}{s:Shared}{a C dx:Addr}{fs:List (Str×V)}{f:Str}{v:V}{A:Around}{E:Î}
end
section
variable{X:Cx}{o e value:Expr}{f:Str}{pos pos' AZ:Pos}{ta tv:TE}
end
section
variable{X:Cx}{pins:Ð}{σ:St}{H:Hp}{s:Shared}{A:Around}{E:Î}{Q:Î}{c:Value}{b:Bool}
inductive c6 (K:PySem.W.Frag) (H:Hp):V->Value->Prop where
 | non:c6 K H .non<|.type "NoneType"
 | bl (x:Bool):c6 K H (.bl x)<|.type "bool"
 | int (i:Int):c6 K H (.int i)<|.type "int"
 | str (x:Str):c6 K H (.str x)<|.type "str"
 | rg (x:UInt64):c6 K H (.rg x)<|.type "float"
 | lst {a:Addr} {xs:List V} (e:H a=some (.lst xs)):c6 K H (.ref a)<|.type "list"
 | b7 {a:Addr} {o:Obj} {xs:List V} (e:H a=some (.b7 o<|.lst xs)):c6 K H (.ref a)<|.type "list"
 | tup {a:Addr} {xs:List V} (e:H a=some (.tup xs)):c6 K H (.ref a)<|.type "tuple"
 | dK {a:Addr} {kvs:List (Key×V)} (e:H a=some (.dK kvs)):c6 K H (.ref a)<|.type "dict"
 | dT {a:Addr} {kvs:List (List Key×V)} (e:H a=some (.dT kvs)):c6 K H (.ref a)<|.type "dict"
 | ins {a C dx:Addr} {fs:List (Str×V)} (e:H a=some (.ins C dx fs)) (cl:AY K C) (ha:PySem.W.findIn K (.ref C) "__class__" = some (some<|.builtin "object.__class__"))
   (hn:PySem.W.specialIn K (.builtin "object.__class__") "__get__" = some (some<|.builtin "getset_descriptor.__get__")) (MA:PySem.W.takesIn K (.builtin "object.__class__")=some true)
   (hm:PySem.W.mroIn K C (.type "object")=some true):c6 K H (.ref a)<|.ref C
theorem V4{x:V}{u t:Value}(I:Inv X pins σ H s)(rx:RelV x u)(ty:c6 X.K H x t)(e:PySem.W.kitOne X.K t c=some b)(h:∀ tk,Q (.bool b) {s with toks:=tk}) :
  wpAny (model X.prog X.w) A (call (.builtin "isinstance") [u,c]) Q E s:=by
 cases ty with
 | non=>cases (show u=Value.none from rx);exact EY PySem.W.kitx_none I.gd True.intro e (λz=>nomatch z) h
 | bl y=>cases (show u=Value.bool y from rx);exact EY PySem.W.kitx_bool I.gd True.intro e (λz=>nomatch z) h
 | int i=>obtain⟨t,q⟩:=(show ∃ t,u=Value.int i t from rx);cases q;exact EY PySem.W.kitx_int I.gd True.intro e (λz=>nomatch z) h
 | str y=>obtain⟨t,q⟩:=(show ∃ t,u=Value.str y t from rx);cases q;exact EY PySem.W.kitx_str I.gd True.intro e (λz=>nomatch z) h
 | rg y=>obtain⟨t,q⟩:=(show ∃ t,u=Value.float y t from rx);cases q;exact EY PySem.W.kitx_float I.gd True.intro e (λz=>nomatch z) h
 | @lst a xs ea=>
  cases (show u=Value.ref a from rx);obtain⟨_,_,n,_,h1⟩:=(show aB X.prog X.w H s.heap a (.lst xs)from I.aI a _ ea);exact EY PySem.W.kitx_list I.gd ⟨_,h1,rfl⟩ e (λz=>nomatch z) h
 | @b7 a ob xs ea=>
  cases (show u=Value.ref a from rx);obtain⟨_,_,_,n,_,h1⟩:=(show aB X.prog X.w H s.heap a (.b7 ob<|.lst xs)from I.aI a _ ea);exact EY PySem.W.kitx_list I.gd ⟨_,h1,rfl⟩ e (λz=>nomatch z) h
 | @tup a xs ea=>
  cases (show u=Value.ref a from rx);obtain⟨_,_,_,p⟩:=(show aB X.prog X.w H s.heap a (.tup xs)from I.aI a _ ea);obtain⟨o,h1,h2,_⟩:=p;exact EY PySem.W.kitx_tuple I.gd ⟨o,h1,h2⟩ e (λz=>nomatch z) h
 | @dK a kvs ea=>
  cases (show u=Value.ref a from rx);obtain⟨_,_,vs,_,p⟩:=(show aB X.prog X.w H s.heap a (.dK kvs)from I.aI a _ ea);obtain⟨o,es,ep,h1,h2,_⟩:=p;exact EY PySem.W.kitx_dict I.gd ⟨o,h1,h2.1⟩ e (λz=>nomatch z) h
 | @dT a kvs ea=>
  cases (show u=Value.ref a from rx);obtain⟨_,_,xs,_,o,es,ep,h1,h2,_⟩:=(show aB X.prog X.w H s.heap a (.dT kvs)from I.aI a _ ea);exact EY PySem.W.kitx_dict I.gd ⟨o,h1,h2.1⟩ e (λz=>nomatch z) h
 | @ins a C dx fs ea cl ha hn MA hm=>
  cases (show u=Value.ref a from rx);obtain⟨mA,O,_⟩:=V3 I.aI ea;obtain⟨od,J,_⟩:=O.look;exact EY (PySem.W.kitx_own (cl.get _) cl.hd ha hn MA hm) I.gd J e (λz=>nomatch z) h
end
structure bC(k:Nat)(A:Around):Prop where
 hd:A.handled=none
 dp:A.depth+3 * k+5 < recursionLimit
 un:A.units+16 * k+200 < cLine
def bC.mono{j k:Nat}{A:Around}(r:bC k A)(h:j<=k):bC j A:=⟨r.hd,by have:=r.dp;omega,by have:=r.un;omega⟩
def bC.deeper{k:Nat}{A:Around}(r:bC (k+1) A)(env:Env):bC k (A.deeper env):=
 ⟨r.hd,by have:=r.dp;show A.depth+1+3 * k+5 < _;omega,by have:=r.un;show A.units+3+16 * k+200 < _;omega⟩
def bC.depth{k:Nat}{A:Around}(r:bC k A):A.depth < recursionLimit:=by have:=r.dp;omega
def A0:TA:=λ_ H Q=>Q [] H
def MB(ta:TE)(tr:TA):TA:=λσ H Q=>ta σ H λx H1=>tr σ H1 λxs H2=>Q (x :: xs) H2
section
variable{X:Cx}{e:Expr}{es:Ô}{te:TE}{t:TA}{pos:Pos}
def V5:PA X [] A0:=λ_ _ _ _ H Q I h=>Calls.spliced_nil ⟨[],H,I,.nil,h⟩
def V6(ha:PE X e te)(hr:PA X es t)(hs:starEach (e :: es) X.env=(false,eval e X.env) :: starEach es X.env:=by rfl):PA X (e :: es) (MB te t):=by
 intro pos pins s σ H Q I h;rw[hs];show wpAny _ _ (spliced<|(false,eval e X.env) :: backTo pos (starEach es X.env)) _ _ s;refine Calls.spliced_cons<|aU (ha pins s σ H _ I h) λu s1 ⟨x,H1,I1,r1,q1⟩=>?_;exact aU (hr pos pins s1 σ H1 _ I1 q1) λus s2 ⟨xs,H2,I2,r2,q2⟩=>⟨x :: xs,H2,I2,.cons r1 r2,q2⟩
def A1(t:TA):TE:=λσ H Q=>t σ H λxs H1=>xs.length<=sizeLine/\∀ p,H1 p=none->Q (.ref p) (upd H1 p<|.tup xs)
def A2(t:TA):TE:=λσ H Q=>t σ H λxs H1=>xs.length<=sizeLine/\∀ p,H1 p=none->Q (.ref p) (upd H1 p<|.lst xs)
def V7{x1}(h:PA X es t):PE X (.Tuple es x1 pos) (A1 t):=by
 intro pins s σ H Q I hq;refine wpAny_Tuple_spliced (aU (h pos pins s σ H _ I hq) λus s1 ⟨xs,H1,I1,r,z,q⟩=>⟨by rw[<- r.length];exact z,?_⟩);have hf:H1 s1.heap.objs.size=none:=I1.aI.fresh<|Ao _;refine⟨.ref s1.heap.objs.size,upd H1 s1.heap.objs.size<|.tup xs,I1.laid (t':=s1.toks) (λb u e=>Ai _ e) (Ao _) ?_,rfl,q _ hf⟩;exact⟨z,us,r,⟨_,Av _ rfl,rfl,_,rfl⟩⟩
def V8(h:PA X es t):PE X (.List es pos) (A2 t):=by
 intro pins s σ H Q I hq;refine wpAny_List_spliced (aU (h pos pins s σ H _ I hq) λus s1 ⟨xs,H1,I1,r,z,q⟩=>⟨by rw[<- r.length];exact z,?_⟩);have hf:H1 s1.heap.objs.size=none:=I1.aI.fresh<|Ao _;refine⟨.ref s1.heap.objs.size,upd H1 s1.heap.objs.size<|.lst xs,I1.laid (t':=s1.toks) (λb u e=>Ai _ e) (Ao _) ?_,rfl,q _ hf⟩;exact⟨z,us,0,r,Av _ rfl⟩
end
abbrev Sp:=List V->Hp->VK->XK->Prop
abbrev gP:=List Env->Hp->Shared->XK->Î
structure lP(P:Program)(w:World)(K:PySem.W.Frag)(mg:Ò)(base:Heap)(A:Around)(outer:List Env)(s:Shared)(H:Hp):Prop where
 frames:A.frames=some outer
 mod:Mod K mg base
 bs:∀ b o,base.get? b=some o->s.heap.get? b=some o/\H b=none
 m7:base.objs.size<=s.heap.objs.size
 dB:s.heap.FunFrames base outer
 rj:∀ b∈d7 outer,H b=none
 aI:b9 P w H s.heap
 bare:AllBare s.gens
def CE(outer:List Env)(P:Program)(w:World)(H:Hp)(s:Shared)(Q:VK)(u:Value)(s':Shared):Prop:=
 ∃ v H',s'.os=s.os/\AllBare s'.gens/\Un (d7 outer) [] H H' s.heap s'.heap/\b9 P w H' s'.heap/\RelV v u/\Q v H'
def CR(CX:gP)(outer:List Env)(P:Program)(w:World)(H:Hp)(s:Shared)(Q:VK)(E:XK)(r:Result)(s':Shared):Prop:=
 match r with
 | .ok (.ret u)=>CE outer P w H s Q u s'
 | .ok _=>False
 | .error e=>CX outer H s E e s'
structure aE(P:Program)(w:World)(K:PySem.W.Frag)(mg:Ò)(base:Heap)(CX:gP)(k:Nat)(f:Addr)(fd:FuncData)(ps:Ñ)(sp:Sp):Prop where
 len:∀ vs H Q E,sp vs H Q E->vs.length=ps.length
 run:∀(A:Around) (outer:List Env) (s:Shared) (H:Hp) (args:Args) (us:Ó) (vs:List V) (Q:VK) (E:XK),bC k A->lP P w K mg base A outer s H->BindsTo s fd args (ps.zip us)->aA vs us->sp vs H Q E ->
  codeAny (model P w) A (.call (.ref f) args) (CR CX outer P w H s Q E) s
def aE.mono{P:Program}{w:World}{K:PySem.W.Frag}{mg:Ò}{base:Heap}{CX:gP}{j k:Nat}{f:Addr}{fd:FuncData}{ps:Ñ}{sp:Sp}(F:aE P w K mg base CX j f fd ps sp)(h:j<=k) :
  aE P w K mg base CX k f fd ps sp:=⟨F.len,λA outer s H args us vs Q E hr=>F.run A outer s H args us vs Q E<|hr.mono h⟩
section
variable{X:Cx}{pins:Ð}{σ:St}{H:Hp}{s s':Shared}
def Inv.A3(I:Inv X pins σ H s):lP X.prog X.w X.K X.mg X.base X.A X.stack s H:=
 ⟨I.ok.frames,I.ok.mod,I.bs,Bq I.ok.m7 I.sz,I.stack,I.dk,I.aI,I.bare⟩
def Inv.after{Q:VK}{u:Value}(I:Inv X pins σ H s)(h:CE X.stack X.prog X.w H s Q u s'):EP X pins σ Q u s':=by
 obtain⟨v,H',os,bare,un,aI,r,q⟩:=h;obtain⟨hh,g,d,t,bZ⟩:=s';obtain rfl:bZ=s.os:=os;exact⟨v,H',I.call (h':=hh) (g':=g) (d':=d) (t':=t) (ch:=[]) un aI bare (λb z=>absurd z<|by simp),r,q⟩
end
def MC(sp:Sp)(lQ:List V)(E:XK)(t:TA):TE:=λσ H Q=>t σ H λvs H1=>sp (vs++lQ) H1 Q E
def Binds(K:PySem.W.Frag)(fd:FuncData)(ps:Ñ)(ds:Ó):Prop:=
 ∀(s:Shared) (us:Ó),K.In s.heap->(us++ds).length=ps.length->BindsTo s fd ⟨us,[]⟩ (ps.zip<|us++ds)
def Binds.all{K:PySem.W.Frag}{fd:FuncData}{ps:Ñ}(h:∀ us:Ó,us.length=ps.length->bindArgs fd ⟨us,[]⟩=pure (ps.zip us)):Binds K fd ps []:=λs us _ hl=>by
 rw[Bh]at hl ⊢;exact .of_eq<|h us hl
def lR(CX:gP)(X:Cx)(E:XK):Prop:=∀(pins:Ð) (σ:St) (H:Hp) (s:Shared) (e:Value) (s':Shared),Inv X pins σ H s->CX X.stack H s E e s'->X.xe e s'
section
variable{X:Cx}{CX:gP}{k:Nat}{f C:Addr}{fd:FuncData}{ps:Ñ}{sp:Sp}{lQ:List V}{ds:Ó}{E:XK}{x m:Str}{p pos apos:Pos}{e o:Expr}{es:Ô}{ta:TE}{t:TA}
theorem V9{pins:Ð}{σ:St}{H:Hp}{s:Shared}{Q:VK}{us:Ó}{vs:List V}(F:aE X.prog X.w X.K X.mg X.base CX k f fd ps sp)(hr:bC k X.A)(hb:Binds X.K fd ps ds)(hd:aA lQ ds)(hx:lR CX X E)
  (I:Inv X pins σ H s) (r:aA vs us) (h:sp (vs++lQ) H Q E):wpAny (model X.prog X.w) X.A (call (.ref f) us) (EP X pins σ Q) X.xe s:=by
 have r2:aA (vs++lQ) (us++ds):=r.append hd;have hl:(us++ds).length=ps.length:=by rw[<- r2.length];exact F.len _ _ _ _ h
 refine wpAny_call<|JH (F.run X.A X.stack s H ⟨us,[]⟩ (us++ds) (vs++lQ) Q E hr I.A3 (hb s us I.gd hl) r2 h) λr s' hq=>?_;cases r with
 | error e=>exact hx pins σ H s e s' I hq
 | ok fl=>
  cases fl with
  | ret u=>exact I.after hq
  | next=>exact False.elim hq
  | brk=>exact False.elim hq
  | cont=>exact False.elim hq
def V'(F:aE X.prog X.w X.K X.mg X.base CX k f fd ps sp)(hr:bC k X.A)(hg:Gl X x)(hm:X.mg x=some (.ref f))(hk:PySem.W.keepIn X.K (.ref f)=true)(hb:Binds X.K fd ps ds)(hd:aA lQ ds)(hx:lR CX X E)
  (ha:PA X (e :: es) t) (di:(x == ("__debug__" : Str))=false:=by decide) (he:starEach (e :: es) X.env=(false,eval e X.env) :: starEach es X.env:=by rfl) (o7:(backTo pos<|starEach es X.env).any (·.1)=false:=by rfl) :
  PE X (.Call (.Name x p) (e :: es) [] pos) (MC sp lQ E t):=by
 intro pins s σ H Q I h;refine JV<|Mf I hg hm ?_ di;refine PySem.W.callWith_K (h₀:=X.base) I.ok.mod.ri hk (aU (ha pos pins s σ H _ I h) λus s1 ⟨vs,H1,I1,r,q⟩=>⟨I1.gd,?_⟩) he o7;exact V9 F hr hb hd hx I1 r q
end
section
variable{X:Cx}{CX:gP}{k:Nat}{f C:Addr}{fd:FuncData}{ps ks:Ñ}{sp:Sp}{E:XK}{x m:Str}{p pos apos Wa:Pos}{e o:Expr}{es:Ô}{kws:List Keyword}{te ta:TE}{t tk:TA}{nm:Option Str}
variable{g:Ó->Ó->Ó}{gV:List V->List V->List V}
end
structure ao(N P:Ñ)(sc:Scope):Prop where
 kind:sc.kind = .function
 co:sc.isCoroutine=false
 gen:sc.isGenerator=false
 nd:N.Nodup
 pre:N.take P.length=P
 par:∀ x∈P,sc.names.lookup x=some .local\/sc.names.lookup x=some .cell
 o8:∀ y∈sc.names,y.2 ≠ .free
theorem MD{kindOf:Str->Option NameKind}{x:Str}:∀{binds:List (Str×Value)} {m:Ò},(∀ v,(x,v)∉binds)->bindL kindOf binds m x=m x
 | [],_,_=>rfl
 | (n,v) :: r,m,h=>by
  unfold bindL;rw[MD λw hw=>h w<|Ah _ hw]
  split
  ·have:x≠n:=by rintro rfl;exact h v Af
   simp[this]
  ·rfl
theorem ME{kindOf:Str->Option NameKind}{x:Str}:∀{binds:List (Str×Value)} {m:Ò},(∀ v,(x,v)∉binds)->bindC kindOf binds m x=m x
 | [],_,_=>rfl
 | (n,v) :: r,m,h=>by
  unfold bindC;rw[ME λw hw=>h w<|Ah _ hw]
  split
  ·rfl
  ·have:x≠n:=by rintro rfl;exact h v Af
   simp[this]
theorem MG{kindOf:Str->Option NameKind}{x:Str}{v:Value}:∀{P:Ñ} {vs:Ó} {i:Nat} {m:Ò},P.Nodup->P[i]?=some x->vs[i]?=some v->kindOf x=some .local ->
  bindL kindOf (P.zip vs) m x=some v
 | [],_,_,_,_,h,_,_=>by simp at h
 | _ :: _,[],_,_,_,_,h,_=>by simp at h
 | p :: P,w :: vs,0,m,nd,h1,h2,hk=>by
  simp at h1 h2;subst h1;subst h2;show bindL kindOf ((p,w) :: P.zip vs) m p=_;unfold bindL;rw[MD λv hv=>(Bf.mp nd).1 (RQ hv).1,BL hk];simp
 | p :: P,w :: vs,i+1,m,nd,h1,h2,hk=>by
  show bindL kindOf ((p,w) :: P.zip vs) m x=_;unfold bindL;exact MG (i:=i) (Bf.mp nd).2 (by simpa using h1) (by simpa using h2) hk
theorem MH{kindOf:Str->Option NameKind}{x:Str}{v:Value}:∀{P:Ñ} {vs:Ó} {i:Nat} {m:Ò},P.Nodup->P[i]?=some x->vs[i]?=some v->kindOf x≠some .local ->
  bindC kindOf (P.zip vs) m x=some v
 | [],_,_,_,_,h,_,_=>by simp at h
 | _ :: _,[],_,_,_,_,h,_=>by simp at h
 | p :: P,w :: vs,0,m,nd,h1,h2,hk=>by
  simp at h1 h2;subst h1;subst h2;show bindC kindOf ((p,w) :: P.zip vs) m p=_;unfold bindC;rw[ME λv hv=>(Bf.mp nd).1 (RQ hv).1,BK hk];simp
 | p :: P,w :: vs,i+1,m,nd,h1,h2,hk=>by
  show bindC kindOf ((p,w) :: P.zip vs) m x=_;unfold bindC;exact MH (i:=i) (Bf.mp nd).2 (by simpa using h1) (by simpa using h2) hk
def start(N:Ñ)(vs:List V):St:=vs.map some++List.replicate (N.length - vs.length) none
def c7(CX:gP)(P:Program)(w:World)(K:PySem.W.Frag)(mg:Ò)(base:Heap)(N:Ñ)(qual:Str)(scope:Scope)(f:Addr)(cd:Value)(A:Around)(outer:List Env)(s:Shared)(H:Hp)(E:XK):Cx where
 prog:=P
 w:=w
 K:=K
 mg:=mg
 base:=base
 A:=A.deeper<|envOfC qual scope s.heap.objs.size f cd
 N:=N
 s₀:=s
 H₀:=H
 env:=envOfC qual scope s.heap.objs.size f cd
 outer:=outer
 stack:=envOfC qual scope s.heap.objs.size f cd :: outer
 ex:=[]
 calm:=true
 fn:=λ_=>true
 pn:=[]
 xe:=λe s'=>wpAny (model P w) (A.deeper<|envOfC qual scope s.heap.objs.size f cd) (leaving (envOfC qual scope s.heap.objs.size f cd) e) (λ_ t9=>CX outer H s E e t9) (λe' t9=>CX outer H s E e' t9) s'
def MI{sc:Scope}{n:Nat}{x:Str}(h:sc.names.lookup x=some .cell):∃ c,(cellsFrom n sc.names []).lookup x=some c:=by
 have q:=JC sc.names n []<|.inl h;exact Ex.mp q
def Wb{CX:gP}{P:Program}{w:World}{K:PySem.W.Frag}{mg:Ò}{base:Heap}{N ps:Ñ}{qual:Str}{scope:Scope}{f:Addr}{cd:Value}{A:Around}{outer:List Env}{s s1:Shared}{H:Hp}{E:XK}{us:Ó}{vs:List V}
  (S:ao N ps scope) (hd:A.handled=none) (e0:lP P w K mg base A outer s H) (hl:vs.length=ps.length) (r:aA vs us)
  (x:InCallC s s.heap.objs.size (bindL (envOfC qual scope s.heap.objs.size f cd).kindOf (ps.zip us) λ_=>none) (cellsFrom (s.heap.objs.size+1) scope.names []) (bindC (envOfC qual scope s.heap.objs.size f cd).kindOf (ps.zip us) λ_=>none) s1) :
  Inv (c7 CX P w K mg base N qual scope f cd A outer s H E) [] (start N vs) H s1:=by
 have o7:ps.length<=N.length:=by have:=BZ List.length S.pre;rw[Bg]at this;omega
 obtain⟨h1,tk,rfl,hk⟩:=x.done;have ua:∀ b:Addr,b∉(c7 CX P w K mg base N qual scope f cd A outer s H E).ex:=λb z=>absurd (show b∈([]:List Addr)from z) (by simp);refine⟨⟨e0.mod,S.kind,rfl,rfl,Ao _,λy z c h1 h2=>?_,λy hy=>?_,λy c _ h=>?_,λ_=>hd,Around.frames_deeper e0.frames,.inr ⟨rfl,rfl⟩,λb z=>absurd z<|ua b,e0.bs,e0.m7,λb _ _=>ua b,λb z=>absurd z<|ua b,e0.dB,e0.rj⟩,
  rfl,e0.bare,Un.kept hk,⟨_,x.toInCall.ns,λi y v h1 h2 h3=>?_⟩,λy c h=>⟨_,x.cell y c h⟩,e0.aI.fresh<|Ao _,λy c h=>?_,λp hp=>absurd (show p∈([]:Ð)from hp) (by simp),e0.aI.kept hk,?_⟩
 ·exact name_of_addr x.apart (CW h1)<|CW h2
 ·have hy:scope.names.lookup y=some .cell\/scope.names.lookup y=some .free:=hy
  rcases hy with hy | hy
  ·exact MI hy
  ·exact absurd rfl (S.o8 _<|CW hy)
 ·exact Cs<|x.above y c<|CW h
 ·have hi:i < vs.length:=by
   unfold start at h2
   by_cases hi:i < vs.length
   ·exact hi
   ·rw[Am<|by simpa using hi]at h2;rw[Ez]at h2
    split at h2 <;> cases h2
  have ha:vs[i]?=some v:=by
   unfold start at h2;rw[An (by simpa using hi),Aj]at h2;cases e:vs[i]? with
   | none=>rw[e]at h2;cases h2
   | some a=>rw[e]at h2;cases h2;rfl
  obtain⟨u,hu,rv⟩:=r.get ha;have hp:ps[i]?=some y:=by
   rw[<- S.pre,Ds<|by omega];exact h1
  have ML:ps.Nodup:=by rw[<- S.pre];exact S.nd.sublist<|List.take_sublist _ _
  refine⟨u,rv,?_⟩
  rcases S.par y (As hp)with k | k
  ·exact .inl ⟨k,MG ML hp hu k⟩
  ·obtain⟨c,e⟩:=MI (n:=s.heap.objs.size+1) k;refine .inr ⟨.inl k,c,e,?_⟩;have q:=x.cell y c e;rw[MH ML hp hu<|by show scope.names.lookup y≠_;rw[k];decide]at q;exact q
 ·exact e0.aI.fresh<|Cs<|x.above y c<|CW h
 ·unfold start;show _=N.length;rw[Ad,Aa,Fg];omega
theorem MM{CX:gP}{P:Program}{w:World}{K:PySem.W.Frag}{mg:Ò}{base:Heap}{k:Nat}{f:Addr}{name qual:Str}{params:Arguments}{body:Õ}{scope:Scope}{dV kV doc pm bH ct oc:Value}{an od:Option Addr}
  {kZ:Array (Option Value)} {N ps:Ñ} {sp:Sp} (lk:K.lookup f=some ⟨oc,od,.func<|PySem.W.fnOf name qual params body scope dV kV doc pm an bH ct,kZ⟩) (iB:PySem.W.codeIn K bH qual=true) (S:ao N ps scope)
  (len:∀ vs H Q E,sp vs H Q E->vs.length=ps.length)
  (cM : ∀ (A : Around) (outer : List Env) (s : Shared) (H : Hp) (vs : List V) (Q : VK) (E : XK), bC k (A.deeper<|envOfC qual scope s.heap.objs.size f bH) → sp vs H Q E →
   ∃ t,i0 (c7 CX P w K mg base N qual scope f bH A outer s H E) body t/\t {nx:=λ_ H'=>Q .non H',rt:=Q} (start N vs) H) :
  aE P w K mg base CX (k+1) f (PySem.W.fnOf name qual params body scope dV kV doc pm an bH ct) ps sp:=by
 refine⟨len,λA outer s H args us vs Q E hr e0 hb r dQ=>?_⟩;have hl:=len _ _ _ _ dQ;have KX:K.In s.heap:=e0.mod.ri.keeps λb o e=>(e0.bs b o e).1;have lim:s.heap.NoLimit:=e0.mod.nolimit.keeps λb o e=>(e0.bs b o e).1;have ub:∀ y∈ps.zip us,scope.names.lookup y.1=some .local\/(scope.names.lookup y.1=some .cell/\((cellsFrom (s.heap.objs.size+1) scope.names []).lookup y.1).isSome=true):=λ⟨n,v⟩ hy=>by
  rcases S.par n (RQ hy).1 with q | q
  ·exact .inl q
  ·exact .inr ⟨q,JC _ _ _<|.inl q⟩
 refine codeAny_call_function hr.depth (KX _ _ lk) rfl S.co S.gen rfl (PySem.W.codeRec_of KX iB) (hb _ _ _ _ ?_);refine wpAny_newFunctionEnv_cells S.kind ub λenv he s1 x=>?_;subst he;refine⟨lim.keeps x.toInCall.keep,codeAny_func ?_⟩;obtain⟨t,ht,hq⟩:=cM A outer s H vs Q E (hr.deeper _) dQ;have I:Inv (c7 CX P w K mg base N qual scope f bH A outer s H E) [] (start N vs) H s1:=Wb S hr.hd e0 hl r x;refine CV (ht [] s1 (start N vs) H _ I hq) (λfl s' hs=>?_) λe s' hs=>hs;have fin:∀{σ':St} {H':Hp} {v:V} {u:Value},Inv (c7 CX P w K mg base N qual scope f bH A outer s H E) [] σ' H' s'->RelV v u->Q v H'->CE outer P w H s Q u s':=
  λ{σ' H' v u} J rv q=>⟨v,H',J.os,J.bare,J.base,J.aI,rv,q⟩
 cases fl with
 | ret u=>
  obtain⟨v,σ',H',J,rv,q⟩:=hs;exact fin J rv q
 | next=>
  obtain⟨σ',H',J,q⟩:=hs;exact fin (v:=V.non) (u:=Value.none) J rfl q
 | brk=>
  obtain⟨_,_,_,q⟩:=hs;exact False.elim q
 | cont=>
  obtain⟨_,_,_,q⟩:=hs;exact False.elim q
section
variable{X:Cx}{x:Str}{p pos:Pos}{e:Expr}{es:Ô}{t:TA}{id T:String}{r:List V->Hp->VK->Prop}
def xv(r:List V->Hp->VK->Prop)(t:TA):TE:=λσ H Q=>t σ H λvs H1=>r vs H1 Q
def Wc(hc:gO X (.builtin id) r)(hg:Gl X x)(hm:X.mg x=none)(hv:bootBuiltins x=some (.builtin id))(ha:PA X (e :: es) t)(hn:x ≠ "__name__":=by decide)(di:(x == ("__debug__" : Str))=false:=by decide)
  (he:starEach (e :: es) X.env=(false,eval e X.env) :: starEach es X.env:=by rfl) (o7:(backTo pos<|starEach es X.env).any (·.1)=false:=by rfl):PE X (.Call (.Name x p) (e :: es) [] pos) (xv r t):=by
 intro pins s σ H Q I h;refine JV<|oR I hg hm hv ?_ hn di;exact PyProof.Rows.callWith_builtin1 (aU (ha pos pins s σ H _ I h) λus s1 ⟨vs,H1,I1,r1,q1⟩=>hc pins s1 σ H1 vs us Q I1 r1 q1) he o7
def Wd(hc:gO X (.type T) r)(hg:Gl X x)(hm:X.mg x=none)(hv:bootBuiltins x=some (.type T))(ha:PA X (e :: es) t)(hn:x ≠ "__name__":=by decide)(di:(x == ("__debug__" : Str))=false:=by decide)
  (he:starEach (e :: es) X.env=(false,eval e X.env) :: starEach es X.env:=by rfl) (o7:(backTo pos<|starEach es X.env).any (·.1)=false:=by rfl):PE X (.Call (.Name x p) (e :: es) [] pos) (xv r t):=by
 intro pins s σ H Q I h;refine JV<|oR I hg hm hv ?_ hn di;exact JK (aU (ha pos pins s σ H _ I h) λus s1 ⟨vs,H1,I1,r1,q1⟩=>hc pins s1 σ H1 vs us Q I1 r1 q1) he o7
end
end L2
namespace HT
open PySem PyProof.Rows
section
open PySem.SeqAt
open PySem.AutoSeq1 (wpAny_loadPart')
open PySem.MeetsSeq PySem.MeetsSeq2 PySem.MeetsSeq3
end
section
variable{prog:Program}{w:World}{A:Around}{E:Î}{s:Shared}
def fU(n d:Nat):Option Int->Nat
 | none=>d
 | some v=>if v < 0 then(v+(n:Int)).toNat else min v.toNat n
def cN(n d:Nat):fU n d none=d:=rfl
def fw(n d k:Nat):fU n d (some (k:Int))=min k n:=by
 show(if(k:Int) < 0 then((k:Int)+(n:Int)).toNat else min (k:Int).toNat n)=min k n;rw[BK (by omega),Bo]
end
end HT
namespace L2
open PySem PySem.Spec PyProof.Rows
abbrev TO:=St->Hp->(Option Int->Hp->Prop)->Prop
def PO(X:Cx)(e:Option Expr)(t:TO):Prop:=
 ∀(pins:Ð) (s:Shared) (σ:St) (H:Hp) (Q:Option Int->Hp->Prop),Inv X pins σ H s->t σ H Q ->
  wpAny (model X.prog X.w) X.A (evalPart e X.env) (λu s'=>∃ o H',Inv X pins σ H' s'/\IsPart u o/\Q o H') X.xe s
def Wf:TO:=λ_ H Q=>Q none H
def Wg(t:TE):TO:=λσ H Q=>t σ H λx H1=>∃ i,x = .int i/\Q (some i) H1
section
variable{X:Cx}{e:Expr}{te:TE}{lo hi:Option Expr}{tl th:TO}{pos p2:Pos}
def Wh:PO X none Wf:=by
 intro pins s σ H Q I h;rw[evalPart_none];exact BP ⟨none,H,I,.none,h⟩
def Wi(h:PE X e te):PO X (some e) (Wg te):=by
 intro pins s σ H Q I hw;rw[evalPart_some];refine aU (h pins s σ H _ I hw) λu s1 ⟨x,H1,I1,r1,q1⟩=>?_;obtain⟨i,rfl,q⟩:=q1;obtain⟨t,rfl⟩:=r1;exact⟨some i,H1,I1,.int i t,q⟩
def A4(X:Cx)(r:V->Option Int->Option Int->Hp->VK->Prop):Prop:=
 ∀(pins:Ð) (s:Shared) (σ:St) (H:Hp) (x:V) (v vl vu:Value) (lo hi:Option Int) (sl:Addr) (Q:VK),Inv X pins σ H s->RelV x v->s.heap.IsSliceOf sl vl vu .none->IsPart vl lo->IsPart vu hi->r x lo hi H Q ->
  ∃ T id,typeLookup (.type T) "__getitem__" = pure (some<|.builtin id)/\s.TypeIs v T/\wpAny (model X.prog X.w) X.A (getItem v<|.ref sl) (EP X pins σ Q) X.xe s
def Wj(r:V->Option Int->Option Int->Hp->VK->Prop)(te:TE)(tl th:TO):TE:=λσ H Q=>te σ H λx H1=>tl σ H1 λl H2=>th σ H2 λu H3=>r x l u H3 Q
def Wk{r:V->Option Int->Option Int->Hp->VK->Prop}(hr:A4 X r)(he:PE X e te)(hl:PO X lo tl)(hu:PO X hi th):PE X (.Subscript e (.Slice lo hi none p2) pos) (Wj r te tl th):=by
 intro pins s σ H Q I h;refine Subscript_<|aU (he pins s σ H _ I h) λv s1 ⟨x,H1,I1,r1,q1⟩=>?_;refine wpAny_Slice<|aU (hl pins s1 σ H1 _ I1 q1) λvl s2 ⟨l,H2,I2,pl,q2⟩=>aU (hu pins s2 σ H2 _ I2 q2) λvu s3 ⟨u,H3,I3,pu,q3⟩=>?_;rw[evalPart_none];refine BP ?_;have I4:Inv X pins σ H3 {s3 with heap:=s3.heap.push {cls:= .type "slice",data:= .fields #[vl,vu,.none]}}:=I3.kept (t':=s3.toks) λb ob q=>Ai _ q;obtain⟨T,id,hT,ht,hg⟩:=hr pins {s3 with heap:=s3.heap.push {cls:= .type "slice",data:= .fields #[vl,vu,.none]}} σ H3 x v vl vu l u s3.heap.objs.size Q I4 r1 (Heap.IsSliceOf.new ..) pl pu q3;show wpAny (model X.prog X.w) X.A (subscriptTail e (.Slice lo hi none p2) v<|.ref s3.heap.objs.size) (EP X pins σ Q) X.xe {s3 with heap:=s3.heap.push {cls:= .type "slice",data:= .fields #[vl,vu,.none]}};exact tail_any (ops:=[.ref s3.heap.objs.size,v]) ht hT hg<|by with_unfolding_all rfl
def bO(xs:List V)(lo hi:Option Int):List V:=(xs.drop<|HT.fU xs.length 0 lo).take<|HT.fU xs.length xs.length hi - HT.fU xs.length 0 lo
def Wl(xs:List V)(lo hi:Option Int):(bO xs lo hi).length<=xs.length:=by
 unfold bO;rw[Bg,Cj];omega
end
def nh(n:Nat)(i:Int):Option Nat:=if 0<=i then(if i < n then some i.toNat else none)else if -(n:Int)<=i then some (i+n).toNat else none
def eF{α:Type}(xs:List α)(i:Int):Option α:=(nh xs.length i).bind λj=>xs[j]?
def Wm{n:Nat}{i:Int}{j:Nat}(h:nh n i=some j):seqIndex? i n=some j/\j < n/\-(n:Int)<=i/\i < n:=by
 unfold nh at h
 by_cases h0:0<=i
 ·rw[BL h0]at h
  by_cases h1:i < n
  ·rw[BL h1]at h;have e:i.toNat=j:=Option.some.inj h;exact⟨by rw[seqIndex_of h0 h1,e],by omega,by omega,h1⟩
  ·rw[BK h1]at h;cases h
 ·rw[BK h0]at h
  by_cases h1:-(n:Int)<=i
  ·rw[BL h1]at h;have e:(i+n).toNat=j:=Option.some.inj h;exact⟨by rw[seqIndex_neg (by omega) h1,e],by omega,h1,by omega⟩
  ·rw[BK h1]at h;cases h
theorem A5{α:Type}{xs:List α}{i:Int}{v:α}(h:eF xs i=some v):∃ j,seqIndex? i xs.length=some j/\xs[j]?=some v/\j < xs.length/\-(xs.length:Int)<=i/\i < xs.length:=by
 unfold eF at h;cases e:nh xs.length i with
 | none=>rw[e]at h;cases h
 | some j=>
  rw[e]at h;obtain⟨h1,h2,h3,h4⟩:=Wm e;exact⟨j,h1,h,h2,h3,h4⟩
def rq{α:Type}{xs:List α}{j:Nat}{v:α}(h:xs[j]?=some v):eF xs (j:Int)=some v:=by
 have hj:j < xs.length:=(Ac.mp h).1;have e:nh xs.length (j:Int)=some j:=by
  unfold nh;rw[BL (by omega),BL<|by omega];simp
 unfold eF;rw[e];exact h
def A6{α:Type}(xs:List α)(v:α):eF (xs++[v]) (-1)=some v:=by
 have hl:(xs++[v]).length=xs.length+1:=by simp
 have e:nh (xs++[v]).length (-1)=some xs.length:=by
  unfold nh;rw[hl,BK (by decide),BL<|by omega]
  congr 1
  omega
 unfold eF;rw[e];show(xs++[v])[xs.length]?=some v;simp
def MO(b:Expr):Prop:=∀ o i,subscripted b false o i=operate [o,i] (getItem o i)
def uc(X:Cx)(r:R2):Prop:=
 ∀(value slice:Expr) (pins:Ð) (s:Shared) (σ:St) (H:Hp) (x y:V) (v u:Value) (Q:VK),Inv X pins σ H s->RelV x v->RelV y u->r x y H Q ->
  subscripted slice false v u=operate [v,u] (getItem v u)->wpAny (model X.prog X.w) X.A (subscriptTail value slice v u) (EP X pins σ Q) X.xe s
def A7(X:Cx)(id:String)(r:V->List V->Hp->VK->Prop):Prop:=
 ∀(pins:Ð) (s:Shared) (σ:St) (H:Hp) (x:V) (xs:List V) (v:Value) (us:Ó) (Q:VK),Inv X pins σ H s->RelV x v->aA xs us->r x xs H Q ->
  wpAny (model X.prog X.w) X.A (call (.builtin id)<|v :: us) (EP X pins σ Q) X.xe s
section
variable{X:Cx}{a b:Expr}{ta tb:TE}{pos:Pos}
def Wn{r:R2}(hr:uc X r)(ha:PE X a ta)(hb:PE X b tb)(hs:MO b):PE X (.Subscript a b pos) (xr r ta tb):=by
 intro pins s σ H Q I h;exact Subscript_<|oX ha hb I h λv u s2 x y H2 I2 rx ry q=>hr a b pins s2 σ H2 x y v u Q I2 rx ry q<|hs _ _
def A8(K:PySem.W.Frag):R2:=λx y H Q=>∃ p xs i v,x = .ref p/\y = .int i/\ak K H p xs/\eF xs i=some v/\Q v H
def A9(K:PySem.W.Frag):R2:=λx y H Q=>∃ p xs i v,x = .ref p/\y = .int i/\aP K H p xs/\eF xs i=some v/\Q v H
def BA:R2:=λx y H Q=>∃ z i c,x = .str z/\y = .int i/\z.length<=sizeLine/\eF z.cps.toList i=some c/\Q (.str ⟨#[c]⟩) H
def dq:uc X (A8 X.K):=by
 intro value slice pins s σ H x y v u Q I rx ry h hs;obtain⟨p,xs,i,z,rfl,rfl,hq,he,q⟩:=h;cases rx;obtain⟨t,rfl⟩:=ry;obtain⟨its,r,pl,hz⟩:=I.list hq;obtain⟨j,h1,h2,h3,h4,h5⟩:=A5 he;obtain⟨w,ew,e9⟩:=r.get h2;have hl:=r.length;have hn:=t8;have fin:EP X pins σ Q w s:=⟨z,H,I,e9,q⟩
 by_cases h0:0<=i
 ·have hj:i.toNat=j:=by
   rw[seqIndex_of h0 h5]at h1;exact Option.some.inj h1
  exact item_listR pl.isList h0 (by omega) (by rw[hj];simpa using ew) fin hs
 ·have hj:(i+(its.toArray.size:Int)).toNat=j:=by
   rw[seqIndex_neg (by omega) h4]at h1;rw[Ay,<- hl];exact Option.some.inj h1
  exact subscriptTail_builtinR (x:=w) pl.isList.typeIs slot_list_getitem.lookup
   (wpAny_getItem_list_neg (Q:=λr s'=>r=w/\EP X pins σ Q r s') pl.isList (by omega) (by rw[Ay] <;> omega) (by omega) (by rw[hj];simpa using ew) ⟨rfl,fin⟩) hs
def bK:uc X (A9 X.K):=by
 intro value slice pins s σ H x y v u Q I rx ry h hs;obtain⟨p,xs,i,z,rfl,rfl,hq,he,q⟩:=h;cases rx;obtain⟨t,rfl⟩:=ry;obtain⟨its,r,pl,hz⟩:=I.tuple hq;obtain⟨j,h1,h2,h3,h4,h5⟩:=A5 he;obtain⟨w,ew,e9⟩:=r.get h2;have hl:=r.length;have hn:=t8;have fin:EP X pins σ Q w s:=⟨z,H,I,e9,q⟩;exact subscriptTail_builtinR (x:=w) pl.typeIs slot_tuple_getitem.lookup
  (getItem_tuple (j:=j) (Q:=λr s'=>r=w/\EP X pins σ Q r s') pl (by omega) (by omega) (by rw[Ay,<- hl];exact h1) (by simpa using ew) ⟨rfl,fin⟩) hs
def MQ:uc X BA:=by
 intro value slice pins s σ H x y v u Q I rx ry h hs;obtain⟨z,i,c,rfl,rfl,hz,he,q⟩:=h;obtain⟨t,rfl⟩:=rx;obtain⟨t',rfl⟩:=ry;obtain⟨j,h1,h2,h3,h4,h5⟩:=A5 he;have hl:z.cps.toList.length=z.length:=by simp[Str.length]
 rw[hl]at h1 h4 h5;have hn:=t8;exact tail_any (typeIs_str s z t) slot_str_getitem.lookup (getItem_str (c:=c) (by
  have e1:decide (i < -(2 ^ 63:Int))=false:=BR (by omega);have e2:decide (i>=2 ^ 63)=false:=BR (by omega);rw[e1,e2,Bool.or_false]) (by rw[h1];simpa using h2) ⟨.str ⟨#[c]⟩,H,I.tok _,⟨_,rfl⟩,q⟩) hs
def Wo(lo hi:Option Int)(n:Nat):(sliceBounds lo hi none n).1=((HT.fU n 0 lo:Nat):Int)/\(sliceBounds lo hi none n).2.1=((HT.fU n n hi:Nat):Int)/\(sliceBounds lo hi none n).2.2=1:=by
 refine⟨?_,?_,rfl⟩
 ·cases lo with
  | none=>simp[sliceBounds,HT.fU]
  | some i=>
   simp only[sliceBounds,HT.fU,Option.getD_none,show(1:Int) > 0 by decide,DP]
   by_cases h:i < 0
   ·simp only[h,DP] <;> omega
   ·simp only[h,CT] <;> omega
 ·cases hi with
  | none=>simp[sliceBounds,HT.fU]
  | some i=>
   simp only[sliceBounds,HT.fU,Option.getD_none,show(1:Int) > 0 by decide,DP]
   by_cases h:i < 0
   ·simp only[h,DP] <;> omega
   ·simp only[h,CT] <;> omega
def Wp(its:Ó)(lo hi:Option Int):slicePick its.toArray lo hi none=((its.drop<|HT.fU its.length 0 lo).take<|HT.fU its.length its.length hi - HT.fU its.length 0 lo).toArray:=by
 obtain⟨h1,h2,h3⟩:=Wo lo hi its.toArray.size;unfold slicePick;rw[h1,h2,h3];simp only[sliceRange_one,pick_run,Ay] <;> rfl
def BD(K:PySem.W.Frag):V->Option Int->Option Int->Hp->VK->Prop:=λx lo hi H Q=>∃ a xs,x = .ref a/\ak K H a xs/\∀ p,H p=none->Q (.ref p) (upd H p<|.lst<|bO xs lo hi)
def rz:A4 X (BD X.K):=by
 intro pins s σ H x v vl vu lo hi sl Q I rx hs pl pu h;obtain⟨a,xs,rfl,hx,q⟩:=h;cases rx;obtain⟨its,r,ht,hz⟩:=I.list hx;have hlen:=r.length;refine⟨"list",_,slot_list_getitem.lookup,ht.isList.typeIs,?_⟩;refine wpAny_getItem_list_slice ht.isList hs pl pu .none (by simp) ?_ (by rw[Ay] <;> omega);rw[Wp,<- hlen];refine⟨.ref s.heap.objs.size,_,I.laid (t':=s.toks) (o:= .lst<|bO xs lo hi) (λb ob q=>Ai _ q) (Ao _) ?_,rfl,q _<|I.aI.fresh<|Ao _⟩;exact⟨Bq (Wl xs lo hi) hz,_,0,(r.drop<|HT.fU xs.length 0 lo).take<|HT.fU xs.length xs.length hi - HT.fU xs.length 0 lo,Av _ rfl⟩
def j5:V->Bool
 | .non=>true
 | .bl _=>true
 | .int _=>true
 | .str _=>true
 | _=>false
def cK:V->V->Bool
 | .non,.non=>true
 | .bl a,.bl b=>a == b
 | .bl a,.int b=>(if a then 1 else 0) == b
 | .int a,.bl b=>a == (if b then 1 else 0)
 | .int a,.int b=>a == b
 | .str a,.str b=>a == b
 | _,_=>false
theorem MR{A:Around}{s:Shared}{y x:V}{u v:Value}(ry:RelV y u)(rx:RelV x v)(fy:j5 y=true)(fx:j5 x=true):SeqAt.EqAt A s u v (cK y x):=by
 cases y with
 | non=>
  cases ry;cases x with
  | non=>cases rx;exact SeqAt.EqAt.same _
  | bl b=>cases rx;exact SeqAt.EqAt.none_bool b
  | int b=>obtain⟨t,rfl⟩:=rx;exact SeqAt.EqAt.none_int b t
  | str b=>obtain⟨t,rfl⟩:=rx;exact SeqAt.EqAt.none_str b t
  | _=>exact absurd (show false=true from fx) Ax
 | bl a=>
  cases ry;cases x with
  | non=>cases rx;exact SeqAt.EqAt.bool_none a
  | bl b=>cases rx;exact SeqAt.EqAt.bool_bool a b
  | int b=>obtain⟨t,rfl⟩:=rx;exact SeqAt.EqAt.bool_int a b t
  | str b=>obtain⟨t,rfl⟩:=rx;exact SeqAt.EqAt.bool_str a b t
  | _=>exact absurd (show false=true from fx) Ax
 | int a=>
  obtain⟨t',rfl⟩:=ry;cases x with
  | non=>cases rx;exact SeqAt.EqAt.int_none a t'
  | bl b=>cases rx;exact SeqAt.EqAt.int_bool a t' b
  | int b=>obtain⟨t,rfl⟩:=rx;exact SeqAt.EqAt.int_int a t' b t
  | str b=>obtain⟨t,rfl⟩:=rx;exact SeqAt.EqAt.int_str a t' b t
  | _=>exact absurd (show false=true from fx) Ax
 | str a=>
  obtain⟨t',rfl⟩:=ry;cases x with
  | non=>cases rx;exact SeqAt.EqAt.str_none a t'
  | bl b=>cases rx;exact SeqAt.EqAt.str_bool a t' b
  | int b=>obtain⟨t,rfl⟩:=rx;exact SeqAt.EqAt.str_int a t' b t
  | str b=>obtain⟨t,rfl⟩:=rx;exact SeqAt.EqAt.str_str a t' b t
  | _=>exact absurd (show false=true from fx) Ax
 | _=>exact absurd (show false=true from fy) Ax
def fV(x:V)(u:Value):Bool:=match u with
 | .none=>cK .non x
 | .bool b=>cK (.bl b) x
 | .int i _=>cK (.int i) x
 | .str z _=>cK (.str z) x
 | _=>false
theorem MS{x y:V}{u:Value}(r:RelV y u)(f:j5 y=true):fV x u=cK y x:=by
 cases y with
 | non=>cases r;rfl
 | bl b=>cases r;rfl
 | int i=>obtain⟨t,rfl⟩:=r;rfl
 | str z=>obtain⟨t,rfl⟩:=r;rfl
 | _=>exact absurd (show false=true from f) Ax
theorem ud{x:V}:∀{xs:List V} {us:Ó},aA xs us->xs.all j5=true->us.any (fV x)=xs.any λy=>cK y x
 | _,_,.nil,_=>rfl
 | y :: xs,u :: us,.cons r t,f=>by
  rw[Gy,By]at f;rw[Fx,Fx,MS r f.1,ud t f.2]
theorem rA{A:Around}{s:Shared}{x:V}{v:Value}(rx:RelV x v)(fx:j5 x=true):∀{xs:List V} {us:Ó},aA xs us->xs.all j5=true->∀ u∈us,SeqAt.EqAt A s u v<|fV x u
 | _,_,.nil,_=>λu hu=>by cases hu
 | y :: xs,u :: us,.cons r t,f=>λu' hu=>by
  rw[Gy,By]at f
  rcases Ak.mp hu with rfl | hu
  ·rw[MS r f.1];exact MR r rx f.1 fx
  ·exact rA rx fx t f.2 u' hu
def j6(x:V)(xs:List V):Bool:=xs.any λy=>cK y x
def MT(K:PySem.W.Frag)(neg:Bool):R2:=λx y H Q=>∃ p xs,y = .ref p/\(ak K H p xs\/aP K H p xs)/\j5 x=true/\xs.all j5=true/\Q (.bl (if neg then !j6 x xs else j6 x xs)) H
def k4:cV X (compareOp .In) (MT X.K false):=by
 intro pins s σ H x y v u Q I rx ry h;obtain⟨p,xs,rfl,hq,fx,fs,q⟩:=h;cases ry
 rcases hq with hq | hq
 ·obtain⟨its,r,pl,hz⟩:=I.list hq;refine SeqAt.in_listAt (fV x) pl.isList (λw hw=>rA rx fx r fs w<|by simpa using hw) ⟨.bl _,H,I,rfl,?_⟩;rw[show its.toArray.any (fV x)=its.any (fV x) by simp,ud r fs];exact q
 ·obtain⟨its,r,pl,hz⟩:=I.tuple hq;refine SeqAt.in_tupleAt (fV x) pl (λw hw=>rA rx fx r fs w<|by simpa using hw) ⟨.bl _,H,I,rfl,?_⟩;rw[show its.toArray.any (fV x)=its.any (fV x) by simp,ud r fs];exact q
def xx:cV X (compareOp .NotIn) (MT X.K true):=by
 intro pins s σ H x y v u Q I rx ry h;obtain⟨p,xs,rfl,hq,fx,fs,q⟩:=h;cases ry
 rcases hq with hq | hq
 ·obtain⟨its,r,pl,hz⟩:=I.list hq;refine SeqAt.notIn_listAt (fV x) pl.isList (λw hw=>rA rx fx r fs w<|by simpa using hw) ⟨.bl _,H,I,rfl,?_⟩;rw[show its.toArray.any (fV x)=its.any (fV x) by simp,ud r fs];exact q
 ·obtain⟨its,r,pl,hz⟩:=I.tuple hq;refine SeqAt.notIn_tupleAt (fV x) pl (λw hw=>rA rx fx r fs w<|by simpa using hw) ⟨.bl _,H,I,rfl,?_⟩;rw[show its.toArray.any (fV x)=its.any (fV x) by simp,ud r fs];exact q
def dR:gO X (.builtin "len") (λxs H Q=>∃ p ys,xs=[.ref p]/\(ak X.K H p ys\/aP X.K H p ys)/\Q (.int ys.length) H):=by
 intro pins s σ H xs us Q I r h;obtain⟨p,ys,rfl,hq,q⟩:=h;obtain⟨u,rfl,rx⟩:=vals1 r;cases rx;have hn:=t8
 rcases hq with hq | hq
 ·obtain⟨its,r',pl,hz⟩:=I.list hq;have hlen:=r'.length;exact Calls.call_len_list pl.isList (by simp only[Ay] <;> omega) ⟨.int ys.length,H,I.tok _,⟨s.toks+1,by rw[Ay,hlen]⟩,q⟩
 ·obtain⟨its,r',pl,hz⟩:=I.tuple hq;have hlen:=r'.length;exact len_tuple pl (by simp only[Ay] <;> omega) ⟨.int ys.length,H,I.tok _,⟨s.toks+1,by rw[Ay,hlen]⟩,q⟩
def MU:gO X (.type "list") (λxs H Q=>∃ p ys,xs=[.ref p]/\(ak X.K H p ys\/aP X.K H p ys)/\∀ l,H l=none->Q (.ref l) (upd H l<|.lst ys)):=by
 intro pins s σ H xs us Q I r h;obtain⟨p,ys,rfl,hq,q⟩:=h;obtain⟨u,rfl,rx⟩:=vals1 r;cases rx;have fin:∀(its:Ó),aA ys its->ys.length<=sizeLine->∀(h':Heap) (c':Nat),(∀ b o',s.heap.get? b=some o'->h'.get? b=some o') ->
   h'.get? s.heap.objs.size=some {cls:= .type "list",dict:=none,data:= .seq its.toArray c',slots:=#[]}->EP X pins σ Q (.ref s.heap.objs.size) {s with heap:=h'}:=λits r' hz h' c' kp e=>
  ⟨.ref s.heap.objs.size,_,I.laid (t':=s.toks) kp (Ao _) (show aB X.prog X.w _ h' _ (.lst ys) from⟨hz,its,c',r',e⟩),rfl,q _<|I.aI.fresh<|Ao _⟩
 rcases hq with hq | hq
 ·obtain⟨its,r',pl,hz⟩:=I.list hq;have hlen:=r'.length;obtain⟨o,ho,hc,n,hd⟩:=pl.isList;exact call_list_seq p (.inl rfl) ho hc hd (λh' c' kp e=>fin its r' hz h' c' kp e)<|by simp only[Ay] <;> omega
 ·obtain⟨its,r',pl,hz⟩:=I.tuple hq;have hlen:=r'.length;obtain⟨o,ho,hc,n,hd⟩:=pl;exact call_list_seq p (.inr rfl) ho hc hd (λh' c' kp e=>fin its r' hz h' c' kp e)<|by simp only[Ay] <;> omega
def o9(K:PySem.W.Frag)(T:String)(x:V)(H:Hp):Prop:=match x with
 | .str _=>T = "str"
 | .int _=>T = "int"
 | .ref p=>(T = "list"/\∃ xs,ak K H p xs)\/(T = "tuple"/\∃ o,K.lookup p=some o/\o.cls = .type "tuple"/\o.dict=none) \/
   (T = "dict"/\((∃ kvs,H p=some (.dK kvs))\/∃ kvs,H p=some (.dT kvs)))\/(T = "set"/\∃ S n,H p=some (.set S n))
 | _=>False
theorem Wq{pins:Ð}{σ:St}{H:Hp}{s:Shared}{T:String}{x:V}{v:Value}(I:Inv X pins σ H s)(r:RelV x v)(ty:o9 X.K T x H) :
  s.TypeIs v T/\∀ a,v = .ref a->∃ ob,s.heap.get? a=some ob/\ob.dict=none:=by
 cases x with
 | str z=>
  obtain⟨t,rfl⟩:=r;cases (show T = "str" from ty);exact⟨typeIs_str s z t,λ_ e=>nomatch e⟩
 | int i=>
  obtain⟨t,rfl⟩:=r;cases (show T = "int" from ty);exact⟨typeIs_int s i t,λ_ e=>nomatch e⟩
 | ref p=>
  cases r
  rcases ty with ⟨rfl,xs,hq⟩ | ⟨rfl,o,hk,hc,hd⟩ | ⟨rfl,hk⟩ | ⟨rfl,S,n,hk⟩
  ·obtain⟨its,_,pl,_⟩:=I.list hq;refine⟨pl.isList.typeIs,λa e=>?_⟩;cases e;obtain⟨o,n,e,c,hd,_⟩:=pl;exact⟨o,e,hd⟩
  ·refine⟨⟨o,I.gd p o hk,hc⟩,λa e=>?_⟩;cases e;exact⟨o,I.gd _ o hk,hd⟩
  ·have z:∃ o,s.heap.get? p=some o/\o.ExactDict:=by
    rcases hk with ⟨kvs,hk⟩ | ⟨kvs,hk⟩
    ·obtain⟨_,_,_,_,o,_,_,e,ex,_⟩:=I.aI p _ hk;exact⟨o,e,ex⟩
    ·obtain⟨_,_,_,_,o,_,_,e,ex,_⟩:=I.aI p _ hk;exact⟨o,e,ex⟩
   obtain⟨o,e,ex⟩:=z;refine⟨⟨o,e,ex.1⟩,λa e2=>?_⟩;cases e2;exact⟨o,e,ex.2.1⟩
  ·obtain⟨o,_,_,_,e,ex,_⟩:=I.aI p _ hk;refine⟨⟨o,e,ex.1⟩,λa e2=>?_⟩;cases e2;exact⟨o,e,ex.2.1⟩
 | _=>exact False.elim ty
def Wr(K:PySem.W.Frag)(T:String)(r:V->List V->Hp->VK->Prop)(to:TE)(t:TA):TE:=λσ H Q=>to σ H λx H1=>o9 K T x H1/\t σ H1 λxs H2=>r x xs H2 Q
variable{o e:Expr}{es:Ô}{to:TE}{t:TA}{name:Str}{apos fz:Pos}{T id:String}{r:V->List V->Hp->VK->Prop}
def BE(pa:PlainAttrs T)(slot:Slot T name id)(pc:typeOf (.builtin id)=pure (.type "method_descriptor"))(hm:A7 X id r)(ho:PE X o to)(ha:PA X (e :: es) t)
  (bW:attributeBase o name X.env (eval o X.env)=eval o X.env:=by rfl)
  (cm : ((backTo fz<|starEach (e :: es) X.env).all (λx => !x.1) && (backToKw fz<|keywordEach [] X.env).all (λx => x.1.isSome)
   && decide ((e :: es).length+([]:List Keyword).length+(if([]:List Keyword).isEmpty then 0 else 1) < 30))=true:=by rfl)
  (hline:(apos.endLine == fz.line)=true:=by rfl) (hs:starEach (e :: es) X.env=(false,eval e X.env) :: starEach es X.env:=by rfl) (bM:(backTo fz<|starEach es X.env).any (·.1)=false:=by rfl) :
  PE X (.Call (.Attribute o name apos) (e :: es) [] fz) (Wr X.K T r to t):=by
 intro pins s σ H Q I h;refine wpAny_Call_method_late bW cm hline rfl (aU (ho pins s σ H _ I h) λv s1 ⟨x,H1,I1,r1,ty,q1⟩=>?_);obtain⟨h1,h2⟩:=Wq I1 r1 ty;refine⟨T,id,pa,slot,pc,h1,h2,?_⟩;have hA:=ha fz pins s1 σ H1 _ I1 q1;rw[hs]at hA ⊢;refine KJ (by show(false || (backTo fz<|starEach es X.env).any (·.1))=false;rw[bM] <;> rfl)<|MK ?_;exact aU hA λus s2 ⟨vs,H2,I2,r2,q2⟩=>hm pins s2 σ H2 x vs v us Q I2 r1 r2 q2
end
def pf(X:Cx)(id:String)(r:V->List V->Hp->VK->Prop):Prop:=
 ∀(pins:Ð) (s:Shared) (σ:St) (H:Hp) (x:V) (xs:List V) (v:Value) (us:Ó) (Q:VK),Inv X pins σ H s->RelV x v->aA xs us->r x xs H Q ->
  wpAny (model X.prog X.w) X.A (call (.builtin id)<|v :: us) (EP X pins σ Q) X.xe s
theorem aA.hd{x:V}{xs:List V}{us:Ó}(h:aA (x :: xs) us):∃ u vs,us=u :: vs/\RelV x u/\aA xs vs:=by
 cases h with
 | cons r t=>exact⟨_,_,rfl,r,t⟩
def aA.nl{us:Ó}(h:aA [] us):us=[]:=by
 cases h;rfl
def aA.one{x:V}{us:Ó}(h:aA [x] us):∃ u,us=[u]/\RelV x u:=by
 obtain⟨u,vs,rfl,r,t⟩:=h.hd;rw[t.nl];exact⟨u,rfl,r⟩
def aA.two{x y:V}{us:Ó}(h:aA [x,y] us):∃ u v,us=[u,v]/\RelV x u/\RelV y v:=by
 obtain⟨u,vs,rfl,r,t⟩:=h.hd;obtain⟨v,ws,rfl,q,t⟩:=t.hd;rw[t.nl];exact⟨u,v,rfl,r,q⟩
theorem aA.zero:∀{us:Ó},aA [] us->us=[]
 | _,.nil=>rfl
theorem aA.eraseIdx:∀{xs:List V} {us:Ó} (i:Nat),aA xs us->aA (xs.eraseIdx i) (us.eraseIdx i)
 | _,_,_,.nil=> .nil
 | _,_,0,.cons _ t=>t
 | _,_,i+1,.cons r t=> .cons r<|aA.eraseIdx i t
theorem MV{α:Type}:∀(l:List α) (i:Nat),(l.eraseIdx i).length<=l.length
 | [],_=>Ao _
 | _ :: _,0=>Em _
 | _ :: r,i+1=>QW<|MV r i
section
variable{X:Cx}{pins:Ð}{σ:St}{H:Hp}{s:Shared}{l b:Addr}{xs ys zs:List V}
def Inv.lS{its its':Ó}{n:Nat}{f:Array Value->Array Value}{t':Nat}(I:Inv X pins σ H s)(hH:H l=some (.lst xs))
  (e:s.heap.get? l=some {cls:= .type "list",data:= .seq its.toArray n}) (hf:f its.toArray=its'.toArray) (hv:aA ys its') (hz:ys.length<=sizeLine) :
  Inv X pins σ (upd H l<|.lst ys) {s with heap:=s.heap.update l<|Obj.mapSeq f,toks:=t'}:=by
 have q:=PySem.IsL.update e f;rw[hf]at q;refine I.write (x:=l) (e:=l) (by rw[hH];exact trivial) (.inl rfl) (λb' u hb hu=>(Cg s.heap (Obj.mapSeq f)<|CK hb).trans hu) ⟨_,q⟩ ?_;exact⟨hz,its',_,hv,q⟩
def Inv.uf{its:Ó}{t':Nat}(I:Inv X pins σ H s)(hv:aA ys its)(hz:ys.length<=sizeLine) :
  Inv X pins σ (upd H s.heap.objs.size<|.lst ys) {s with heap:=s.heap.push {cls:= .type "list",data:= .seq its.toArray},toks:=t'}:=
 I.laid (λ_ _ q=>Ai _ q) (Ao _) ⟨hz,its,0,hv,Av _ rfl⟩
def Inv.fresh(I:Inv X pins σ H s):H s.heap.objs.size=none:=I.aI.fresh<|Ao _
def Inv.g9(I:Inv X pins σ H s)(hH:H l=some (.lst xs)):xs.length<=sizeLine/\∃(its:Ó) (n:Nat),aA xs its/\xs.length=its.length/\s.heap.get? l=some {cls:= .type "list",data:= .seq its.toArray n}:=by
 obtain⟨z,its,n,r,e⟩:=I.aI l _ hH;exact⟨z,its,n,r,r.length,e⟩
def Ws{n:Nat}(h:n<=sizeLine):Builtin.List.listTooLong n=false:=by
 unfold Builtin.List.listTooLong;exact BR<|by omega
end
section
variable{X:Cx}
def Wt:V->List V->Hp->VK->Prop:=λx vs H Q=>∃ l xs y,x = .ref l/\vs=[y]/\H l=some (.lst xs)/\xs.length < sizeLine/\Q .non (upd H l<|.lst<|xs++[y])
def MX:pf X "list.append" Wt:=by
 intro pins s σ H x vs v us Q I rx rv h;obtain⟨l,xs,y,rfl,rfl,hH,hz,q⟩:=h;cases rx;obtain⟨u,rfl,ru⟩:=rv.one;obtain⟨z,its,n,r,hl,e⟩:=I.g9 hH;refine MN F.slot_list_append ⟨_,e,rfl⟩ F.entry_list_append (F.args_list_append_2 _ _) (PySem.list_append l its.toArray n u<|by rw[Ay];omega) ⟨e,?_⟩;refine⟨.non,_,I.lS (its':=its++[u]) hH e (by simp) (r.append<|.cons ru .nil) ?_,rfl,q⟩;rw[Ad,Cw];omega
def Wu:V->List V->Hp->VK->Prop:=λx vs H Q=>∃ l b xs zs,x = .ref l/\vs=[.ref b]/\H l=some (.lst xs)/\H b=some (.lst zs)/\xs.length+zs.length<=sizeLine/\Q .non (upd H l<|.lst<|xs++zs)
def Wv:pf X "list.extend" Wu:=by
 intro pins s σ H x vs v us Q I rx rv h;obtain⟨l,b,xs,zs,rfl,rfl,hH,hB,hz,q⟩:=h;cases rx;obtain⟨u,rfl,ru⟩:=rv.one;cases ru;obtain⟨z,its,n,r,hl,e⟩:=I.g9 hH;obtain⟨z2,dE,n2,r2,j7,e2⟩:=I.g9 hB;have hsz:its.toArray.size+dE.toArray.size<=sizeLine:=by rw[Ay,Ay];omega
 have ug:¬(!its.toArray.isEmpty && Builtin.List.listTooLong (its.toArray.size+dE.toArray.size))=true:=by
  rw[Ws hsz,Gw];exact Ax
 refine MN F.slot_list_extend ⟨_,e,rfl⟩ F.entry_list_extend (F.args_list_extend_2 _ _)
  (AutoSeq1.list_extend_list_list_0 l its.toArray n b dE.toArray n2 ug (by rw[Ay];omega)<|by omega) ⟨e,e2,?_⟩
 refine⟨.non,_,I.lS (its':=its++dE) hH e (by simp) (r.append r2) ?_,rfl,q⟩;rw[Ad];omega
def Ww:V->List V->Hp->VK->Prop:=λx vs H Q=>∃ l xs i k y,x = .ref l/\vs=[.int i]/\H l=some (.lst xs)/\-(2 ^ 63)<=i/\i < 2 ^ 63/\seqIndex? i xs.length=some k/\xs[k]?=some y/\Q y (upd H l<|.lst<|xs.eraseIdx k)
def Wx:pf X "list.pop" Ww:=by
 intro pins s σ H x vs v us Q I rx rv h;obtain⟨l,xs,i,k,y,rfl,rfl,hH,h1,h2,hk,hy,q⟩:=h;cases rx;obtain⟨u,rfl,ru⟩:=rv.one;obtain⟨t,rfl⟩:=ru;obtain⟨z,its,n,r,hl,e⟩:=I.g9 hH;obtain⟨w,hw,e9⟩:=r.get hy;refine MN F.slot_list_pop ⟨_,e,rfl⟩ F.entry_list_pop (F.args_list_pop_2 _ _)
  (MeetsSeq.list_pop_at l its.toArray n i t k w (fitsIndex_both h1 h2) (by rw[Ay,<- hl];exact hk) (by rw[<- Cd];exact hw)<|by rw[Ay];omega) ⟨e,?_⟩
 refine⟨y,_,I.lS (its':=its.eraseIdx k) hH e ?_ (r.eraseIdx k) ?_,e9,q⟩
 ·show its.toArray.eraseIdxIfInBounds k=(its.eraseIdx k).toArray;rw[List.eraseIdxIfInBounds_toArray]
 ·have:=MV xs k;omega
def uh:R2:=λx y H Q=>∃ l b xs zs,x = .ref l/\y = .ref b/\H l=some (.lst xs)/\H b=some (.lst zs)/\xs.length+zs.length<=sizeLine/\∀ p,H p=none->Q (.ref p) (upd H p<|.lst<|xs++zs)
def rB:cV X (binaryOp .Add) uh:=by
 intro pins s σ H x y v u Q I rx ry h;obtain⟨l,b,xs,zs,rfl,rfl,hH,hB,hz,q⟩:=h;cases rx;cases ry;obtain⟨z,its,n,r,hl,e⟩:=I.g9 hH;obtain⟨z2,dE,n2,r2,j7,e2⟩:=I.g9 hB;refine PySem.P.add_list e e2 ?_ (by rw[Ay,Ay];omega);have ea:its.toArray++dE.toArray=(its++dE).toArray:=by simp
 rw[ea];exact⟨.ref _,_,I.uf (t':=s.toks) (r.append r2) (by rw[Ad];omega),rfl,q _ I.fresh⟩
end
section
variable{prog:Program}{w:World}{A:Around}{E:Î}{s:Shared}
end
section
variable{X:Cx}
end
end L2
namespace MY
open PySem PySem.W PySem.Calls PyProof.Rows
theorem Wy{P:Params}{h:Heap}:∀(ns:List Int) (vs:Ó),WellAll P h vs (ns.map WData.int)->IntsAre vs ns:=by
 intro ns
 induction ns with
 | nil=>
  intro vs w;rw[List.map_nil]at w;cases w;exact .nil
 | cons n ns ih=>
  intro vs w;rw[Bj]at w;cases w with
  | cons a b=>
   cases a;exact .cons _ _<|ih _ b
theorem Wz{l:OpenLaw}{n:Nat}(hn:l.most=some n){P:Params}{h:Heap}{args:List WData}{vals:Ó}
  (lT:l.row.toRowW.claim.pre args=true) (BF:WellAll P h vals args) :
  ∃ a vs ns,vals=[Value.ref a]/\args=[WData.list<|ns.map WData.int]/\h.get? a=some {cls:= .type "list",data:= .seq vs.toArray}/\IntsAre vs ns/\ns.length<=n:=by
 have WB:WShape.hasAll [] args [.list .int]=true:=(pre_splitW lT).1;have hc:l.pre.holds [] {args:=args}=true:=(pre_splitW lT).2;obtain⟨d,r,rfl,h1,h2⟩:=hasAllW_cons WB;obtain rfl:=hasAllW_nil h2;obtain⟨xs,rfl,h3⟩:=hasW_list h1;obtain⟨ns,rfl⟩:=items_int h3;have hlen:ns.length<=n:=by
  unfold OpenLaw.pre at hc;have h4:(WTm.not<|.lt (.lit<|.int (n:Int))<|.len<|.arg 0).holds [] {args:=[.list<|ns.map .int]}=true:=by
   have h4:=(holds_andW hc).1;rw[hn]at h4;exact h4
  have h5:=condW_of h4<|w_not<|w_lt w_lit<|w_len_list<|w_arg rfl;rw[Aa]at h5;refine Nat.le_of_not_lt λq=>?_;have q':(n:Int) < ((ns.length:Nat):Int):=by omega
  first
   | (rw[BW q']at h5;exact absurd h5<|by decide)
   | (simp at h5;omega)
 cases BF with
 | cons w1 w2=>
  cases w2;cases w1 with
  | list ho BG=>exact⟨_,_,ns,rfl,rfl,ho,Wy ns _ BG,hlen⟩
def WC(l:OpenLaw)(args:List WData):l.row.toRowW.claim.post args (.bool true) args=true:=
 postW_of (r:=l.row.toRowW) (X:=(true == true))
  (show WShape.has [] (.bool true) .bool=true by first | rfl | decide | simp[WShape.has,WShape.arms,WShape.armsAll])
  (show(WTm.eq .res<|.lit<|.bool true).value [] {args:=args,res:=some<|.bool true,after:=args}=some (.bool<|true == true)from w_eq_bool (w_res rfl) w_lit) rfl
def gj{l:OpenLaw}{n:Nat}{q:Program}{loose:Ñ}{XP:Ò->Heap->Prop}{YP:World->Heap->Prop}{d:DefRec}
  (hn:l.most=some n) (lU:d.params.defaults=[])
  (call : ∀ (w : World) (s₀ À : Shared) (mg mb : Str → Option Value) (fa : Addr) (o : Obj) (pm cd doc : Value) (a : Addr) (vs : List Value) (ns : List Int),
   Ground q loose [] XP w s₀ mg mb À.heap->YP w À.heap ->
   À.heap.get? fa=some o->o.data = .func (docDef d.name d.params d.body d.scope pm cd doc)->À.heap.CodeRec cd d.name->mg d.name=some (.ref fa) ->
   À.heap.get? a=some {cls:= .type "list",data:= .seq vs.toArray}->IntsAre vs ns->ns.length<=n->À.gens=#[] ->
   codeAny (model l.prog w) callerA (.call (.ref fa) ⟨[.ref a],[]⟩) (λr s'=>r = .ok (.ret<|.bool true)/\OldK À.heap s'.heap/\s'.os=À.os/\AllBare s'.gens) À) :
  WalkO q loose XP YP l.row.toRowW d [] (λf vs=>PySem.call f vs):=by
 intro w s₀ À mg mb G Y fa o pm cd doc dV kV ho hd iB hD ui hg args vals as lT hlay hrd BF hlo;obtain rfl:dV = .none:=Dflts.none hD lU;obtain rfl:kV = .none:=Dflts.noKw hD;obtain⟨a,vs,ns,rfl,rfl,hU,hints,hlen⟩:=Wz hn lT BF;refine enter_call<|JH (call w s₀ À mg mb fa o pm cd doc a vs ns G Y ho (fd_plain hd) iB ui hU hints hlen hg) λr s' hq=>?_;obtain⟨rfl,h2,h3,h4⟩:=hq;exact⟨.inl ⟨.bool true,.bool true,[],rfl,λ_=>rfl,.bool true,WC l _,λ_=>⟨List.Pairwise.nil,λ_ hm=>(nomatch hm)⟩⟩,h2,h3,h4⟩
section
variable{prog:Program}{w:World}{A:Around}{E:Î}{s:Shared}{K:Frag}
end
end MY
namespace L2
open PySem PySem.Spec PyProof.Rows
theorem MZ:∀{vs:Ó} {ns:List Int},IntsAre vs ns->aA (ns.map V.int) vs
 | _,_,.nil=> .nil
 | _,_,.cons n t h=> .cons ⟨t,rfl⟩<|MZ h
def Only(H:Hp):Prop:=∀ b,H b=none\/∃ o xs,H b=some (.b7 o<|.lst xs)
theorem WD{P:Program}{w:World}{K:PySem.W.Frag}{mg mb:Ò}{CX:gP}{k:Nat}{fa a:Addr}{fd:FuncData}{x:Str}{sp:Sp}{À:Shared}{vs:Ó}{ns:List Int}
  (KX:K.In À.heap) (xA:À.heap.Ns mainGlobals mg) (hb:À.heap.Ns builtinsNs mb) (WG:∀ x:Str,x ≠ "__name__"->mb x=bootBuiltins x) (BH:À.heap.NoLimit) (hg:À.gens=#[])
  (ha:À.heap.get? a=some {cls:= .type "list",data:= .seq vs.toArray}) (hi:IntsAre vs ns) (hl:ns.length<=sizeLine) (hr:bC k callerA)
  (F:∀ base:Heap,K.In base->base.Ns mainGlobals mg->aE P w K mg base CX k fa fd [x] sp) (uj:∀(s:Shared) (u:Value),BindsTo s fd ⟨[u],[]⟩ [(x,u)])
  (dQ:∀ H:Hp,Only H->ak K H a (ns.map V.int)->sp [.ref a] H (λv _=>v = .bl true) λ_ _ _=>False)
  (BI:∀ H e s',CX [] H À (λ_ _ _=>False) e s'->False) :
  codeAny (model P w) callerA (.call (.ref fa) ⟨[.ref a],[]⟩) (λr s'=>r = .ok (.ret<|.bool true)/\OldK À.heap s'.heap/\s'.os=À.os/\AllBare s'.gens) À:=by
 have rv:=MZ hi;have BM:=hi.length;have core:∀ H:Hp,Only H->ak K H a (ns.map V.int)->b9 P w H À.heap->(∀ b,H b≠none->b=a)->(H a≠none->K.lookup a=none) ->
   codeAny (model P w) callerA (.call (.ref fa) ⟨[.ref a],[]⟩) (λr s'=>r = .ok (.ret<|.bool true)/\OldK À.heap s'.heap/\s'.os=À.os/\AllBare s'.gens) À:=by
  intro H hO hS aI hA hK;have iD:∀{b:Addr} {o:Obj},À.heap.get? b=some o->H b=none->(ft À.heap H).get? b=some o:=λe n=>U7 e n;have ua:∀{b:Addr} {o:Obj} {es:Array DictEntry} {ep:Nat},À.heap.get? b=some o->o.data = .dict es ep->H b=none:=λ{b o es ep} e d=>by
   cases q:H b with
   | none=>rfl
   | some u=>
    have e':b=a:=hA b (by rw[q];simp);subst e';rw[ha]at e;cases e;have d':Data.seq vs.toArray _=Data.dict es ep:=d;cases d'
  have xB:∀{b:Addr} {m:Ò},À.heap.Ns b m->(ft À.heap H).Ns b m:=λ{b m} ⟨o,es,ep,e,d,r⟩=>⟨o,es,ep,iD e<|ua e d,d,r⟩;have M0:K.In (ft À.heap H):=λb o e=>iD (KX b o e)<|by
   cases q:H b with
   | none=>rfl
   | some u=>
    have e':b=a:=hA b (by rw[q];simp);subst e';rw[hK<|by rw[q];simp]at e;cases e
  have hM:Mod K mg (ft À.heap H):=⟨M0,xB xA,⟨mb,xB hb,WG⟩,let ⟨mc,h1,h2⟩:=BH;⟨mc,xB h1,h2⟩⟩;have e0:lP P w K mg (ft À.heap H) callerA [] À H:=⟨rfl,hM,λb o e=>U8 e,Nat.le_of_eq<|U6 _ _,trivial,λb hb=>absurd (show b∈([]:List Addr)from hb) (by simp),aI,.of_eq hg⟩;refine JH ((F _ M0<|xB xA).run callerA [] À H ⟨[.ref a],[]⟩ [.ref a] [.ref a] _ _ hr e0 (uj À<|.ref a) (.cons rfl .nil)<|dQ H hO hS) λr s' h=>?_;cases r with
  | error e=>exact(BI H e s' h).elim
  | ok fl=>
   cases fl with
   | next=>exact False.elim h
   | brk=>exact False.elim h
   | cont=>exact False.elim h
   | ret u=>
    obtain⟨v,H',os,bare,un,BO,r',q⟩:=h;have q':v = .bl true:=q;subst q';obtain rfl:u=Value.bool true:=r';refine⟨rfl,OldK.of_keep λb o e=>?_,os,bare⟩;cases q:H b with
    | none=>exact un.keep b o e q (by intro z;exact absurd (show b∈([]:List Addr)from z)<|by simp)<|by simp
    | some u=>
     rcases hO b with z | ⟨ob,xs,z⟩
     ·rw[q]at z;cases z
     ·have z2:=un.d6 b ob _ z;obtain⟨e1,_⟩:=aI b _ z;obtain⟨e2,_⟩:=BO b _ z2;rw[e]at e1;cases e1;exact e2
 cases hk:K.lookup a with
 | some o=>
  have e:=KX a o hk;rw[ha]at e;cases e;refine core (λ_=>none) (λ_=> .inl rfl) (.inr ⟨_,vs.toArray,_,hk,rfl,rfl,rfl,by rw[Ay,BM];exact hl,by simpa using rv⟩) (λb u z=>by have z':(none:Option HO)=some u:=z;cases z') (λb z=>absurd rfl z) λz=>absurd rfl z
 | none=>
  refine core (λb=>if b=a then some (.b7 {cls:= .type "list",data:= .seq vs.toArray}<|.lst<|ns.map V.int)else none) (λb=>?_) (.inl<|.inr ⟨{cls:= .type "list",data:= .seq vs.toArray},BL rfl⟩) (λb u z=>?_) (λb z=>?_) λ_=>hk
  ·by_cases hb:b=a
   ·exact .inr ⟨_,_,BL hb⟩
   ·exact .inl<|BK hb
  ·by_cases hb:b=a
   ·have z':=(BL hb).symm.trans z;cases z';subst hb;exact⟨ha,by rw[Aa];exact hl,vs,_,rv,ha⟩
   ·have z':=(BK hb).symm.trans z;cases z'
  ·by_cases hb:b=a
   ·exact hb
   ·exact absurd (BK hb) z
def lV{l:PySem.W.OpenLaw}{n k:Nat}{q:Program}{loose:Ñ}{XP:Ò->Heap->Prop}{YP:World->Heap->Prop}{d:DefRec}{K:Params->PySem.W.Frag}{CX:World->gP}{sp:World->Sp}{x:Str}
  (hn:l.most=some n) (BQ:n<=sizeLine) (lU:d.params.defaults=[]) (hr:bC k callerA)
  (hY:∀(w:World) (h:Heap),YP w h->(K w.params).In h)
  (F : ∀ (w : World) (mg : Str → Option Value) (fa : Addr) (h : Heap), (K w.params).In h → h.Ns mainGlobals mg → mg d.name = some (.ref fa) →
   ∃ fd:FuncData,(∀(s:Shared) (u:Value),BindsTo s fd ⟨[u],[]⟩ [(x,u)]) /\
    ∀ base:Heap,(K w.params).In base->base.Ns mainGlobals mg->aE l.prog w (K w.params) mg base (CX w) k fa fd [x] (sp w))
  (dQ:∀(w:World) (H:Hp) (a:Addr) (ns:List Int),ns.length<=n->Only H->ak (K w.params) H a (ns.map V.int)->sp w [.ref a] H (λv _=>v = .bl true) λ_ _ _=>False)
  (BI:∀(w:World) (H:Hp) (s:Shared) (e:Value) (s':Shared),CX w [] H s (λ_ _ _=>False) e s'->False) :
  PySem.W.WalkO q loose XP YP l.row.toRowW d [] (λf vs=>PySem.call f vs):=by
 refine MY.gj hn lU λw s₀ À mg mb fa o pm cd doc a vs ns G Y ho hd iB ui hU hints hlen hg=>?_;have KX:=hY w _ Y;obtain⟨fd,hb,hF⟩:=F w mg fa _ KX G.T.g ui;exact WD KX G.T.g G.T.b G.T.builtins G.T.nolimit hg hU hints (Bq hlen BQ) hr hF hb (λH hO hS=>dQ w H a ns hlen hO hS) λH e s'=>BI w H À e s'
def ni(s:Stmt):Arguments:=match s with
 | .FunctionDef _ a _ _ _ _ _ _ _ _=>a
 | _=>{posonlyargs:=[],args:=[],vararg:=none,kwonlyargs:=[],kw_defaults:=[],kwarg:=none,defaults:=[]}
def i6(s:Stmt):Õ:=match s with
 | .FunctionDef _ _ b _ _ _ _ _ _ _=>b
 | _=>[]
def aT(s:Stmt):Scope:=match s with
 | .FunctionDef _ _ _ _ _ _ sc _ _ _=>sc
 | _=>{kind:= .function,names:=[],isGenerator:=false,isCoroutine:=false}
abbrev bD:gP:=λ_ _ _ _ _ _=>False
abbrev E0:XK:=λ_ _ _=>False
def j8{X:Cx}:lR bD X E0:=λ_ _ _ _ _ _ _ h=>h.elim
structure bv(K:PySem.W.Frag)(x qual:Str)(st:Stmt)(f:Addr)(fd:FuncData):Prop where
 ex:∃(oc:Value) (od:Option Addr) (kV doc pm:Value) (an:Option Addr) (bH ct:Value) (kZ:Array<|Option Value),
  fd=PySem.W.fnOf x qual (ni st) (i6 st) (aT st) .none kV doc pm an bH ct/\K.lookup f=some ⟨oc,od,.func fd,kZ⟩/\PySem.W.codeIn K bH qual=true
 kp:PySem.W.keepIn K (.ref f)=true
section
variable{P:Program}{w:World}{K:PySem.W.Frag}{mg:Ò}{base:Heap}
def bv.ok{x qual:Str}{st:Stmt}{f:Addr}{fd:FuncData}{N ps:Ñ}{k:Nat}{sp:Sp}(F:bv K x qual st f fd)(S:ao N ps<|aT st)(len:∀ vs H Q E,sp vs H Q E->vs.length=ps.length)
  (cM : ∀ (bH : Value) (A : Around) (outer : List Env) (s : Shared) (H : Hp) (vs : List V) (Q : VK) (E : XK), bC k (A.deeper<|envOfC qual (aT st) s.heap.objs.size f bH) → sp vs H Q E →
   ∃ t,i0 (c7 bD P w K mg base N qual (aT st) f bH A outer s H E).rk (i6 st) t/\t {nx:=λ_ H'=>Q .non H',rt:=Q} (start N vs) H):aE P w K mg base bD (k+1) f fd ps sp:=by
 obtain⟨oc,od,kV,doc,pm,an,bH,ct,kZ,rfl,lk,iB⟩:=F.ex;refine MM lk iB S len λA outer s H vs Q E hr dQ=>?_;obtain⟨t,h,q⟩:=cM bH A outer s H vs Q E hr dQ;exact⟨t,h.rk,q⟩
def bv.binds{x qual:Str}{st:Stmt}{f:Addr}{fd:FuncData}{ps:Ñ}(F:bv K x qual st f fd)
  (h:∀(kV doc pm:Value) (an:Option Addr) (bH ct:Value) (us:Ó),us.length=ps.length->bindArgs (PySem.W.fnOf x qual (ni st) (i6 st) (aT st) .none kV doc pm an bH ct) ⟨us,[]⟩=pure (ps.zip us)):Binds K fd ps []:=by
 obtain⟨oc,od,kV,doc,pm,an,bH,ct,kZ,rfl,lk,iB⟩:=F.ex;exact .all<|h kV doc pm an bH ct
def WH{x qual:Str}{st:Stmt}{f:Addr}{oc:Value}{od an:Option Addr}{kZ:Array (Option Value)}{kV doc pm bH ct:Value}(l:K.lookup f=some ⟨oc,od,.func<|PySem.W.fnOf x qual (ni st) (i6 st) (aT st) .none kV doc pm an bH ct,kZ⟩)
  (c:PySem.W.codeIn K bH qual=true) (k:PySem.W.keepIn K (.ref f)=true):bv K x qual st f (PySem.W.fnOf x qual (ni st) (i6 st) (aT st) .none kV doc pm an bH ct):=⟨⟨oc,od,kV,doc,pm,an,bH,ct,kZ,rfl,l,c⟩,k⟩
end
section
variable{X:Cx}
end
def cO{A B:Prop}(h:B):if false=true then A else B:=by
 rw[BK Ax];exact h
def cP{A B:Prop}(h:A):if true=true then A else B:=by
 rw[BL rfl];exact h
def j9{c A B:Prop} [Decidable c] (h1:c->A) (h2:¬ c->B):if c then A else B:=by
 by_cases h:c
 ·rw[BL h];exact h1 h
 ·rw[BK h];exact h2 h
def ah(H H':Hp):Prop:=∀ b o,H b=some o->H' b=some o
def ah.refl(H:Hp):ah H H:=λ_ _ h=>h
def ah.trans{H H1 H2:Hp}(a:ah H H1)(b:ah H1 H2):ah H H2:=λc o h=>b c o<|a c o h
theorem ah.free{H H':Hp}(e:ah H H'){l:Addr}(h:H' l=Option.none):H l=Option.none:=by
 cases q:H l with
 | none=>rfl
 | some o=>
  rw[e l o q]at h;cases h
def ah.seq{K:PySem.W.Frag}{H H':Hp}{a:Addr}{xs:List V}(e:ah H H')(h:ak K H a xs):ak K H' a xs:=by
 rcases h with (h | ⟨o,h⟩) | h
 ·exact .inl<|.inl<|e _ _ h
 ·exact .inl<|.inr ⟨o,e _ _ h⟩
 ·exact .inr h
section
variable{κ:Type} [DecidableEq κ]
def aJ(kvs:List<|κ×V)(k:κ):Option V:=(kvs.find? λkv=>decide (kv.1=k)).map (·.2)
def putK(kvs:List<|κ×V)(k:κ)(v:V):List (κ×V):=
 if(kvs.any λkv=>decide (kv.1=k))=true then kvs.map (λkv=>if kv.1=k then(kv.1,v)else kv)else kvs++[(k,v)]
def i7{p:κ×V}{r:List (κ×V)}{k:κ}(e:p.1=k):aJ (p :: r) k=some p.2:=by simp[aJ,Fe,e]
def i8{p:κ×V}{r:List (κ×V)}{k:κ}(e:¬ p.1=k):aJ (p :: r) k=aJ r k:=by simp[aJ,Fe,e]
theorem rC(k:κ):∀ kvs:List<|κ×V,(kvs.any λkv=>decide (kv.1=k))=(aJ kvs k).isSome
 | []=>rfl
 | p :: r=>by
  rw[Fx]
  by_cases e:p.1=k
  ·simp only[i7 e,BW e,Bool.true_or,Option.isSome_some]
  ·rw[i8 e,BR e,Bool.false_or];exact rC k r
theorem M1(k j:κ)(y:V):∀ kvs:List<|κ×V,aJ (kvs.map λkv=>if kv.1=k then(kv.1,y)else kv) j=(aJ kvs j).map λx=>if j=k then y else x
 | []=>rfl
 | p :: r=>by
  have ih:=M1 k j y r;rw[Bj]
  by_cases h:p.1=k
  ·rw[BL h]
   by_cases e:p.1=j
   ·rw[i7 (p:=(p.1,y)) e,i7 e,Gs,BL<|e.symm.trans h]
   ·rw[i8 (p:=(p.1,y)) e,i8 e,ih]
  ·rw[BK h]
   by_cases e:p.1=j
   ·rw[i7 (p:=p) e,i7 e,Gs,BK λz=>h<|e.trans z]
   ·rw[i8 (p:=p) e,i8 e,ih]
theorem M3(k j:κ)(y:V):∀ kvs:List<|κ×V,aJ kvs k=none->aJ (kvs++[(k,y)]) j=if j=k then some y else aJ kvs j
 | [],_=>by
  by_cases e:k=j
  ·rw[BL e.symm];exact i7 (p:=(k,y)) e
  ·rw[BK λz=>e z.symm];exact i8 (p:=(k,y)) e
 | p :: r,hn=>by
  rw[Fs];have hk:¬ p.1=k:=λz=>by rw[i7 z]at hn;cases hn
  rw[i8 hk]at hn;have ih:=M3 k j y r hn
  by_cases e:p.1=j
  ·rw[i7 e,i7 e,BK λz=>hk<|e.trans z]
  ·rw[i8 e,i8 e,ih]
def fb(kvs:List<|κ×V)(k j:κ)(y:V):aJ (putK kvs k y) j=if j=k then some y else aJ kvs j:=by
 unfold putK
 by_cases a:(kvs.any λkv=>decide (kv.1=k))=true
 ·rw[BL a,M1];rw[rC]at a
  by_cases e:j=k
  ·obtain⟨x,hx⟩:=Ex.mp a;rw[BL e,e,hx,Gs,BL rfl]
  ·rw[BK e];cases aJ kvs j with
   | none=>rfl
   | some x=>rw[Gs,BK e]
 ·rw[BK a];refine M3 k j y kvs ?_;rw[rC]at a;cases q:aJ kvs k with
  | none=>rfl
  | some x=>rw[q]at a;exact(a rfl).elim
def iE(kvs:List<|κ×V)(k:κ)(v:V):(putK kvs k v).length<=kvs.length+1:=by
 unfold putK
 split
 ·rw[Aa];omega
 ·rw[Ad,Ar,Dc];omega
def M4{kvs:List (κ×V)}{k:κ}(v:V)(h:aJ kvs k=none):putK kvs k v=kvs++[(k,v)]:=by
 unfold putK;rw[rC,h];exact BK<|by decide
theorem dA.c8{o:Option V}{u:Option Value}(r:dA o u):o.isSome=u.isSome:=by
 cases o with
 | none=>cases u with
  | none=>rfl
  | some _=>exact(show False from r).elim
 | some _=>cases u with
  | none=>exact(show False from r).elim
  | some _=>rfl
theorem KV.val{kvs:List (κ×V)}{vs:List (κ×Value)}(r:KV kvs vs)(k:κ):dA (aJ kvs k) (valueAt vs k):=by
 unfold KV at r
 induction r with
 | nil=>exact True.intro
 | @cons p q ps qs h t ih=>
  obtain⟨h1,h2⟩:=h
  by_cases e:p.1=k
  ·have e':q.1=k:=h1.symm.trans e;have b:valueAt (q :: qs) k=some q.2:=by simp[valueAt,Fe,e']
   rw[i7 e,b];exact h2
  ·have e':¬ q.1=k:=λz=>e<|h1.trans z;have b:valueAt (q :: qs) k=valueAt qs k:=by simp[valueAt,Fe,e']
   rw[i8 e,b];exact ih
theorem KV.any{kvs:List (κ×V)}{vs:List (κ×Value)}(r:KV kvs vs)(k:κ):(kvs.any λkv=>decide (kv.1=k))=vs.any λkv=>decide (kv.1=k):=by
 unfold KV at r
 induction r with
 | nil=>rfl
 | cons h t ih=>rw[Fx,Fx,ih,h.1]
theorem KV.repl{kvs:List (κ×V)}{vs:List (κ×Value)}(r:KV kvs vs)(k:κ){y:V}{u:Value}(ry:RelV y u) :
  KV (kvs.map λkv=>if kv.1=k then(kv.1,y)else kv) (vs.map λkv=>if kv.1=k then(kv.1,u)else kv):=by
 unfold KV at r ⊢
 induction r with
 | nil=>exact .nil
 | @cons p q ps qs h t ih=>
  rw[Bj,Bj];refine .cons ?_ ih;obtain⟨h1,h2⟩:=h
  by_cases e:p.1=k
  ·rw[BL e,BL<|h1.symm.trans e];exact⟨h1,ry⟩
  ·rw[BK e,BK λz=>e<|h1.trans z];exact⟨h1,h2⟩
def KV.put{kvs:List (κ×V)}{vs:List (κ×Value)}(r:KV kvs vs)(k:κ){y:V}{u:Value}(ry:RelV y u):KV (putK kvs k y) (stored vs k u):=by
 unfold putK stored;rw[r.any k]
 by_cases e:(vs.any λkv=>decide (kv.1=k))=true
 ·rw[BL e,BL e];exact r.repl k ry
 ·rw[BK e,BK e];exact Paired.snoc r ⟨rfl,ry⟩
def KV.length{kvs:List (κ×V)}{vs:List (κ×Value)}(r:KV kvs vs):kvs.length=vs.length:=Paired.length r
end
theorem ph{P:Program}{w:World}{k:Key}{u:Value}(r:RelV (kV k) u):(dz P w).is k u=true:=by
 cases k with
 | inl i=>obtain⟨t,e⟩:=(show ∃ t,u=Value.int i t from r);subst e;exact U3 P w i t
 | inr x=>obtain⟨t,e⟩:=(show ∃ t,u=Value.str x t from r);subst e;exact U4 P w x t
theorem M5{P:Program}{w:World}:∀{ks:List Key} {us:Ó},aA (ks.map kV) us->ItemsAre (dz P w) ks us
 | [],_,r=>by rw[List.map_nil]at r;cases r;exact .nil
 | k :: ks,_,r=>by
  rw[Bj]at r;cases r with
  | cons h t=>exact .cons (ph h)<|M5 t
abbrev KT(H:Hp):List (List Key×V)->List (List Key×Addr×Value)->Prop:=Paired λp q=>p.1=q.1/\H q.2.1=some (.tup<|p.1.map kV)/\RelV p.2 q.2.2
theorem KT.val{H:Hp}{kvs:List (List Key×V)}{xs:List (List Key×Addr×Value)}(r:KT H kvs xs)(k:List Key):dA (aJ kvs k) ((atKey xs k).map (·.2)):=by
 induction r with
 | nil=>exact True.intro
 | @cons p q ps qs h t ih=>
  obtain⟨h1,_,h2⟩:=h
  by_cases e:p.1=k
  ·have e':q.1=k:=h1.symm.trans e;have b:atKey (q :: qs) k=some q.2:=by simp[atKey,Fe,e']
   rw[i7 e,b];exact h2
  ·have e':¬ q.1=k:=λz=>e<|h1.trans z;have b:atKey (q :: qs) k=atKey qs k:=by simp[atKey,Fe,e']
   rw[i8 e,b];exact ih
theorem KT.repl{H:Hp}{kvs:List (List Key×V)}{xs:List (List Key×Addr×Value)}(r:KT H kvs xs)(k:List Key){y:V}{u:Value}(ry:RelV y u) :
  KT H (kvs.map λkv=>if kv.1=k then(kv.1,y)else kv) (xs.map<|putAt k u):=by
 induction r with
 | nil=>exact .nil
 | @cons p q ps qs h t ih=>
  rw[Bj,Bj];refine .cons ?_ ih;obtain⟨h1,h2,h3⟩:=h;unfold putAt
  by_cases e:p.1=k
  ·rw[BL e,BL<|h1.symm.trans e];exact⟨h1,h2,ry⟩
  ·rw[BK e,BK λz=>e<|h1.trans z];exact⟨h1,h2,h3⟩
def KT.put{H:Hp}{kvs:List (List Key×V)}{xs:List (List Key×Addr×Value)}(r:KT H kvs xs)(k:List Key){b:Addr}{y:V}{u:Value}(hb:H b=some (.tup<|k.map kV))(ry:RelV y u) :
  KT H (putK kvs k y) (storedH xs k b u):=by
 have e:(kvs.any λkv=>decide (kv.1=k))=(atKey xs k).isSome:=by
  rw[rC,(r.val k).c8,Option.isSome_map]
 unfold putK storedH;rw[e]
 by_cases q:(atKey xs k).isSome=true
 ·rw[BL q,BL q];exact r.repl k ry
 ·rw[BK q,BK q];exact Paired.snoc r ⟨rfl,hb,ry⟩
def KT.keeps{H H':Hp}{kvs:List (List Key×V)}{xs:List (List Key×Addr×Value)}(r:KT H kvs xs)(ht:∀ b ys,H b=some (.tup ys)->H' b=some (.tup ys)):KT H' kvs xs:=
 Paired.oM r λ_ _ z=>⟨z.1,ht _ _ z.2.1,z.2.2⟩
section
variable{P:Program}{w:World}{H:Hp}{h:Heap}{a:Addr}
def M6{u:HO}(ok:b9 P w H h)(e:Rd H a u):aB P w H h a u:=e.ok ok
def xC{kvs:List (Key×V)}(ok:b9 P w H h)(e:Rd H a<|.dK kvs):kvs.length<=sizeLine/\(a == sysModules)=false/\∃ vs,KV kvs vs/\h.DictOf (dz P w) a vs:=
 show aB P w H h a (.dK kvs)from M6 ok e
def BU{kvs:List (Key×V)}(ok:b9 P w H h)(e:H a=some (.dK kvs)):kvs.length<=sizeLine/\(a == sysModules)=false/\∃ vs,KV kvs vs/\h.DictOf (dz P w) a vs:=xC ok<|.inl e
def uk{ks:List Key}(ok:b9 P w H h)(e:H a=some (.tup<|ks.map kV)):(tupleKind<|dz P w).is h ks a:=by
 obtain⟨_,its,r,o,h1,h2,n,h3⟩:=(show aB P w H h a (.tup<|ks.map kV)from ok a _ e);exact⟨o,its.toArray,n,h1,h2,h3,by simpa using M5 r⟩
def xD{kvs:List (List Key×V)}(ok:b9 P w H h)(e:Rd H a<|.dT kvs):kvs.length<=sizeLine/\(a == sysModules)=false /\
  ∃ xs,KT H kvs xs/\h.DictOfH (tupleKind<|dz P w) a xs:=by
 obtain⟨z,y,xs,r,o,es,ep,h1,h2,h3,h4,h5⟩:=(show aB P w H h a (.dT kvs)from M6 ok e);refine⟨z,y,xs,r,o,es,ep,h1,h2,h3,h4,λx hx=>?_,h5⟩;have all:∀{l:List (List Key×V)} {m:List (List Key×Addr×Value)},KT H l m->∀ x∈m,(tupleKind<|dz P w).is h x.1 x.2.1:=by
  intro l m q
  induction q with
  | nil=>intro x hx;exact nomatch hx
  | @cons p q ps qs hq t ih=>
   intro x hx
   rcases Ak.mp hx with e | hx
   ·subst e;exact uk ok<|by rw[<- hq.1];exact hq.2.1
   ·exact ih x hx
 exact all r x hx
def M7{kvs:List (List Key×V)}(ok:b9 P w H h)(e:H a=some (.dT kvs)):kvs.length<=sizeLine/\(a == sysModules)=false /\
  ∃ xs,KT H kvs xs/\h.DictOfH (tupleKind<|dz P w) a xs:=xD ok<|.inl e
end
def bE(H:Hp)(a:Addr)(y:V)(r:Option V):Prop:=
 (∃ kvs k,Rd H a (.dK kvs)/\y=kV k/\r=aJ kvs k)\/∃ kvs k b,Rd H a (.dT kvs)/\y = .ref b/\H b=some (.tup<|k.map kV)/\r=aJ kvs k
def cw(H:Hp)(a:Addr)(y v:V)(H':Hp):Prop:=
 (∃ kvs k,H a=some (.dK kvs)/\y=kV k/\kvs.length < sizeLine/\H'=upd H a (.dK<|putK kvs k v)) \/
 ∃ kvs k b,H a=some (.dT kvs)/\y = .ref b/\H b=some (.tup<|k.map kV)/\kvs.length < sizeLine/\H'=upd H a (.dT<|putK kvs k v)
def bE.k{H:Hp}{a:Addr}{kvs:List (Key×V)}{k:Key}(e:H a=some (.dK kvs)):bE H a (kV k) (aJ kvs k):= .inl ⟨kvs,k,.inl e,rfl,rfl⟩
def bE.t{H:Hp}{a b:Addr}{kvs:List (List Key×V)}{k:List Key}(e:H a=some (.dT kvs))(eb:H b=some (.tup<|k.map kV)):bE H a (.ref b) (aJ kvs k):= .inr ⟨kvs,k,b,.inl e,rfl,eb,rfl⟩
def cw.k{H:Hp}{a:Addr}{kvs:List (Key×V)}{k:Key}{v:V}(e:H a=some (.dK kvs))(hl:kvs.length < sizeLine):cw H a (kV k) v (upd H a<|.dK<|putK kvs k v):= .inl ⟨kvs,k,e,rfl,hl,rfl⟩
def cw.t{H:Hp}{a b:Addr}{kvs:List (List Key×V)}{k:List Key}{v:V}(e:H a=some (.dT kvs))(eb:H b=some (.tup<|k.map kV))(hl:kvs.length < sizeLine) :
  cw H a (.ref b) v (upd H a<|.dT<|putK kvs k v):= .inr ⟨kvs,k,b,e,rfl,eb,hl,rfl⟩
section
variable{X:Cx}{pins:Ð}{σ:St}{H:Hp}{s:Shared}{a:Addr}{y v:V}{u r:Value}{o:Option V}{A:Around}{E:Î}
def Inv.big(I:Inv X pins σ H s):sysModules < s.heap.objs.size:=by
 have h:mainGlobals < s.heap.objs.size:=(I.mod.glob.keeps I.bk).lt;exact Nat.lt_trans (by decide) h
def WK{Q:Î}(hu:A.units+1 < cLine)(I:Inv X pins σ H s)(g:bE H a y<|some v)(ry:RelV y u)(h:∀ w' s',Inv X pins σ H s'->RelV v w'->Q w' s') :
  wpAny (model X.prog X.w) A (getItem (.ref a) u) Q E s:=by
 rcases g with ⟨kvs,k,e,ey,l⟩ | ⟨kvs,k,b,e,ey,eb,l⟩
 ·subst ey;obtain⟨z,hd,vs,rel,dd⟩:=xC I.aI e;obtain⟨w',hw,e9⟩:=dA.some_of (v:=v) (o:=valueAt vs k) (by rw[l];exact rel.val k);exact wpAny_getItem_of (ph ry) dd.mapOf hw<|h w' _ (I.tok _) e9
 ·subst ey;cases (show u=Value.ref b from ry);obtain⟨z,hd,xs,rel,dd⟩:=xD I.aI e;obtain⟨w',hw,e9⟩:=dA.some_of (v:=v) (o:=(atKey xs k).map (·.2)) (by rw[l];exact rel.val k);obtain⟨p,hp,ka⟩:=Az.mp hw;refine wpAny_getItem_heap (PX hu) (uk I.aI eb) dd hp ?_;rw[ka];exact h w' _ (I.tok _) e9
def BV{Q:Î}(hu:A.units+1 < cLine)(I:Inv X pins σ H s)(g:bE H a y o)(ry:RelV y u)(h:∀ s',Inv X pins σ H s'->Q (.bool o.isSome) s') :
  wpAny (model X.prog X.w) A (compareOp .In u<|.ref a) Q E s:=by
 rcases g with ⟨kvs,k,e,ey,l⟩ | ⟨kvs,k,b,e,ey,eb,l⟩
 ·subst ey;obtain⟨z,hd,vs,rel,dd⟩:=xC I.aI e;refine wpAny_in_of (ph ry) hd dd.mapOf ?_;rw[<- (rel.val k).c8,<- l];exact h _<|I.tok _
 ·subst ey;cases (show u=Value.ref b from ry);obtain⟨z,hd,xs,rel,dd⟩:=xD I.aI e;refine wpAny_in_heap (PX hu) (uk I.aI eb) hd dd ?_;have q:=(rel.val k).c8;rw[Option.isSome_map]at q;rw[<- q,<- l];exact h _<|I.tok _
def nj{h':Heap}{t':Nat}{ob:HO}(I:Inv X pins σ H s)(mu:tM<|H a)(hs:Heap.SameBut a s.heap h')(he:∃ q,h'.get? a=some q)(new:aB X.prog X.w (upd H a ob) h' a ob) :
  Inv X pins σ (upd H a ob) {s with heap:=h',toks:=t'}:=
 I.write (x:=a) (e:=a) mu (.inl rfl) (λb q hb z=>(hs.2 b hb).trans z) he new
def B0{P:Program}{w:World}{H':Hp}{h':Heap}{kvs:List (Key×V)}{vs:List (Key×Value)}(z:kvs.length<=sizeLine)(hd:(a == sysModules)=false)(rel:KV kvs vs)(dd:h'.DictOf (dz P w) a vs) :
  aB P w H' h' a (.dK kvs):=⟨z,hd,vs,rel,dd⟩
def WL{H':Hp}{Q:Unit->Shared->Prop}(hu:A.units+1 < cLine)(I:Inv X pins σ H s)(g:cw H a y v H')(ry:RelV y u)(rv:RelV v r)(h:∀ s',Inv X pins σ H' s'->Q () s') :
  wpAny (model X.prog X.w) A (setItem (.ref a) u r) Q E s:=by
 rcases g with ⟨kvs,k,e,ey,l,eH⟩ | ⟨kvs,k,b,e,ey,eb,l,eH⟩
 ·subst ey eH;obtain⟨z,hd,vs,rel,dd⟩:=BU I.aI e;have hz:vs.length<=sizeLine:=by rw[<- rel.length];exact z
  have hl:(putK kvs k v).length<=sizeLine:=by have:=iE kvs k v;omega
  refine wpAny_setItem_pairs (hsz:=hz) (ph ry) dd λh' jJ hs=>h _ ?_;have he:∃ q,h'.get? a=some q:=let ⟨q,_,_,hq,_⟩:=jJ;⟨q,hq⟩
  exact nj I (by rw[e];exact True.intro) hs he<|B0 hl hd (rel.put k rv) jJ
 ·subst ey eH;cases (show u=Value.ref b from ry);obtain⟨z,hd,xs,rel,dd⟩:=M7 I.aI e;have hz:xs.length<=sizeLine:=by rw[<- Paired.length rel];exact z
  have hl:(putK kvs k v).length<=sizeLine:=by have:=iE kvs k v;omega
  refine wpAny_setItem_heap (hsz:=hz) (PX hu) (uk I.aI eb) dd λh' jJ hs=>h _ ?_;obtain⟨q,es,ep,hq,h2,h3,h4,_,h5⟩:=jJ;refine nj I (by rw[e];exact True.intro) hs ⟨q,hq⟩ ⟨hl,hd,_,(rel.put k eb rv).keeps λc ys ec=>?_,q,es,ep,hq,h2,h3,h4,h5⟩;rw[ax<|ce ec e λz=>nomatch z];exact ec
end
section
variable{X:Cx}{pins:Ð}{σ:St}{H:Hp}{s:Shared}{a:Addr}{kvs:List (Key×V)}{k:Key}{u:Value}{A:Around}{E:Î}
end
def pj(i:Expr):Prop:=∀ ov iv,subscripted i false ov iv=operate [ov,iv] (getItem ov iv)
def WM{prog:Program}{w:World}{A:Around}{E:Î}{s:Shared}{env:Env}{value slice:Expr}{pos:Pos}{T id:String}{Q:Î}
  (hl:typeLookup (.type T) "__getitem__" = pure (some<|.builtin id)) (hs:pj slice)
  (h:wpAny (model prog w) A (eval value env) (λo À=>wpAny (model prog w) A (eval slice env) (λi Á=>Á.TypeIs o T/\wpAny (model prog w) A (getItem o i) Q E Á) E À) E s) :
  wpAny (model prog w) A (eval (.Subscript value slice pos) env) Q E s:=by
 refine Subscript_<|CV h (λo À h₁=>CV h₁ (λi Á Ä=>?_) λ_ _ x=>x) λ_ _ x=>x;obtain⟨hT,Ä⟩:=Ä;unfold subscriptTail;refine BJ ?_;rw[getitemInPython_of_ne hT.not_modules];refine BJ<|RT hT hl ?_;have fin:wpAny (model prog w) A (subscripted slice false o i) (λr Â=>wpAny (model prog w) A (letTemporaryGo value o r >>= λ_=>pure r) Q E Â) E Á:=by
  rw[hs o i];exact wpAny_operating<|CV Ä (λr Â Å=>BJ<|wpAny_letTemporaryGo<|BP Å) λ_ _ x=>x
 first
  | exact BP<|BJ fin
  | exact BJ<|BP<|BJ fin
  | exact BJ fin
def WN{X:Cx}{pins:Ð}{σ:St}{H:Hp}{s:Shared}{a:Addr}{y:V}{o:Option V}(I:Inv X pins σ H s)(g:bE H a y o):s.TypeIs (.ref a) "dict":=by
 rcases g with ⟨kvs,k,e,_,_⟩ | ⟨kvs,k,b,e,_,_,_⟩
 ·obtain⟨_,_,vs,_,dd⟩:=xC I.aI e;exact dd.typeIs
 ·obtain⟨_,_,xs,_,dd⟩:=xD I.aI e;exact dd.typeIs
def WO(td ty:TE):TE:=λσ H Q=>td σ H λx H1=>ty σ H1 λy H2=>∃ a v,x = .ref a/\bE H2 a y (some v)/\Q v H2
def B1(ty td:TE):TE:=λσ H Q=>ty σ H λy H1=>td σ H1 λx H2=>∃ a o,x = .ref a/\bE H2 a y o/\Q (.bl o.isSome) H2
def WQ(td ty tv:TE):TS:=λD σ H=>tv σ H λv H1=>td σ H1 λx H2=>ty σ H2 λy H3=>∃ a H4,x = .ref a/\cw H3 a y v H4/\D.nx σ H4
section
variable{X:Cx}{o i e value:Expr}{pos pos' AZ:Pos}{td ty tv:TE}
def WR(hu:X.A.units+1 < cLine)(ho:PE X o td)(hi:PE X i ty)(hs:pj i):PE X (.Subscript o i pos) (WO td ty):=by
 intro pins s σ H Q I h;refine WM PySem.F.slot_dict_getitem.lookup hs<|aU (ho pins s σ H _ I h) λu s1 ⟨x,H1,I1,rx,q1⟩=>aU (hi pins s1 σ H1 _ I1 q1) λiv s2 ⟨y,H2,I2,ry,a,v,ex,g,q2⟩=>?_;subst ex;obtain rfl:u=Value.ref a:=rx;exact⟨WN I2 g,WK hu I2 g ry λw' s3 I3 e9=>⟨v,H2,I3,e9,q2⟩⟩
def WT(hu:X.A.units+1 < cLine)(hi:PE X i ty)(ho:PE X o td):PC X .In i o (B1 ty td):=by
 intro pins s σ H Q I h;refine aU (hi pins s σ H _ I h) λiv s1 ⟨y,H1,I1,ry,q1⟩=>aU (ho pins s1 σ H1 _ I1 q1) λu s2 ⟨x,H2,I2,rx,a,ov,ex,g,q2⟩=>?_;subst ex;obtain rfl:u=Value.ref a:=rx;exact BV hu I2 g ry λs3 I3=>⟨.bl ov.isSome,H2,I3,rfl,q2⟩
def WU(hu:X.A.units+1 < cLine)(ho:PE X o td)(hi:PE X i ty)(hv:PE X value tv)(hs:swapsWith value (some<|.Subscript o i pos') pos.line X.env=pure false) :
  PS X (.Assign [.Subscript o i pos'] value pos) (WQ td ty tv):=by
 intro pins s σ H D I h;refine wpAny_Assign_Subscript (aU (hv pins s σ H _ I h) λr s1 ⟨v,H1,I1,rv,q1⟩=>aU (ho pins s1 σ H1 _ I1 q1) λu s2 ⟨x,H2,I2,rx,q2⟩=>aU (hi pins s2 σ H2 _ I2 q2) λiv s3 ⟨y,H3,I3,ry,a,H4,ex,g,q3⟩=>?_) hs;subst ex;obtain rfl:u=Value.ref a:=rx;exact WL hu I3 g ry rv λs4 I4=>⟨σ,H4,I4,q3⟩
end
def WV{P:Program}{w:World}{H:Hp}(h:Heap)(hb:sysModules < h.objs.size):aB P w H (h.push {cls:= .type "dict",data:= .dict #[]}) h.objs.size (.dK []):=
 ⟨Cf _,beq_eq_false_iff_ne.mpr<|CK<|Bp hb,[],.nil,Heap.DictOf.new h⟩
def B2{P:Program}{w:World}{H:Hp}(h:Heap)(hb:sysModules < h.objs.size):aB P w H (h.push {cls:= .type "dict",data:= .dict #[]}) h.objs.size (.dT []):=
 ⟨Cf _,beq_eq_false_iff_ne.mpr<|CK<|Bp hb,[],.nil,_,#[],0,Av _ rfl,⟨rfl,rfl,rfl⟩,rfl,rfl,Ch⟩
def WW:TE:=λ_ H Q=>∀ p,H p=none->Q (.ref p) (upd H p<|.dK [])
def WX:TE:=λ_ H Q=>∀ p,H p=none->Q (.ref p) (upd H p<|.dT [])
section
variable{X:Cx}{pos:Pos}
def WY:PE X (.Dict [] [] pos) WW:=λpins s σ H Q I h=>
 wpAny_Dict_empty ⟨.ref s.heap.objs.size,_,I.laid (a:=s.heap.objs.size) (o:= .dK []) (t':=s.toks) (λ_ _ q=>Ai _ q) (Ao _)<|WV s.heap I.big,rfl,h _<|I.aI.fresh<|Ao _⟩
def WZ:PE X (.Dict [] [] pos) WX:=λpins s σ H Q I h=>
 wpAny_Dict_empty ⟨.ref s.heap.objs.size,_,I.laid (a:=s.heap.objs.size) (o:= .dT []) (t':=s.toks) (λ_ _ q=>Ai _ q) (Ao _)<|B2 s.heap I.big,rfl,h _<|I.aI.fresh<|Ao _⟩
end
section
variable{X:Cx}{pins:Ð}{σ:St}{H:Hp}{s:Shared}{a:Addr}{y d:V}{u r:Value}{o:Option V}{A:Around}{E:Î}
end
section
variable{X:Cx}{o e f:Expr}{apos fz:Pos}{td ty tx:TE}
end
section
variable{X:Cx}{pins:Ð}{σ:St}{H:Hp}{s:Shared}{a:Addr}{kvs:List (Key×V)}{A:Around}{E:Î}
end
section
variable{X:Cx}{pins:Ð}{σ:St}{H:Hp}{s:Shared}{a:Addr}{y:V}{u:Value}{A:Around}{E:Î}
end
section
variable{X:Cx}
end
section
variable{κ:Type} [DecidableEq κ]
def B3{kvs:List (κ×V)}{k:κ}{v:V}(h:aJ kvs k=some v):k∈kvs.map (·.1):=by
 have q:(kvs.any λkv=>decide (kv.1=k))=true:=by
  rw[rC,h]
  all_goals rfl
 obtain⟨p,hp,e⟩:=List.any_eq_true.mp q;exact Ap.mpr ⟨p,hp,BX e⟩
theorem pk:∀{l:List κ} {k:κ},l.Nodup->¬ k∈l->(l++[k]).Nodup
 | [],k,_,_=>by simp
 | a :: r,k,h,hk=>by
  obtain⟨h1,h2⟩:=Bf.mp h;show(a :: (r++[k])).Nodup;refine Bf.mpr ⟨λm=>?_,pk h2 λm=>hk<|Ak.mpr<|Or.inr m⟩
  rcases Al.mp m with q | q
  ·exact h1 q
  ·exact hk<|Ak.mpr<|Or.inl (Ae.mp q).symm
end
section
variable{X:Cx}{tg:Expr}
end
theorem M8{env:Env}:∀{names:List (Str×NameKind)} {x:Str} {k':NameKind},
  (names.map λ(n,k)=>if(k == NameKind.free && env.scope.kind == .function && env.kindOf n == some .cell) then(n,NameKind.cell) else(n,k)).lookup x=some k' ->
  ∃ k,names.lookup x=some k/\(k'=k\/(k = .free/\k' = .cell))
 | [],_,_,h=>by simp at h
 | (n,k) :: r,x,k',h=>by
  have ih:=@M8 env r x k'
  change List.lookup x ((if(k == NameKind.free && env.scope.kind == .function && env.kindOf n == some .cell)=true then(n,NameKind.cell) else(n,k)) :: _)=_ at h
  cases hx:x == n with
  | true=>
   by_cases hc:(k == NameKind.free && env.scope.kind == .function && env.kindOf n == some .cell)=true
   ·rw[BL hc]at h;simp only[Dv,hx]at h;cases h;have hk:k = .free:=by
     have:=(By _ _ ▸ (By _ _ ▸ hc).1).1;cases k <;> first | rfl | (exact absurd this<|by decide)
    exact⟨k,by simp[Dv,hx],.inr ⟨hk,rfl⟩⟩
   ·rw[BK hc]at h;simp only[Dv,hx]at h;cases h;exact⟨k,by simp[Dv,hx],.inl rfl⟩
  | false=>
   have h2:∃ k,r.lookup x=some k/\(k'=k\/(k = .free/\k' = .cell)):=by
    by_cases hc:(k == NameKind.free && env.scope.kind == .function && env.kindOf n == some .cell)=true
    ·rw[BL hc]at h;simp only[Dv,hx]at h;exact ih h
    ·rw[BK hc]at h;simp only[Dv,hx]at h;exact ih h
   obtain⟨k2,e2,r2⟩:=h2;exact⟨k2,by simp[Dv,hx,e2],r2⟩
def cB(names:List<|Str×NameKind)(cells:List<|Str×Addr)(acc:List<|Str×Addr):List (Str×Addr):=
 names.foldl (λa x=>if x.2 == .free then(match cells.lookup x.1 with | some c=>(x.1,c) :: a | none=>a)else a) acc
def M9{scope:Scope}{env:Env}(h:∀ x∈scope.names,x.2 = .free->∃ c,env.cells.lookup x.1=some c):closureFor scope env=pure (cB scope.names env.cells []):=by
 have all:∀(l:List<|Str×NameKind) (acc:List<|Str×Addr),(∀ x∈l,x.2 = .free->∃ c,env.cells.lookup x.1=some c) ->
   (forIn l acc λ(x:Str×NameKind) (cs:List<|Str×Addr)=>(if x.2 == .free then(do let c <- cellOf env x.1;pure (ForInStep.yield<|(x.1,c) :: cs))else pure (ForInStep.yield cs):Sem _))=pure (cB l env.cells acc):=by
  intro l
  induction l with
  | nil=>intro acc _;rfl
  | cons x r ih=>
   intro acc hl;rw[RV];have hr:∀ y∈r,y.2 = .free->∃ c,env.cells.lookup y.1=some c:=λy hy=>hl y<|Ah _ hy;cases hk:x.2 == .free with
   | true=>
    have W0:x.2 = .free:=by
     revert hk
     cases x.2 <;> intro hk <;> first | rfl | (exact absurd hk<|by decide)
    obtain⟨c,hc⟩:=hl x Af W0;simp only[DP,cellOf,hc];rw[show cB (x :: r) env.cells acc=cB r env.cells ((x.1,c) :: acc) by unfold cB;rw[Dm];simp[hk,hc]];exact ih _ hr
   | false=>
    simp only[Bb,CT];rw[show cB (x :: r) env.cells acc=cB r env.cells acc by unfold cB;rw[Dm];simp[hk]];exact ih _ hr
 have q:=all scope.names [] h;simp only[closureFor];exact(BZ (· >>= λr=>pure r) q).trans rfl
theorem B4:∀(names:List<|Str×NameKind) (cells acc:List<|Str×Addr),(∀ x c,(x,c)∈acc->cells.lookup x=some c)->∀ x c,(x,c)∈cB names cells acc->cells.lookup x=some c
 | [],_,_,h=>h
 | y :: r,cells,acc,h=>by
  have e:cB (y :: r) cells acc=cB r cells (if y.2 == .free then(match cells.lookup y.1 with | some c=>(y.1,c) :: acc | none=>acc)else acc):=rfl;rw[e];refine B4 r cells _ ?_;cases hk:y.2 == .free with
  | false=>simpa using h
  | true=>
   cases hc:cells.lookup y.1 with
   | none=>simpa using h
   | some c=>
    intro x d hx;simp only[DP]at hx
    rcases Ak.mp hx with e | hx
    ·cases e;exact hc
    ·exact h x d hx
theorem Nb:∀(names:List<|Str×NameKind) (cells acc:List<|Str×Addr) (x:Str) (c:Addr),(x,c)∈acc->(x,c)∈cB names cells acc
 | [],_,_,_,_,h=>h
 | y :: r,cells,acc,x,c,h=>by
  have e:cB (y :: r) cells acc=cB r cells (if y.2 == .free then(match cells.lookup y.1 with | some c=>(y.1,c) :: acc | none=>acc)else acc):=rfl;rw[e];refine Nb r cells _ x c ?_;cases hk:y.2 == .free with
  | false=>simpa using h
  | true=>
   cases hc:cells.lookup y.1 with
   | none=>simpa using h
   | some d=>simp only[DP];exact Ah _ h
theorem B5:∀(names:List<|Str×NameKind) (cells acc:List<|Str×Addr) (x:Str) (c:Addr),(x,NameKind.free)∈names->cells.lookup x=some c->(x,c)∈cB names cells acc
 | [],_,_,_,_,h,_=>by cases h
 | y :: r,cells,acc,x,c,h,hc=>by
  have e:cB (y :: r) cells acc=cB r cells (if y.2 == .free then(match cells.lookup y.1 with | some c=>(y.1,c) :: acc | none=>acc)else acc):=rfl;rw[e]
  rcases Ak.mp h with e2 | h
  ·subst e2;refine Nb r cells _ x c ?_;have:(NameKind.free == NameKind.free)=true:=rfl;simp only[hc,this,DP];exact Af
  ·exact B5 r cells _ x c h hc
theorem B6{α:Type}:∀{l:List (Str×α)} {x:Str} {c:α},(x,c)∈l->∃ d,l.lookup x=some d
 | [],_,_,h=>by cases h
 | (n,d) :: r,x,c,h=>by
  cases hx:x == n with
  | true=>exact⟨d,by simp[Dv,hx]⟩
  | false=>
   rcases Ak.mp h with e | h
   ·cases e;simp at hx
   ·obtain⟨d',e⟩:=B6 h;exact⟨d',by simp[Dv,hx,e]⟩
section
variable{prog:Program}{w:World}{A:Around}{R:Result->Shared->Prop}{s:Shared}
theorem k1f{elt target iter:Expr}{ifs:Ô}{scope:Scope}{pos:Pos}{it acc:Value}{env:Env}(I:Nat->Shared->Prop)
  (turn : ∀ n s, I n s → wpAny (model prog w) A (pyNext it) (λr À => match r with
   | none=>R (.ok .next) À
   | some v=>wpAny (model prog w) A (letOwnedTupleGo target it v) (λ_ s₁'=>wpAny (model prog w) A (assign target env v) (λ_ Á=>
     wpAny (model prog w) A (forIn ifs true λc r=>if r=true then do let ok <- isTrue c env<|eval c env;pure (ForInStep.yield ok)else pure (ForInStep.yield r)) (λok Â=>
      if ok=true then wpAny (model prog w) A (eval elt env) (λx Ã=>
       wpAny (model prog w) A (call (.builtin "list.append") [acc,x]) (λ_ È=>∃ m,m < n/\I m È) (notedBy (model prog w) A env λe s'=>R (.error e) s') Ã) (notedBy (model prog w) A env λe s'=>R (.error e) s') Â
      else ∃ m,m < n/\I m Â) (notedBy (model prog w) A env λe s'=>R (.error e) s') Á) (notedBy (model prog w) A env λe s'=>R (.error e) s') s₁') (notedBy (model prog w) A env λe s'=>R (.error e) s') À) (notedBy (model prog w) A env λe s'=>R (.error e) s') s)
  (n:Nat) (h:I n s) :
  codeAny (model prog w) A (.compLoop (.ListComp elt [⟨target,iter,ifs,0⟩] scope pos) 0 it acc env) R s:=by
 refine codeAny_loop rfl I (λn s hI=>?_) n h;show wpAny _ A ((compTurn (.ListComp elt [⟨target,iter,ifs,0⟩] scope pos) 0 it acc env).onRaise λx=>do noteFrame x env;theTreesLotGoes x) _ _ s;refine wpAny_noted ?_;rw[compTurn_list];refine BJ<|GZ<|BJ<|CV (turn n s hI) (λr À h₁=>?_) λ_ _ h'=>h';cases r with
 | none=>exact BP h₁
 | some v=>
  refine BJ<|CV h₁ (λ_ s₁' h₁'=>?_) λ_ _ h'=>h';refine BJ<|CV h₁' (λ_ Á Ä=>BJ<|CV Ä (λok Â Å=>?_) λ_ _ h'=>h') λ_ _ h'=>h';cases ok with
  | false=>exact BP ⟨rfl,Å⟩
  | true=>
   exact BJ<|BJ<|CV Å (λx Ã Æ=>BJ<|CV Æ (λ_ È Ì=>BP<|BP ⟨rfl,Ì⟩) λ_ _ h'=>h') λ_ _ h'=>h'
end
def Nc(X:Cx)(ifs:Ô)(t:TT):Prop:=
 ∀(pins:Ð) (s:Shared) (σ:St) (H:Hp) (Q:Bool->Hp->Prop),Inv X pins σ H s->t σ H Q ->
  wpAny (model X.prog X.w) X.A (forIn ifs true λc r=>if r=true then do let ok <- isTrue c X.env<|eval c X.env;pure (ForInStep.yield ok)else pure (ForInStep.yield r)) (TP X pins σ Q) X.xe s
def B7:TT:=λ_ H Q=>Q true H
def W1{X:Cx}:Nc X [] B7:=λ_ _ _ H _ I h=>wpAny_tests_nil ⟨H,I,h⟩
def W2{X:Cx}{c:Expr}{t:TT}(h:PT X c t):Nc X [c] t:=λpins s σ H Q I hq=>wpAny_tests_one<|h pins s σ H Q I hq
def dS(X:Cx)(N':Ñ)(scope:Scope)(cl:List<|Str×Addr)(C:Addr)(s₀:Shared)(H₀:Hp)(ex:List Addr):Cx:=
 {prog:=X.prog,w:=X.w,K:=X.K,mg:=X.mg,base:=X.base,A:=X.A,N:=N',s₀:=s₀,H₀:=H₀,env:=compEnvC scope cl C X.env,outer:=X.stack,stack:=X.stack,ex:=ex,fn:=λx=>match scope.names.lookup x with | some .cell=>true | _=>false,calm:=X.calm,pn:=[],xe:=λ_ _=>False}
def ja{α:Type}{t:Sem α}{Q Q':α->Shared->Prop}{M:Model}{A:Around}{E:Î}{s:Shared}(h:wpAny M A t Q (λ_ _=>False) s)(hQ:∀ a s,Q a s->Q' a s):wpAny M A t Q' E s:=CV h hQ λ_ _ z=>z.elim
section
variable{X:Cx}
def W3:gO X (.builtin "isinstance") (λxs H Q=>∃ x t T b,xs=[x,.ty T]/\c6 X.K H x t/\PySem.W.kitOne X.K t (.type T)=some b/\Q (.bl b) H):=by
 intro pins s σ H xs us Q I r h;obtain⟨x,t,T,b,rfl,ty,e,q⟩:=h;obtain⟨u,w',rfl,ru,e9⟩:=vals2 r;cases (show w'=Value.type T from e9);exact V4 I ru ty e λtk=>⟨.bl b,H,I.tok tk,rfl,q⟩
def W4:cV X (binaryOp .Mult) (λx y H Q=>∃ z i,x = .str z/\y = .int i/\0<=i/\i<=100000/\z.length * i.toNat<=100000/\Q (.str<|Txt.mul z i) H):=by
 intro pins s σ H x y v u Q I rx ry h;obtain⟨z,i,rfl,rfl,h0,h1,h2,q⟩:=h;obtain⟨t,rfl⟩:=rx;obtain⟨t',rfl⟩:=ry;have hsz:sizeLine=16777216:=DW;refine SB.mul ⟨?_,λh3 h4=>?_,λh3 h4=>?_⟩ λt' k=>⟨.str _,H,I.tok k,⟨_,rfl⟩,q⟩
 ·rw[BR (by omega),BR<|by omega];rfl
 ·have h5:(z.length:Int)<=100000:=by
   have h6:z.length * 1<=z.length * i.toNat:=Nat.mul_le_mul_left _ (by omega);omega
  have h7:(100000:Int)<=(2 ^ 63 - 1) / i:=by
   rw[Int.le_ediv_iff_mul_le<|by omega];have:(100000:Int) * i<=100000 * 100000:=Int.mul_le_mul_of_nonneg_left h1 (by decide);have e:(2:Int) ^ 63 - 1=9223372036854775807:=by decide
   omega
  omega
 ·unfold Builtin.Str.tooLong;rw[hsz];exact BR<|by omega
end
def isStar:Expr->Bool
 | .Starred _ _=>true
 | _=>false
def noStar(es:Ô):Bool:=es.all λe=>!isStar e
def pq(e:Expr)(es:Ô)(env:Env)(h:isStar e=false):starEach (e :: es) env=(false,eval e env) :: starEach es env:=by
 cases e <;> first | rfl | (exact absurd h<|by simp[isStar])
theorem xE(pos:Pos)(env:Env):∀ es:Ô,noStar es=true->(backTo pos<|starEach es env).any (·.1)=false
 | [],_=>rfl
 | e :: es,h=>by
  have h':(!isStar e)=true/\noStar es=true:=by
   have:=h;unfold noStar at this ⊢;rw[Gy,By]at this;exact this
  have hs:isStar e=false:=by
   have:=h'.1;cases q:isStar e with
   | true=>rw[q]at this;cases this
   | false=>rfl
  rw[pq e es env hs];show(false || (backTo pos<|starEach es env).any (·.1))=false;rw[xE pos env es h'.2];rfl
theorem rD{e:Expr}{es:Ô}(h:noStar (e :: es)=true):isStar e=false/\noStar es=true:=by
 unfold noStar at h ⊢;rw[Gy,By]at h;refine⟨?_,h.2⟩;cases q:isStar e with
 | true=>rw[q]at h;cases h.1
 | false=>rfl
section
variable{X:Cx}{CX:gP}{k:Nat}{f C:Addr}{fd:FuncData}{ps:Ñ}{sp:Sp}{lQ:List V}{ds:Ó}{E:XK}{x m:Str}{p pos apos:Pos}{e o:Expr}{es:Ô}{ta te:TE}{t:TA}{id T:String}{r:List V->Hp->VK->Prop}
def W5(ha:PE X e te)(hr:PA X es t)(hs:isStar e=false:=by rfl):PA X (e :: es) (MB te t):=V6 ha hr<|pq _ _ _ hs
def W6(F:aE X.prog X.w X.K X.mg X.base CX k f fd ps sp)(hr:bC k X.A)(hm:X.mg x=some (.ref f))(hk:PySem.W.keepIn X.K (.ref f)=true)(hb:Binds X.K fd ps [])(hx:lR CX X E)
  (ha:PA X (e :: es) t) (hg:Gl X x:=by rfl) (di:(x == ("__debug__" : Str))=false:=by decide) (hs:noStar (e :: es)=true:=by rfl):PE X (.Call (.Name x p) (e :: es) [] pos) (MC sp [] E t):=
 V' F hr hg hm hk hb .nil hx ha di (pq _ _ _ (rD hs).1) (xE _ _ _ (rD hs).2)
def B8(hc:gO X (.builtin id) r)(hm:X.mg x=none)(hv:bootBuiltins x=some (.builtin id))(ha:PA X (e :: es) t)(hg:Gl X x:=by rfl)(hn:x ≠ "__name__":=by decide)(di:(x == ("__debug__" : Str))=false:=by decide)
  (hs:noStar (e :: es)=true:=by rfl):PE X (.Call (.Name x p) (e :: es) [] pos) (xv r t):=
 Wc hc hg hm hv ha hn di (pq _ _ _ (rD hs).1) (xE _ _ _ (rD hs).2)
def B9(hc:gO X (.type T) r)(hm:X.mg x=none)(hv:bootBuiltins x=some (.type T))(ha:PA X (e :: es) t)(hg:Gl X x:=by rfl)(hn:x ≠ "__name__":=by decide)(di:(x == ("__debug__" : Str))=false:=by decide)
  (hs:noStar (e :: es)=true:=by rfl):PE X (.Call (.Name x p) (e :: es) [] pos) (xv r t):=
 Wd hc hg hm hv ha hn di (pq _ _ _ (rD hs).1) (xE _ _ _ (rD hs).2)
end
structure Ev(X:Cx)(e:Expr)(σ:St)(H:Hp)(Q:VK):Prop where
 run:∀(pins:Ð) (s:Shared),Inv X pins σ H s->wpAny (model X.prog X.w) X.A (eval e X.env) (EP X pins σ Q) X.xe s
structure Et(X:Cx)(e:Expr)(σ:St)(H:Hp)(Q:Bool->Hp->Prop):Prop where
 run:∀(pins:Ð) (s:Shared),Inv X pins σ H s->wpAny (model X.prog X.w) X.A (isTrue e X.env<|eval e X.env) (TP X pins σ Q) X.xe s
structure Ew(X:Cx)(e:Expr)(σ:St)(H:Hp)(Q:Bool->Hp->Prop):Prop where
 run:∀(whole:Sem Value) (pins:Ð) (s:Shared),Inv X pins σ H s->wpAny (model X.prog X.w) X.A (isTrue e X.env whole) (TP X pins σ Q) X.xe s
structure Ea(X:Cx)(es:Ô)(σ:St)(H:Hp)(Q:List V->Hp->Prop):Prop where
 run:∀(pos:Pos) (pins:Ð) (s:Shared),Inv X pins σ H s->wpAny (model X.prog X.w) X.A (spliced<|backTo pos<|starEach es X.env) (AP X pins σ Q) X.xe s
structure Eo(X:Cx)(e:Option Expr)(σ:St)(H:Hp)(Q:Option Int->Hp->Prop):Prop where
 run:∀(pins:Ð) (s:Shared),Inv X pins σ H s->wpAny (model X.prog X.w) X.A (evalPart e X.env) (λu s'=>∃ o H',Inv X pins σ H' s'/\IsPart u o/\Q o H') X.xe s
structure Eg(X:Cx)(e:Expr)(v:V)(σ:St)(H:Hp)(Q:St->Hp->Prop):Prop where
 run:∀(pins:Ð) (s:Shared) (u:Value),Inv X pins σ H s->RelV v u->wpAny (model X.prog X.w) X.A (assign e X.env u) (λ_ s'=>∃ σ' H',Inv X pins σ' H' s'/\Q σ' H') X.xe s
structure Run(X:Cx)(l:Õ)(D:Ends)(σ:St)(H:Hp):Prop where
 run:∀(pins:Ð) (s:Shared),Inv X pins σ H s->wpAny (model X.prog X.w) X.A (execs l X.env) (SP X pins D) X.xe s
def W7(X:Cx)(e:Expr):TE:=λσ H Q=>Ev X e σ H Q
def W8(X:Cx)(e:Expr):TT:=λσ H Q=>Et X e σ H Q
def W9(X:Cx)(e:Expr):TT:=λσ H Q=>Ew X e σ H Q
def ul(X:Cx)(es:Ô):TA:=λσ H Q=>Ea X es σ H Q
def W'(X:Cx)(e:Option Expr):TO:=λσ H Q=>Eo X e σ H Q
def Xa(X:Cx)(e:Expr):TG:=λv σ H Q=>Eg X e v σ H Q
def CA(X:Cx)(l:Õ):TS:=λD σ H=>Run X l D σ H
section
variable{X:Cx}{e a b c o:Expr}{es:Ô}{st:Stmt}{rest body k6:Õ}{σ:St}{H:Hp}{Q:VK}{T:Bool->Hp->Prop}{L:List V->Hp->Prop}{D:Ends}{pos p p2:Pos}
def bx:PE X e (W7 X e):=λpins s _ _ _ I h=>h.run pins s I
def lW:PT X e (W8 X e):=λpins s _ _ _ I h=>h.run pins s I
def Nf:PW X e (W9 X e):=λwh pins s _ _ _ I h=>h.run wh pins s I
def jb:PA X es (ul X es):=λpos pins s _ _ _ I h=>h.run pos pins s I
def Ng{e:Option Expr}:PO X e (W' X e):=λpins s _ _ _ I h=>h.run pins s I
def pv:PG X e (Xa X e):=λpins s _ _ _ u _ I r h=>h.run pins s u I r
def px{l:Õ}:i0 X l (CA X l):=λpins s _ _ _ I h=>h.run pins s I
def dU{t:TE}(h1:PE X e t)(h2:t σ H Q):Ev X e σ H Q:=⟨λpins s I=>h1 pins s σ H Q I h2⟩
def um{t:TT}(h1:PT X e t)(h2:t σ H T):Et X e σ H T:=⟨λpins s I=>h1 pins s σ H T I h2⟩
def xF{t:TT}(h1:PW X e t)(h2:t σ H T):Ew X e σ H T:=⟨λwh pins s I=>h1 wh pins s σ H T I h2⟩
def Nh{t:TA}(h1:PA X es t)(h2:t σ H L):Ea X es σ H L:=⟨λpos pins s I=>h1 pos pins s σ H L I h2⟩
def Ni{e:Option Expr}{t:TO}{R:Option Int->Hp->Prop}(h1:PO X e t)(h2:t σ H R):Eo X e σ H R:=⟨λpins s I=>h1 pins s σ H R I h2⟩
def CB{t:TG}{v:V}{R:St->Hp->Prop}(h1:PG X e t)(h2:t v σ H R):Eg X e v σ H R:=⟨λpins s u I r=>h1 pins s σ H v u R I r h2⟩
def lX{t:TS}(h1:PS X st t)(h2:t {D with nx:=λσ' H'=>Run X rest D σ' H'} σ H):Run X (st :: rest) D σ H:=⟨λpins s I=>Vq h1 px pins s σ H D I h2⟩
def bb(h:D.nx σ H):Run X [] D σ H:=⟨λpins s I=>Vp pins s σ H D I h⟩
def Ev.mono{Q':VK}(h:Ev X e σ H Q)(f:∀ v H',Q v H'->Q' v H'):Ev X e σ H Q':=⟨λpins s I=>aU (h.run pins s I) λ_ _ ⟨v,H',I',r,q⟩=>⟨v,H',I',r,f v H' q⟩⟩
def Et.mono{T':Bool->Hp->Prop}(h:Et X e σ H T)(f:∀ v H',T v H'->T' v H'):Et X e σ H T':=⟨λpins s I=>aU (h.run pins s I) λv _ ⟨H',I',q⟩=>⟨H',I',f v H' q⟩⟩
def Ea.mono{L':List V->Hp->Prop}(h:Ea X es σ H L)(f:∀ v H',L v H'->L' v H'):Ea X es σ H L':=⟨λpos pins s I=>aU (h.run pos pins s I) λ_ _ ⟨v,H',I',r,q⟩=>⟨v,H',I',r,f v H' q⟩⟩
def ae(i:Nat){x:Str}{v:V}(h:Q v H)(hv:σ[i]?=some (some v):=by rfl)(hN:X.N[i]?=some x:=by rfl)(hs:zZ X.env.scope x:=by first | exact Or.inl rfl | exact Or.inr (Or.inl rfl) | exact Or.inr<|Or.inr rfl)(hd:(x == ("__debug__" : Str))=false:=by decide)
  (iB:(x == ("__classdict__" : Str))=false:=by decide):Ev X (.Name x p) σ H Q:=dU (U' (i:=i) hN hs hd iB) ⟨v,hv,h⟩
def aC{i:Int}{j:Nat}(h:Q (.int i) H):Ev X (.Constant (.int i) j p) σ H Q:=dU (Va) h
def CD{i:Bool}{j:Nat}(h:Q (.bl i) H):Ev X (.Constant (.bool i) j p) σ H Q:=dU (Vb) h
def jc{i:Str}{j:Nat}(h:Q (.str i) H):Ev X (.Constant (.str i) j p) σ H Q:=dU (Vc) h
def Xb{x:Str}(v:V){u:Value}(hm:X.mg x=none)(hv:bootBuiltins x=some u)(r:RelV v u)(h:Q v H)(hg:Gl X x:=by rfl)(hn:x ≠ "__name__":=by decide)(hd:(x == ("__debug__" : Str))=false:=by decide):Ev X (.Name x p) σ H Q:=dU (Vd hg hm hv r hn hd) h
def aX{op:Operator}{r:R2}(ho:cV X (binaryOp op) r)(h:Ev X a σ H λx H1=>Ev X b σ H1 λy H2=>r x y H2 Q):Ev X (.BinOp a op b pos) σ H Q:=dU (VN ho bx bx) h
def uo{op:UnaryOp}{r:V->Hp->VK->Prop}(ho:xq X (unaryOp op) r)(h:Ev X a σ H λx H1=>r x H1 Q):Ev X (.UnaryOp op a pos) σ H Q:=dU (VO ho bx) h
def xG{op:CmpOp}{r:R2}(ho:cV X (compareOp op) r)(h:Ev X a σ H λx H1=>Ev X b σ H1 λy H2=>r x y H2 Q)(hm:behindInMarks op b=false:=by with_unfolding_all rfl):Ev X (.Compare a [op] [b] pos) σ H Q:=dU (VV ho bx bx hm) h
def Xc(h:Et X c σ H λk H1=>if k=true then Ev X a σ H1 Q else Ev X b σ H1 Q):Ev X (.IfExp c a b pos) σ H Q:=dU (Vn lW bx bx) h
def aY{r:R2}(hr:uc X r)(h:Ev X a σ H λx H1=>Ev X b σ H1 λy H2=>r x y H2 Q)(hs:MO b:=by intro _ _;rfl):Ev X (.Subscript a b pos) σ H Q:=dU (Wn hr bx bx hs) h
def rE{r:V->Option Int->Option Int->Hp->VK->Prop}{lo hi:Option Expr}(hr:A4 X r)(h:Ev X a σ H λx H1=>Eo X lo σ H1 λl H2=>Eo X hi σ H2 λu H3=>r x l u H3 Q):Ev X (.Subscript a (.Slice lo hi none p2) pos) σ H Q:=dU (Wk hr bx Ng Ng) h
def rF{R:Option Int->Hp->Prop}(h:R none H):Eo X none σ H R:=Ni (Wh) h
def rG{R:Option Int->Hp->Prop}(h:Ev X a σ H λx H1=>∃ i,x = .int i/\R (some i) H1):Eo X (some a) σ H R:=Ni (Wi bx) h
def az(h:L [] H):Ea X [] σ H L:=Nh (V5) h
def aq(h:Ev X e σ H λx H1=>Ea X es σ H1 λxs H2=>L (x :: xs) H2)(hs:isStar e=false:=by rfl):Ea X (e :: es) σ H L:=Nh (W5 bx jb hs) h
def dW{k:Nat}(h:Ea X es σ H λxs H1=>xs.length<=sizeLine/\∀ p,H1 p=none->Q (.ref p) (upd H1 p<|.tup xs)):Ev X (.Tuple es k pos) σ H Q:=dU (V7 jb) h
def cC(h:Ea X es σ H λxs H1=>xs.length<=sizeLine/\∀ p,H1 p=none->Q (.ref p) (upd H1 p<|.lst xs)):Ev X (.List es pos) σ H Q:=dU (V8 jb) h
def Nj{CX:gP}{k:Nat}{f:Addr}{fd:FuncData}{ps:Ñ}{sp:Sp}{E:XK}{x:Str}(F:aE X.prog X.w X.K X.mg X.base CX k f fd ps sp)(hr:bC k X.A)(hm:X.mg x=some (.ref f))(hk:PySem.W.keepIn X.K (.ref f)=true)(hb:Binds X.K fd ps [])(hx:lR CX X E)
  (h:Ea X (e :: es) σ H λvs H1=>sp vs H1 Q E) (hg:Gl X x:=by rfl) (di:(x == ("__debug__" : Str))=false:=by decide) (hs:noStar (e :: es)=true:=by rfl):Ev X (.Call (.Name x p) (e :: es) [] pos) σ H Q:=
 dU (W6 F hr hm hk hb hx jb hg di hs) (show Ea X (e :: es) σ H _ from h.mono λvs H1 q=>by rw[Bh];exact q)
def cF{id:String}{r:List V->Hp->VK->Prop}{x:Str}(hc:gO X (.builtin id) r)(hm:X.mg x=none)(hv:bootBuiltins x=some (.builtin id))(h:Ea X (e :: es) σ H λvs H1=>r vs H1 Q)(hg:Gl X x:=by rfl)(hn:x ≠ "__name__":=by decide)(di:(x == ("__debug__" : Str))=false:=by decide)
  (hs:noStar (e :: es)=true:=by rfl):Ev X (.Call (.Name x p) (e :: es) [] pos) σ H Q:=dU (B8 hc hm hv jb hg hn di hs) h
def nr{T:String}{r:List V->Hp->VK->Prop}{x:Str}(hc:gO X (.type T) r)(hm:X.mg x=none)(hv:bootBuiltins x=some (.type T))(h:Ea X (e :: es) σ H λvs H1=>r vs H1 Q)(hg:Gl X x:=by rfl)(hn:x ≠ "__name__":=by decide)(di:(x == ("__debug__" : Str))=false:=by decide)
  (hs:noStar (e :: es)=true:=by rfl):Ev X (.Call (.Name x p) (e :: es) [] pos) σ H Q:=dU (B9 hc hm hv jb hg hn di hs) h
def b8{op:CmpOp}{r:R2}(ho:cV X (compareOp op) r)(h:Ev X a σ H λx H1=>Ev X b σ H1 λy H2=>r x y H2 λz H3=>∃ k,z = .bl k/\T k H3)(hm:behindInMarks op b=false:=by with_unfolding_all rfl):Et X (.Compare a [op] [b] pos) σ H T:=um (VX ho bx bx hm) h
def Xd(h:Et X a σ H λk H1=>T (!k) H1):Et X (.UnaryOp .Not a pos) σ H T:=um (Vl lW) h
def xH(h:Ev X e σ H λx H1=>∃ k,x = .bl k/\T k H1)(he:∀ whole,isTrue e X.env whole=(do let v <- whole;standAt e.pos;holding [v] (truthy v)):=by intro _;rfl):Et X e σ H T:=um (Vf bx he) h
def Xe(h:Ev X e σ H λx H1=>∃ k,oZ X.K x H1 k/\T k H1)(he:∀ whole,isTrue e X.env whole=(do let v <- whole;standAt e.pos;holding [v] (truthy v)):=by intro _;rfl):Et X e σ H T:=um (V0 bx he) h
def uq(h:Ew X e σ H T):Et X e σ H T:=⟨λpins s I=>h.run _ pins s I⟩
def xI(h:Et X a σ H λk H1=>if k=true then Ew X (.BoolOp .And (b :: es) pos) σ H1 T else T false H1):Ew X (.BoolOp .And (a :: b :: es) pos) σ H T:=xF (Vj lW Nf) h
def Nk(h:Et X a σ H λk H1=>if k=true then T true H1 else Ew X (.BoolOp .Or (b :: es) pos) σ H1 T):Ew X (.BoolOp .Or (a :: b :: es) pos) σ H T:=xF (Vk lW Nf) h
def xJ(h:Et X a σ H T):Ew X (.BoolOp .And [a] pos) σ H T:=xF (Vh lW) h
def Xf(h:Et X a σ H T):Ew X (.BoolOp .Or [a] pos) σ H T:=xF (Vi lW) h
def a8(i:Nat){x:Str}{v:V}{R:St->Hp->Prop}(hN:X.N.Nodup)(h:R (σ.set i<|some v) H)(hi:X.N[i]?=some x:=by rfl)(hx:Loc X.env.scope x:=by first | exact Or.inl rfl | exact Or.inr rfl)(hf:X.fn x=true\/X.env.scope.names.lookup x=some .local:=by first | exact .inl rfl | exact .inr rfl | assumption):Eg X (.Name x p) v σ H R:=CB (Vv hN hi hx hf) h
def aW(i:Nat){x:Str}{pos':Pos}(hN:X.N.Nodup)(h:Ev X e σ H λv H1=>Run X rest D (σ.set i<|some v) H1)(hi:X.N[i]?=some x:=by rfl)(hx:Loc X.env.scope x:=by first | exact Or.inl rfl | exact Or.inr rfl)(hs:swapsWith e (some<|.Name x pos') pos.line X.env=pure false:=by rfl)
  (hf:X.fn x=true\/X.env.scope.names.lookup x=some .local:=by first | exact .inl rfl | exact .inr rfl | assumption):Run X (.Assign [.Name x pos'] e pos :: rest) D σ H:=lX (Vx hN hi hx bx hs hf) h
def hV(h:Et X c σ H λk H1=>if k=true then Run X body {D with nx:=λσ' H'=>Run X rest D σ' H'} σ H1 else Run X k6 {D with nx:=λσ' H'=>Run X rest D σ' H'} σ H1):Run X (.If c body k6 pos :: rest) D σ H:=lX (Vu lW px px) h
def Nm(φ ψ:Prop)(hc:∀ T:Bool->Hp->Prop,(∀ k:Bool,(k=true->φ)->(k=false->ψ)->T k H)->Et X c σ H T)(ht:φ->Run X body {D with nx:=λσ' H'=>Run X rest D σ' H'} σ H)(hu:ψ->Run X k6 {D with nx:=λσ' H'=>Run X rest D σ' H'} σ H):Run X (.If c body k6 pos :: rest) D σ H:=
 hV (hc _ λk p q=>by
  cases k with
  | true=>rw[BL rfl];exact ht<|p rfl
  | false=>rw[BK Ax];exact hu<|q rfl)
def bN(h:Ev X e σ H D.rt):Run X (.Return (some e) pos :: rest) D σ H:=lX (Vt bx) h
def fX(h:Ev X e σ H λ_ H1=>Run X rest D σ H1)(hs:swapsWith e none pos.line X.env=pure false:=by rfl):Run X (.Expr e pos :: rest) D σ H:=lX (Vs bx hs) h
def xK{tg:Expr}(h:Ev X e σ H λv H1=>Eg X tg v σ H1 λσ' H'=>Run X rest D σ' H')(hs:swapsWithSole [tg] e pos.line X.env=pure false:=by rfl)(hw:swappedStores [tg] e X.env=pure none:=by rfl)
  (h1:(assignEach [tg] X.env).map (·.2)=[assign tg X.env]:=by rfl):Run X (.Assign [tg] e pos :: rest) D σ H:=lX (Vw bx pv hs hw h1) h
def Loop(X:Cx)(tg:Expr)(body:Õ)(J:It)(D:Ends)(after:St->Hp->Prop)(σ:St)(H:Hp):Prop:=
 ∃ W:Nat->Nat->St->Hp->Prop,(∃ m,W 0 m σ H)/\∀ i m σ H,W i m σ H->(J.stop i H/\after σ H)\/(J.go i H/\∃ N:St->Hp->Prop,(∀ σ' H',N σ' H'->∃ m',m' < m/\W (i+1) m' σ' H') /\
  ∀ x H',J.tV i H x H'->Eg X tg x σ H' λσ2 H2=>Run X body {D with nx:=N,ct:=N,bk:=after} σ2 H2)
def CF{tg iter:Expr}{wi:TI}(hi:PI X tg iter wi)(h:wi σ H λJ H1=>Loop X tg body J D (λσ' H'=>Run X rest D σ' H') σ H1)(hp:PassesOwn (model X.prog X.w) X.A X.env X.xe:=by exact MP)(hc:X.calm=true:=by rfl)
  (hs:∀ x,foldedSetIterable iter X.env x=pure x:=by intro _;rfl):Run X (.For tg iter body [] pos :: rest) D σ H:=lX (VI hp hc hi pv px hs) h
def nw{tg:Expr}{q:Pos}(hm:X.mg "range" = none)(h:Ev X a σ H λx H1=>∃ j:Int,x = .int j/\-(2 ^ 62)<=j/\j < 2 ^ 62/\Loop X tg body (ro 0 j.toNat) D (λσ' H'=>Run X rest D σ' H') σ H1)(hg:Gl X "range":=by rfl)(hp:PassesOwn (model X.prog X.w) X.A X.env X.xe:=by exact MP)(hc:X.calm=true:=by rfl)(hs:isStar a=false:=by rfl) :
  Run X (.For tg (.Call (.Name "range" q) [a] [] p) body [] pos :: rest) D σ H:=
 CF (wi:=Ml<|ul X [a]) (Mm hg hm jb<|pq a [] _ hs) (show Ea X [a] σ H _ from aq (h.mono λx H1 ⟨j,e,h1,h2,h3⟩=>az ⟨j,by rw[e],h1,h2,h3⟩) hs) hp hc (by intro _;rfl)
def ia{tg iter:Expr}(h:Ev X iter σ H λx H1=>∃ a,x = .ref a/\(∃ xs,ak X.K H1 a xs)/\Loop X tg body (ng X.K a) D (λσ' H'=>Run X rest D σ' H') σ H1)(hp:PassesOwn (model X.prog X.w) X.A X.env X.xe:=by exact MP)(hc:X.calm=true:=by rfl)
  (hs:∀ x,foldedSetIterable iter X.env x=pure x:=by intro _;rfl):Run X (.For tg iter body [] pos :: rest) D σ H:=CF (dD bx) h hp hc hs
def nB{tg:Expr}{lo:Int}{n:Nat}{after:St->Hp->Prop}(Pv:Nat->St->Hp->Prop)(h0:Pv 0 σ H)
  (hs:∀ i σ H,i < n->Pv i σ H->Eg X tg (.int<|lo+i) σ H λσ2 H2=>Run X body {D with nx:=Pv<|i+1,ct:=Pv<|i+1,bk:=after} σ2 H2) (hd:∀ σ H,Pv n σ H->after σ H):Loop X tg body (ro lo n) D after σ H:=by
 refine⟨λi m σ H=>m=n - i/\i<=n/\Pv i σ H,⟨n,by simp,Cf _,h0⟩,?_⟩;rintro i m σ H ⟨rfl,hi,p⟩
 by_cases bd:i < n
 ·refine .inr ⟨bd,Pv<|i+1,λσ' H' p'=>⟨n - (i+1),by omega,rfl,bd,p'⟩,λx H' y=>?_⟩;obtain⟨e,y⟩:=y;subst e y;exact hs i σ _ bd p
 ·have e:i=n:=by omega
  subst e;exact .inl ⟨Ao _,hd σ H p⟩
def x0b{tg:Expr}{at_:Addr}{xs:List V}{after:St->Hp->Prop}(Pv:Nat->St->Hp->Prop)(h0:Pv 0 σ H)(hl:∀ i σ H,i<=xs.length->Pv i σ H->aP X.K H at_ xs)
  (hs:∀ i x σ H,xs[i]?=some x->Pv i σ H->Eg X tg x σ H λσ2 H2=>Run X body {D with nx:=Pv<|i+1,ct:=Pv<|i+1,bk:=after} σ2 H2) (hd:∀ σ H,Pv xs.length σ H->after σ H):Loop X tg body (VA X.K at_) D after σ H:=by
 refine⟨λi m σ H=>m=xs.length - i/\i<=xs.length/\Pv i σ H,⟨xs.length,by simp,Cf _,h0⟩,?_⟩;rintro i m σ H ⟨rfl,hi,p⟩;have q:=hl i σ H hi p
 by_cases bd:i < xs.length
 ·refine .inr ⟨⟨xs,xs[i],q,by simp[bd]⟩,Pv<|i+1,λσ' H' p'=>⟨xs.length - (i+1),by omega,rfl,bd,p'⟩,λx H' y=>?_⟩;obtain⟨e,y⟩:=y;subst e;exact hs i x σ _ (y xs q) p
 ·have e:i=xs.length:=by omega
  subst e;exact .inl ⟨⟨xs,q,Ao _⟩,hd σ H p⟩
def ib{tg:Expr}{at_:Addr}{xs:List V}{after:St->Hp->Prop}(Pv:Nat->St->Hp->Prop)(h0:Pv 0 σ H)(hl:∀ i σ H,i<=xs.length->Pv i σ H->ak X.K H at_ xs)
  (hs:∀ i x σ H,xs[i]?=some x->Pv i σ H->Eg X tg x σ H λσ2 H2=>Run X body {D with nx:=Pv<|i+1,ct:=Pv<|i+1,bk:=after} σ2 H2) (hd:∀ σ H,Pv xs.length σ H->after σ H):Loop X tg body (ng X.K at_) D after σ H:=by
 refine⟨λi m σ H=>m=xs.length - i/\i<=xs.length/\Pv i σ H,⟨xs.length,by simp,Cf _,h0⟩,?_⟩;rintro i m σ H ⟨rfl,hi,p⟩;have q:=hl i σ H hi p
 by_cases bd:i < xs.length
 ·refine .inr ⟨⟨xs,xs[i],q,by simp[bd]⟩,Pv<|i+1,λσ' H' p'=>⟨xs.length - (i+1),by omega,rfl,bd,p'⟩,λx H' y=>?_⟩;obtain⟨e,y⟩:=y;subst e;exact hs i x σ _ (y xs q) p
 ·have e:i=xs.length:=by omega
  subst e;exact .inl ⟨⟨xs,q,Ao _⟩,hd σ H p⟩
def bv.go{P:Program}{w:World}{K:PySem.W.Frag}{mg:Ò}{base:Heap}{x qual:Str}{st:Stmt}{f:Addr}{fd:FuncData}{N ps:Ñ}{k:Nat}{sp:Sp}(F:bv K x qual st f fd)(S:ao N ps<|aT st)(len:∀ vs H Q E,sp vs H Q E->vs.length=ps.length)
  (cM : ∀ (bH : Value) (A : Around) (outer : List Env) (s : Shared) (H : Hp) (vs : List V) (Q : VK) (E : XK), bC k (A.deeper<|envOfC qual (aT st) s.heap.objs.size f bH) → sp vs H Q E →
   Run (c7 bD P w K mg base N qual (aT st) f bH A outer s H E).rk (i6 st) {nx:=λ_ H'=>Q .non H',rt:=Q} (start N vs) H):aE P w K mg base bD (k+1) f fd ps sp:=
 F.ok S len λbH A outer s H vs Q E hr dQ=>⟨_,px,cM bH A outer s H vs Q E hr dQ⟩
end
structure Ei(X:Cx)(ifs:Ô)(σ:St)(H:Hp)(Q:Bool->Hp->Prop):Prop where
 run:∀(pins:Ð) (s:Shared),Inv X pins σ H s ->
  wpAny (model X.prog X.w) X.A (forIn ifs true λc r=>if r=true then do let ok <- isTrue c X.env<|eval c X.env;pure (ForInStep.yield ok)else pure (ForInStep.yield r)) (TP X pins σ Q) X.xe s
def CH(X:Cx)(N':Ñ)(scope:Scope)(e:Expr)(σ:St)(H:Hp)(Q:VK):Prop:=∀ cl C s₀ H₀ ex,Ev (dS X N' scope cl C s₀ H₀ ex) e σ H Q
def CI(X:Cx)(N':Ñ)(scope:Scope)(e:Expr)(v:V)(σ:St)(H:Hp)(Q:St->Hp->Prop):Prop:=∀ cl C s₀ H₀ ex,Eg (dS X N' scope cl C s₀ H₀ ex) e v σ H Q
def CL(X:Cx)(N':Ñ)(scope:Scope)(ifs:Ô)(σ:St)(H:Hp)(Q:Bool->Hp->Prop):Prop:=∀ cl C s₀ H₀ ex,Ei (dS X N' scope cl C s₀ H₀ ex) ifs σ H Q
def py(X:Cx)(N':Ñ)(scope:Scope)(tg:Expr)(ifs:Ô)(elt:Expr)(J:It)(D:Addr)(after:Hp->Prop)(σ:St)(H:Hp):Prop:=
 ∃ W:Nat->Nat->St->Hp->Prop,(∃ m,W 0 m σ H)/\∀ i m σ' H',W i m σ' H' ->
  (J.stop i H' ∧ after H') ∨ (J.go i H' ∧ ∃ N : St → Hp → Prop, (∀ σ' H', N σ' H' → ∃ m', m' < m ∧ W (i + 1) m' σ' H') ∧ ∀ x H2, J.tV i H' x H2 → CI X N' scope tg x σ' H2 λσ2 H3 => CL X N' scope ifs σ2 H3 λb H4 =>
   if b=true then CH X N' scope elt σ2 H4 λv H5=>∃ ys,H5 D=some (.lst ys)/\ys.length < sizeLine/\N σ2 (upd H5 D<|.lst<|ys++[v])else N σ2 H4)
theorem pA:∀(names:List<|Str×NameKind) (n:Nat) (acc:List<|Str×Addr),cellsFrom n names acc=cellsFrom n names []++acc
 | [],_,_=>rfl
 | (y,k) :: r,n,acc=>by
  unfold cellsFrom
  split
  ·rw[pA r (n+1)<|(y,n) :: acc,pA r (n+1) [(y,n)],At];rfl
  ·exact pA r n acc
theorem ur:∀(names:List<|Str×NameKind) (n:Nat) {x:Str} {c:Addr},(x,c)∈cellsFrom n names []->(x,NameKind.cell)∈names/\n<=c
 | [],_,_,_,h=>by cases h
 | (y,k) :: r,n,x,c,h=>by
  unfold cellsFrom at h
  split at h
  ·rename_i hk;rw[pA,Al]at h
   rcases h with h | h
   ·obtain⟨a,b⟩:=ur r (n+1) h;exact⟨Ah _ a,by omega⟩
   ·cases Ae.mp h;have:k = .cell:=by cases k <;> first | rfl | exact absurd hk<|by decide
    subst this;exact⟨Af,Ao _⟩
  ·obtain⟨a,b⟩:=ur r n h;exact⟨Ah _ a,b⟩
theorem Nn{names:List (Str×NameKind)}{n:Nat}{cl:List (Str×Addr)}{x:Str}{c:Addr}(h:(cellsFrom n names cl).lookup x=some c):((x,c)∈cellsFrom n names []/\n<=c)\/cl.lookup x=some c:=by
 rw[pA,QB]at h;cases e:(cellsFrom n names []).lookup x with
 | some d=>
  rw[e]at h;cases h;have hm:=CW e;exact .inl ⟨hm,(ur _ _ hm).2⟩
 | none=>
  rw[e]at h;exact .inr h
theorem Xg{names:List (Str×NameKind)}{n:Nat}{cl:List (Str×Addr)}{x:Str}(h:(x,NameKind.cell)∉names):(cellsFrom n names cl).lookup x=cl.lookup x:=by
 rw[pA,QB];cases e:(cellsFrom n names []).lookup x with
 | some d=>exact absurd (ur _ _<|CW e).1 h
 | none=>rfl
section
variable{M:Model}{A:Around}{E:Î}{s:Shared}
def Xh{scope:Scope}{globals:Addr}{closure:List (Str×Addr)}{qual:Str}{func:Option Addr}{code:Value}{outer:Env}{builtins:Addr}{Q:Env->Shared->Prop}
  (hQ : ∀ h', h'.Ns s.heap.objs.size (λ_ => none) → (∀ b o, s.heap.get? b = some o → h'.get? b = some o) → CellsOk h' (s.heap.objs.size + 1) (cellsFrom (s.heap.objs.size + 1) scope.names []) →
   Q (newEnv scope s.heap.objs.size globals (cellsFrom (s.heap.objs.size+1) scope.names closure) qual func code (some outer) builtins) {s with heap:=h'}) :
  wpAny M A (newFunctionEnv scope globals closure [] qual func code (some outer) builtins) Q E s:=by
 simp only[newFunctionEnv,Option.isSome_some,DP];refine BJ<|PL ?_;refine BJ (wpAny_layCells _ (λname kind cells=>by cases Xi:kind == NameKind.cell <;> simp[Xi]) _ _ _ _ ?_);have ok:=cellsFrom_ok scope.names (s.heap.push {cls:= .type "dict",data:= .dict #[]}) (s.heap.objs.size+1) [] ⟨λ_ _ hm=>(nomatch hm),List.Pairwise.nil⟩ (by rw[Dd];exact Ao _);rw[Dd]at ok;rw[show({s with heap:=s.heap.push {cls:= .type "dict",data:= .dict #[]}}:Shared).heap.objs.size=s.heap.objs.size+1 from Dd ..];rw[List.forIn_nil];exact BJ<|BP<|BP<|hQ _ ((Heap.Ns.new s.heap<|.type "dict").keeps<|pushCells_keeps _ _) (λb o e=>pushCells_keeps _ _ b o<|Ai _ e) ok
end
def nC(sc scope:Scope)(N N':Ñ):Bool:=
 (match scope.kind with | .function=>true | _=>false) &&
 scope.names.all (λy=>match y.2 with
  | .cell=>(match scope.names.lookup y.1 with | some .cell=>true | _=>false)
  | .local=>(match scope.names.lookup y.1 with | some .local=>true | _=>false)
  | .free=>(match sc.names.lookup y.1 with | some .cell=>true | some .free=>true | _=>false) && (match scope.names.lookup y.1 with | some .free=>true | _=>false)
  | _=>true) &&
 (List.range N'.length).all λi => match N'[i]? with
  | none=>true
  | some x=>match scope.names.lookup x with
   | some .local=>decide (N.length<=i)
   | some .cell=>decide (N.length<=i)
   | some .free=>decide (N[i]?=some x)
   | _=>true
structure cG(sc scope:Scope)(N N':Ñ):Prop where
 kind:scope.kind = .function
 cell:∀ y∈scope.names,y.2 = .cell->scope.names.lookup y.1=some .cell
 names:∀ y∈scope.names,y.2 = .local->scope.names.lookup y.1=some .local
 free:∀ y∈scope.names,y.2 = .free->sc.names.lookup y.1=some .cell\/sc.names.lookup y.1=some .free
 Np:∀ y∈scope.names,y.2 = .free->scope.names.lookup y.1=some .free
 own:∀(i:Nat) x,N'[i]?=some x->scope.names.lookup x=some .local->N.length<=i
 CM:∀(i:Nat) x,N'[i]?=some x->scope.names.lookup x=some .cell->N.length<=i
 out:∀(i:Nat) x,N'[i]?=some x->scope.names.lookup x=some .free->N[i]?=some x
def cG.of{sc scope:Scope}{N N':Ñ}(h:nC sc scope N N'=true):cG sc scope N N':=by
 unfold nC at h;rw[By,By]at h;obtain⟨⟨h1,h2⟩,h3⟩:=h;have pB:=Eb.mp h2;have CO:=Eb.mp h3;refine⟨?_,λy hy e=>?_,λy hy e=>?_,λy hy e=>?_,λy hy e=>?_,λi x hi e=>?_,λi x hi e=>?_,λi x hi e=>?_⟩
 ·revert h1;cases scope.kind <;> intro h1 <;> first | rfl | cases h1
 ·have q:=pB y hy;rw[e]at q;simp only at q
  split at q
  ·assumption
  ·cases q
 ·have q:=pB y hy;rw[e]at q;simp only at q
  split at q
  ·assumption
  ·cases q
 ·have q:=pB y hy;rw[e]at q;simp only at q;rw[By]at q;have q:=q.1
  split at q
  ·exact .inl<|by assumption
  ·exact .inr<|by assumption
  ·cases q
 ·have q:=pB y hy;rw[e]at q;simp only at q;rw[By]at q;have q:=q.2
  split at q
  ·assumption
  ·cases q
 ·have q:=CO i<|Bw.mpr (Ac.mp hi).1;rw[hi]at q;simp only[e]at q;exact BX q
 ·have q:=CO i<|Bw.mpr (Ac.mp hi).1;rw[hi]at q;simp only[e]at q;exact BX q
 ·have q:=CO i<|Bw.mpr (Ac.mp hi).1;rw[hi]at q;simp only[e]at q;exact BX q
section
variable{X:Cx}{pins:Ð}{σ:St}{H:Hp}{s:Shared}
def Xj{N':Ñ}{scope:Scope}{n:Nat}{fp:List Addr}{h₁:Heap}{t':Nat}{m:Ò}(I:Inv X pins σ H s)(ck:cG X.env.scope scope X.N N')(hl:N'.length=X.N.length+n)
  (xA:h₁.Ns s.heap.objs.size m) (old:∀ b o,s.heap.get? b=some o->h₁.get? b=some o) (nE:CellsOk h₁ (s.heap.objs.size+1)<|cellsFrom (s.heap.objs.size+1) scope.names [])
  (nF:∀ b∈fp,ci X pins H b/\b < s.heap.objs.size) :
  Inv (dS X N' scope (cellsFrom (s.heap.objs.size+1) scope.names<|cB scope.names X.env.cells []) s.heap.objs.size s H fp) [] (σ++List.replicate n none) H {s with heap:=h₁,toks:=t'}:=by
 have sub:∀ x c,(cB scope.names X.env.cells []).lookup x=some c->X.env.cells.lookup x=some c:=λx c e=>B4 _ _ _ (λ_ _ z=>by simp at z) x c<|CW e;have both:∀ x c,(cellsFrom (s.heap.objs.size+1) scope.names<|cB scope.names X.env.cells []).lookup x=some c->((x,c)∈cellsFrom (s.heap.objs.size+1) scope.names []/\s.heap.objs.size+1<=c)\/X.env.cells.lookup x=some c:=λx c e=>by
  rcases Nn e with z | z
  ·exact .inl z
  ·exact .inr<|sub x c z
 have nG:∀ x c,X.env.cells.lookup x=some c->c < s.heap.objs.size:=λx c e=>by
  obtain⟨v,o,ho,_⟩:=I.cell x c e;exact Au ho
 have Xk:H s.heap.objs.size=none:=I.aI.fresh<|Ao _;have kindOf:∀{x:Str} {k':NameKind},(relabel scope X.env).names.lookup x=some k'->∃ k,scope.names.lookup x=some k/\(k'=k\/(k = .free/\k' = .cell)):=λz=>M8 z;have Nq:∀ x,scope.names.lookup x=some .free->(cellsFrom (s.heap.objs.size+1) scope.names<|cB scope.names X.env.cells []).lookup x=(cB scope.names X.env.cells []).lookup x:=λx e=>Xg λhm=>by
  have:=ck.cell _ hm rfl;rw[e]at this;cases this
 have CU:∀ x,scope.names.lookup x=some .cell->∃ c,(cellsFrom (s.heap.objs.size+1) scope.names<|cB scope.names X.env.cells []).lookup x=some c:=λx e=>Ex.mp<|JC _ _ _<|.inl e;have Xl:(dS X N' scope (cellsFrom (s.heap.objs.size+1) scope.names<|cB scope.names X.env.cells []) s.heap.objs.size s H fp).Ok:=by
  refine⟨I.ok.mod,ck.kind,I.ok.glob,I.ok.blt,Ao _,λx y c e1 e2=>?_,λx hx=>?_,λx c hf e=>?_,I.ok.hd,I.ok.frames,.inl rfl,λb hb=>⟨Bp (nF b hb).2,λx c e=>?_⟩,
   I.bs,Bq I.ok.m7 I.sz,λb o e hb=>?_,λb hb hf=>?_,I.stack,I.dk⟩
  ·rcases both x c e1 with z1 | z1
   ·rcases both y c e2 with z2 | z2
    ·exact name_of_addr nE.apart z1.1 z2.1
    ·exact absurd (nG y c z2)<|Nat.not_lt.mpr<|Ep z1.2
   ·rcases both y c e2 with z2 | z2
    ·exact absurd (nG x c z1)<|Nat.not_lt.mpr<|Ep z2.2
    ·exact I.ok.inj x y c z1 z2
  ·have gk:(relabel scope X.env).names.lookup x=some .cell\/(relabel scope X.env).names.lookup x=some .free:=hx;have:∃ k,scope.names.lookup x=some k/\(k = .free\/k = .cell):=by
    rcases gk with z | z
    ·obtain⟨k,e,r⟩:=kindOf z
     rcases r with r | ⟨r,_⟩
     ·exact⟨k,e,.inr r.symm⟩
     ·exact⟨k,e,.inl r⟩
    ·obtain⟨k,e,r⟩:=kindOf z
     rcases r with r | ⟨r,_⟩
     ·exact⟨k,e,.inl r.symm⟩
     ·exact⟨k,e,.inl r⟩
   obtain⟨k,e,rfl | rfl⟩:=this
   ·have hm:=CW e;obtain⟨c,hc⟩:=I.ok.has x<|ck.free _ hm rfl;obtain⟨d,hd⟩:=B6<|B5 scope.names X.env.cells [] x c hm hc;exact⟨d,(Nq x e).trans hd⟩
   ·exact CU x e
  ·have hx:scope.names.lookup x=some .cell:=by
    have xL:(match scope.names.lookup x with | some .cell=>true | _=>false)=true:=hf
    split at xL
    ·assumption
    ·cases xL
   have e':(cellsFrom (s.heap.objs.size+1) scope.names<|cB scope.names X.env.cells []).lookup x=some c:=e;have q1:=Ex.mp<|JC scope.names (s.heap.objs.size+1) []<|.inl hx;obtain⟨d,hd⟩:=q1;rw[pA,QB,hd]at e';have e2:d=c:=Option.some.inj e';have:=(ur _ _<|CW hd).2;rw[<- e2];exact Ep this
  ·have e':(cellsFrom (s.heap.objs.size+1) scope.names<|cB scope.names X.env.cells []).lookup x=some c:=e
   rcases both x c e' with z | z
   ·have h1:=(nF b hb).2;have h2:=z.2;exact λk=>absurd h1<|Nat.not_lt.mpr<|by rw[<- k];exact Ep h2
   ·exact(nF b hb).1.2.2.2.2.1 x c z
  ·have:=(nF b hb).1.2.2.2.1
   rcases this with z | z
   ·exact I.ok.j3 b o e z
   ·exact absurd (Bi (Au e)<|Bq I.ok.m7 z)<|De _
  ·rcases Ak.mp (I.fv b hf)with z | z
   ·exact(nF b hb).1.2.1 z
   ·exact(nF b hb).1.2.2.1 z
 refine⟨Xl,rfl,I.bare,Un.kept old,⟨m,xA,λi x v e1 e2 e3=>?_⟩,λx c e=>?_,Xk,λx c e=>?_,λp hp=>absurd hp (by simp[dS]),I.aI.kept old,?_⟩
 ·have hi:i < σ.length:=by
   by_cases hi:i < σ.length
   ·exact hi
   ·rw[Am (by omega),Ez]at e2
    split at e2 <;> cases e2
  rw[An hi]at e2;have pC:N'[i]?=some x:=e1;have Xm:∃ k',(relabel scope X.env).names.lookup x=some k'/\(k' = .local\/k' = .cell\/k' = .free):=by
   rcases e3 with z | z | z
   ·exact⟨_,z,.inl rfl⟩
   ·exact⟨_,z,.inr<|.inl rfl⟩
   ·exact⟨_,z,.inr<|.inr rfl⟩
  obtain⟨k',CY,lY⟩:=Xm;obtain⟨k,ek,r⟩:=kindOf CY;have kf:k = .free:=by
   rcases r with r | ⟨r,_⟩
   ·subst r
    rcases lY with z | z | z
    ·subst z;have:=ck.own i x pC ek;rw[I.len]at hi;omega
    ·subst z;have:=ck.CM i x pC ek;rw[I.len]at hi;omega
    ·exact z
   ·exact r
  subst kf;have hm:=CW ek;have Xn:=ck.out i x pC ek;obtain⟨m0,C0,lZ⟩:=I.loc;have kx:=ck.free _ hm rfl;obtain⟨u,ru,lk⟩:=lZ i x v Xn e2 (by rcases kx with z | z;exact .inr<|.inl z;exact .inr<|.inr z);refine⟨u,ru,.inr ⟨?_,?_⟩⟩
  ·rcases r with r | ⟨_,r⟩
   ·subst r;exact .inr CY
   ·subst r;exact .inl CY
  ·rcases lk with ⟨k1,_⟩ | ⟨_,c,hc,iC⟩
   ·have Nr:X.env.scope.names.lookup x=some .local:=k1
    rcases kx with z | z
    ·rw[Nr]at z;cases z
    ·rw[Nr]at z;cases z
   ·have jd:=B5 scope.names X.env.cells [] x c hm hc;obtain⟨d,hd⟩:=B6 jd;have:d=c:=Option.some.inj<|(sub x d hd).symm.trans hc;subst this;obtain⟨o,ho,je⟩:=iC;exact⟨d,(Nq x ek).trans hd,o,old _ _ ho,je⟩
 ·have e':(cellsFrom (s.heap.objs.size+1) scope.names<|cB scope.names X.env.cells []).lookup x=some c:=e
  rcases both x c e' with z | z
  ·exact⟨none,(nE.empty x c z.1).1⟩
  ·obtain⟨v,o,ho,je⟩:=I.cell x c z;exact⟨v,o,old _ _ ho,je⟩
 ·have e':(cellsFrom (s.heap.objs.size+1) scope.names<|cB scope.names X.env.cells []).lookup x=some c:=e
  rcases both x c e' with z | z
  ·exact I.aI.fresh<|Ep z.2
  ·exact I.cf x c z
 ·rw[Ad,Fg,I.len];exact hl.symm
end
structure Clause(e:Expr)(d:Nat)(tg iter:Expr)(ifs:Ô)(acc:Value)(env:Env)(inner:Sem Unit):Prop where
 at':(clausesOf e)[d]?=some ⟨tg,iter,ifs,0⟩
 quiet:∀ it,(Code.compLoop e d it acc env).quiet=true
 den:∀(prog:Program) (w:World) it,(model prog w).den (.compLoop e d it acc env)=(compTurn e d it acc env).onRaise (λx=>do noteFrame x env;theTreesLotGoes x)
 Xp:∀(A:Around) it,A.under (.compLoop e d it acc env)=A
 C1:∀(prog:Program) (w:World) it,(model prog w).den (.compStart e d it acc env)=(compStart e d it acc env).onRaise (λx=>do noteFrame x env;standAt theWindowsPlace)
 C2:∀(A:Around) it,A.under (.compStart e d it acc env)=A
 turn:∀ it,compTurn e d it acc env=(do
   standAt iter.pos
   match <- pyNext it with
   | none=>pure<|.done .next
   | some v=>
    letOwnedTupleGo tg it v
    assign tg env v
    let mut ok:=true
    for c in ifs do
     if ok then ok <- isTrue c env<|eval c env
    if ok then
     inner
    again (.compLoop e d it acc env))
section
variable{prog:Program}{w:World}{A:Around}{R:Result->Shared->Prop}{s:Shared}
theorem Xq{e:Expr}{d:Nat}{tg iter:Expr}{ifs:Ô}{it acc:Value}{env:Env}{inner:Sem Unit}(C:Clause e d tg iter ifs acc env inner)(I:Nat->Shared->Prop)
  (turn : ∀ n s, I n s → wpAny (model prog w) A (pyNext it) (λr À => match r with
   | none=>R (.ok .next) À
   | some v=>wpAny (model prog w) A (letOwnedTupleGo tg it v) (λ_ s₁'=>wpAny (model prog w) A (assign tg env v) (λ_ Á=>
     wpAny (model prog w) A (forIn ifs true λc r=>if r=true then do let ok <- isTrue c env<|eval c env;pure (ForInStep.yield ok)else pure (ForInStep.yield r)) (λok Â=>
      if ok=true then wpAny (model prog w) A inner (λ_ Ã=>∃ m,m < n/\I m Ã) (notedBy (model prog w) A env λe s'=>R (.error e) s') Â
      else ∃ m,m < n/\I m Â) (notedBy (model prog w) A env λe s'=>R (.error e) s') Á) (notedBy (model prog w) A env λe s'=>R (.error e) s') s₁') (notedBy (model prog w) A env λe s'=>R (.error e) s') À) (notedBy (model prog w) A env λe s'=>R (.error e) s') s)
  (n:Nat) (h:I n s) :
  codeAny (model prog w) A (.compLoop e d it acc env) R s:=by
 refine codeAny_loop (C.quiet it) I (λn s hI=>?_) n h;rw[C.Xp,C.den];refine wpAny_noted ?_;rw[C.turn];refine BJ<|GZ<|BJ<|CV (turn n s hI) (λr À h₁=>?_) λ_ _ h'=>h';cases r with
 | none=>exact BP h₁
 | some v=>
  refine BJ<|CV h₁ (λ_ s₁' h₁'=>?_) λ_ _ h'=>h';refine BJ<|CV h₁' (λ_ Á Ä=>BJ<|CV Ä (λok Â Å=>?_) λ_ _ h'=>h') λ_ _ h'=>h';cases ok with
  | false=>exact BP ⟨rfl,Å⟩
  | true=>exact BJ<|CV Å (λ_ Ã Æ=>BP ⟨rfl,Æ⟩) λ_ _ h'=>h'
def Xr{e:Expr}{d:Nat}{tg iter:Expr}{ifs:Ô}{it acc:Value}{env:Env}{inner:Sem Unit}(C:Clause e d tg iter ifs acc env inner)
  (h0:codeAny (model prog w) A (.compLoop e d it acc env) R s)
  (h:wpAny (model prog w) A (pyIter it) (λC3 s'=>codeAny (model prog w) A (.compLoop e d C3 acc env) R s') (notedBy (model prog w) A env λx s'=>R (.error x) s') s) :
  codeAny (model prog w) A (.compStart e d it acc env) R s:=by
 refine JR ?_;rw[C.C2,C.C1];refine wpAny_notedAt ?_;unfold compStart;rw[C.at'];show wpAny _ _ (ask >>= _) _ _ s;refine BJ<|JL<|wpAny_ite ?_
 split
 ·first
   | exact BJ<|BP<|BP<|And.intro (C.quiet _) h0
   | exact BP<|And.intro (C.quiet _) h0
 ·first
   | exact BJ<|HN<|BJ<|GZ<|BJ<|CV h (λC3 s' h'=>BP<|And.intro (C.quiet _) h') λ_ _ x=>x
   | (refine BJ<|HN ?_;show wpAny _ _ (standAt iter.pos >>= _) _ _ s;exact BJ<|GZ<|BJ<|CV h (λC3 s' h'=>BP<|And.intro (C.quiet _) h') λ_ _ x=>x)
end
structure k8(X:Cx)(m:Sem Unit)(σ:St)(H:Hp)(Q:St->Hp->Prop):Prop where
 run:∀(pins:Ð) (s:Shared),Inv X pins σ H s->wpAny (model X.prog X.w) X.A m (λ_ s'=>∃ σ' H',Inv X pins σ' H' s'/\Q σ' H') X.xe s
def ic(X:Cx)(tg:Expr)(ifs:Ô)(inner:Sem Unit)(J:It)(after:St->Hp->Prop)(σ:St)(H:Hp):Prop:=
 ∃ W:Nat->Nat->St->Hp->Prop,(∃ m,W 0 m σ H)/\∀ i m σ' H',W i m σ' H' ->
  (J.stop i H' ∧ after σ' H') ∨ (J.go i H' ∧ ∃ N : St → Hp → Prop, (∀ σ' H', N σ' H' → ∃ m', m' < m ∧ W (i + 1) m' σ' H') ∧ ∀ x H2, J.tV i H' x H2 → Eg X tg x σ' H2 λσ2 H3 => Ei X ifs σ2 H3 λb H4 =>
   if b=true then k8 X inner σ2 H4 N else N σ2 H4)
def xM{X:Cx}(jf:X.xe=λ_ _=>False)(hc:X.calm=true){e:Expr}{d:Nat}{tg iter:Expr}{ifs:Ô}{acc:Value}{inner:Sem Unit}(C:Clause e d tg iter ifs acc X.env inner){pins:Ð}{σ:St}{H:Hp}{s:Shared}
  {it:Addr} {fp:List Addr} {tn:Nat->Heap->Prop} {J:It} {after:St->Hp->Prop} {R:Result->Shared->Prop} (I:Inv X pins σ H s) (T:Turn X.prog X.w X.K tg J fp it tn) (st:tn 0 s.heap) (hf:∀ b∈fp,ci X pins H b) (h:ic X tg ifs inner J after σ H)
  (hR:∀ σ' H' s',Inv X pins σ' H' s'->after σ' H'->R (.ok .next) s') :
  codeAny (model X.prog X.w) X.A (.compStart e d (.ref it) acc X.env) R s:=by
 obtain⟨W,⟨m0,w0⟩,turn⟩:=h;have stat:∀{H':Hp},(∀ b∈fp,H' b=none)->∀ b∈fp,ci X pins H' b:=λhn b hb=>⟨hn b hb,(hf b hb).2⟩;have loop:codeAny (model X.prog X.w) X.A (.compLoop e d (.ref it) acc X.env) R s:=by
  refine Xq C (λk s'=>∃ i σ' H',Inv X pins σ' H' s'/\tn i s'.heap/\(∀ b∈fp,H' b=none)/\W i k σ' H') ?_ m0 ⟨0,σ,H,I,st,λb hb=>(hf b hb).1,w0⟩;rintro k s4 ⟨i,σ4,H4,J4,Nu,Nv,w4⟩
  rcases turn i k σ4 H4 w4 with ⟨stop,qn⟩ | ⟨go,N,hN,step⟩
  ·have d1:=T.done X rfl rfl rfl hc i pins s4 σ4 H4 (λ_ _=>False) J4 (stat Nv) Nu stop;refine ja d1 λr s5 ⟨hr,I5⟩=>?_;subst hr;exact hR _ _ _ I5 qn
  ·have d1:=T.item X rfl rfl rfl hc i pins s4 σ4 H4 (λ_ _=>False) J4 (stat Nv) Nu go;refine ja d1 λr s5 ⟨u,hr,h5⟩=>?_;subst hr;refine ja h5 λ_ s6 ⟨x,H6,I6,r6,y6,C4,Xs⟩=>?_;have Xt:=I6.pinned (stat Xs)<|T.obj _ _ C4;have again:∀{σ7:St} {H7:Hp} {s7:Shared},Inv X (pins++tW fp s6.heap) σ7 H7 s7->N σ7 H7->∃ m,m < k/\∃ i σ' H',Inv X pins σ' H' s7/\tn i s7.heap/\(∀ b∈fp,H' b=none)/\W i m σ' H':=λ{σ7 H7 s7} I7 n7=>by
    obtain⟨m',hm,w7⟩:=hN σ7 H7 n7;refine⟨m',hm,i+1,σ7,H7,I7.cL,T.keep _ _ _ C4 λb hb o e=>(I7.pin (b,o)<|Aw _<|Aw _<|xo hb e).1,λb hb=>?_,w7⟩;obtain⟨o,e,d⟩:=T.obj _ _ C4 b hb;exact(I7.pin (b,o)<|Aw _<|Aw _<|xo hb e).2.1
   have a1:=(step x H6 y6).run _ s6 u Xt r6;rw[jf]at a1;refine ja a1 λ_ s7 ⟨σ7,H7,I7,q7⟩=>?_;have a2:=q7.run _ s7 I7;rw[jf]at a2;refine ja a2 λok s8 ⟨H8,I8,q8⟩=>?_;cases ok with
   | false=>
    rw[BK Ax]at q8 ⊢;exact again I8 q8
   | true=>
    rw[BL rfl]at q8 ⊢;have a3:=q8.run _ s8 I8;rw[jf]at a3;exact ja a3 λ_ s9 ⟨σ9,H9,I9,q9⟩=>again I9 q9
 exact Xr C loop<|T.self _ 0 _ _ _ st loop
def Nw{X:Cx}{e:Expr}{tg iter:Expr}{ifs:Ô}{scope:Scope}{N':Ñ}{newAcc:Sem Value}{o0:Obj}{u0:Addr->HO}{n:Nat}{inner:Value->Env->Sem Unit}{pins:Ð}{σ:St}{H2:Hp}{s2:Shared}{E:Î}{RR:Value->Addr->Result->Shared->Prop}{it:Addr}{fp:List Addr}{tn:Nat->Heap->Prop}{J:It}{Q:VK}
  (ie:∀(Q:Î) (E:Î) (s:Shared),Q (.ref s.heap.objs.size) {s with heap:=s.heap.push o0}->wpAny (model X.prog X.w) X.A newAcc Q E s) (hU:∀(H:Hp) (h:Heap),sysModules < h.objs.size->aB X.prog X.w H (h.push o0) h.objs.size (u0 h.objs.size))
  (hc:X.calm=true) (ck:cG X.env.scope scope X.N N') (hl:N'.length=X.N.length+n) (hC:∀ acc env,Clause e 0 tg iter ifs acc env<|inner acc env)
  (I2:Inv X pins σ H2 s2) (T:Turn X.prog X.w X.K tg J fp it tn) (gN:tn 0 s2.heap) (f2:∀ b∈fp,ci X pins H2 b)
  (q:∀ D,H2 D=none->∀ cl C s₀ H₀ ex,ic (dS X N' scope cl C s₀ H₀ ex) tg ifs (inner (.ref D)<|compEnvC scope cl C X.env) J (λ_ H'=>Q (.ref D) H') (σ++List.replicate n none)<|upd H2 D<|u0 D)
  (C5:∀ D C H' s' m,Inv X pins σ H' s'->s'.heap.Ns C m->H' C=none->C≠X.env.locals->X.s₀.heap.objs.size<=C->(∀ x c,X.env.cells.lookup x=some c->c≠C)->(∀ p∈X.pn++pins,p.1≠C)->Q (.ref D) H'->RR (.ref D) C (.ok .next) s') :
  wpAny (model X.prog X.w) X.A newAcc (λacc Â=>wpAny (model X.prog X.w) X.A (newFunctionEnv scope X.env.globals (cB scope.names X.env.cells []) [] X.env.qual none .none<|some X.env) (λkc Ã=>
   codeAny (model X.prog X.w) X.A (.compStart e 0 (.ref it) acc {kc with scope:=relabel scope X.env}) (RR acc kc.locals) Ã) E Â) E s2:=by
 refine ie _ _ _<|Xh λh₁ É Ê Ë=>?_;have hD:H2 s2.heap.objs.size=none:=I2.aI.fresh<|Ao _;have q0:=q s2.heap.objs.size hD;have fl:∀ b∈fp,b < s2.heap.objs.size:=λb hb=>by
  obtain⟨o,e,_⟩:=T.obj 0 _ gN b hb;exact Au e
 have I3:Inv X pins σ (upd H2 s2.heap.objs.size<|u0 s2.heap.objs.size) {s2 with heap:=s2.heap.push o0}:=
  I2.laid (t':=s2.toks) (λb o e=>Ai _ e) (Ao _) (hU _ _ I2.big)
 generalize xN:({s2 with heap:=s2.heap.push o0}:Shared)=s3 at I3 É Ê Ë ⊢;have Xu:s3.heap.objs.size=s2.heap.objs.size+1:=by rw[<- xN];exact Dd ..
 have C6:∀ b o,s2.heap.get? b=some o->s3.heap.get? b=some o:=λb o e=>by rw[<- xN];exact Ai _ e
 have old:∀ b o,s3.heap.get? b=some o->h₁.get? b=some o:=Ê;have f3:∀ b∈fp,ci X pins (upd H2 s2.heap.objs.size<|u0 s2.heap.objs.size) b/\b < s3.heap.objs.size:=λb hb=>by
  refine⟨⟨?_,(f2 b hb).2⟩,by rw[Xu];exact Bx<|fl b hb⟩;rw[ax<|Bp<|fl b hb];exact(f2 b hb).1
 have I4:=λ(t':Nat)=>Xj (N':=N') (scope:=scope) (n:=n) (fp:=fp) (h₁:=h₁) (t':=t') I3 ck hl É old Ë f3;generalize hX:dS X N' scope (cellsFrom (s3.heap.objs.size+1) scope.names<|cB scope.names X.env.cells []) s3.heap.objs.size s3 (upd H2 s2.heap.objs.size<|u0 s2.heap.objs.size) fp=X' at I4;have eP:X'.prog=X.prog:=by rw[<- hX];rfl
 have ew:X'.w=X.w:=by rw[<- hX];rfl
 have eK:X'.K=X.K:=by rw[<- hX];rfl
 have eA:X'.A=X.A:=by rw[<- hX];rfl
 have eE:X'.env=compEnvC scope (cellsFrom (s3.heap.objs.size+1) scope.names<|cB scope.names X.env.cells []) s3.heap.objs.size X.env:=by rw[<- hX];rfl
 have ec:X'.calm=true:=by rw[<- hX];exact hc
 have L4:X'.xe=λ_ _=>False:=by rw[<- hX];rfl
 have stat:∀{H':Hp},(∀ b∈fp,H' b=none)->∀ b∈fp,ci X' [] H' b:=λhn b hb=>by
  refine⟨hn b hb,?_,?_,?_,?_,?_⟩
  ·rw[eE];exact Bp (f3 b hb).2
  ·rw[<- hX];intro hf
   rcases Ak.mp (I3.fv b hf)with z | z
   ·exact(f3 b hb).1.2.1 z
   ·exact(f3 b hb).1.2.2.1 z
  ·rw[<- hX];exact .inl hb
  ·rw[eE];intro x c e
   rcases Nn e with z | z
   ·exact λk=>absurd (f3 b hb).2<|Nat.not_lt.mpr<|by rw[<- k];exact Ep z.2
   ·exact(f3 b hb).1.2.2.2.2.1 x c<|B4 _ _ _ (λ_ _ z=>by simp at z) x c<|CW z
  ·rw[<- hX];intro p hp;exact absurd hp<|by simp[dS]
 have fin:∀{σ':St} {H':Hp} {s':Shared},Inv X' [] σ' H' s'->Q (.ref s2.heap.objs.size) H'->RR (.ref s2.heap.objs.size) s3.heap.objs.size (.ok .next) s':=λ{σ' H' s'} I' q'=>by
  obtain⟨m',xl,_⟩:=id I'.loc;rw[eE]at xl;have Xv:s'.os=s3.os:=by have:=I'.os;rw[<- hX]at this;exact this
  have Xw:Un (d7 X.stack) fp (upd H2 s2.heap.objs.size<|u0 s2.heap.objs.size) H' s3.heap s'.heap:=by have:=I'.base;rw[<- hX]at this;exact this
  have aI:b9 X.prog X.w H' s'.heap:=by have:=I'.aI;rw[eP,ew]at this;exact this
  have IX:Inv X pins σ H' s':=I3.call' (ch:=fp) Xv Xw aI I'.bare λb hb=>⟨(f3 b hb).1.2.2.2.1,(f3 b hb).1.2.1,(f3 b hb).1.2.2.2.2.1,(f3 b hb).1.2.2.2.2.2⟩;have jK:=I'.free;rw[eE]at jK;refine C5 _ _ H' s' m' IX xl jK (Ct I3.lt) I3.sz (λx c e z=>?_) (λp hp z=>?_) q'
  ·obtain⟨v,o,ho,_⟩:=I3.cell x c e;exact absurd (Au ho)<|by rw[z];exact De _
  ·exact absurd (Au (I3.pin p hp).1)<|by rw[z];exact De _
 have Xx:∀ b∈fp,ci X' [] (upd H2 s2.heap.objs.size<|u0 s2.heap.objs.size) b:=stat λb hb=>(f3 b hb).1.1;have q1:ic X' tg ifs (inner (.ref s2.heap.objs.size) X'.env) J (λ_ H'=>Q (.ref s2.heap.objs.size) H') (σ++List.replicate n none) (upd H2 s2.heap.objs.size<|u0 s2.heap.objs.size):=by
  rw[eE,<- hX];exact q0 _ _ _ _ _
 have T':Turn X'.prog X'.w X'.K tg J fp it tn:=by rw[eP,ew,eK];exact T
 have fin2:=xM (s:={s3 with heap:=h₁,toks:=s3.toks}) L4 ec (hC (.ref s2.heap.objs.size) X'.env) (I4 s3.toks) T' (T.keep 0 _ _ gN λb _ o e=>old b o<|C6 b o e) Xx q1 (R:=RR (.ref s2.heap.objs.size) s3.heap.objs.size) λσ' H' s' I' a'=>fin I' a';rw[eP,ew,eA,eE]at fin2;exact fin2
def emit(elt:Expr)(acc:Value)(env:Env):Sem Unit:=do let _ <- call (.builtin "list.append") [acc,<- eval elt env]
section
variable{X:Cx}{elt tg iter:Expr}{ifs:Ô}{scope:Scope}{pos:Pos}{σ:St}{H:Hp}{acc:Value}{env:Env}{N':Ñ}{J:It}
def Xy:Clause (.ListComp elt [⟨tg,iter,ifs,0⟩] scope pos) 0 tg iter ifs acc env (emit elt acc env):=⟨rfl,λ_=>rfl,λ_ _ _=>rfl,λ_ _=>rfl,λ_ _ _=>rfl,λ_ _=>rfl,λ_=>rfl⟩
def Nx{D:Addr}{Q:St->Hp->Prop} (h:Ev X elt σ H λv H1=>∃ ys,H1 D=some (.lst ys)/\ys.length < sizeLine/\Q σ (upd H1 D<|.lst<|ys++[v])):k8 X (emit elt (.ref D) X.env) σ H Q:=by
 refine⟨λpins s I=>?_⟩;unfold emit;refine BJ<|aU (h.run pins s I) λv s1 ⟨x,H1,I1,r1,ys,hy,hz,q⟩=>?_;refine BJ<|aU (MX (X:=X) _ s1 σ H1 (.ref D) [x] (.ref D) [v] (λ_ H'=>Q σ H') I1 rfl (.cons r1 .nil) ⟨_,ys,x,rfl,rfl,hy,hz,q⟩) λ_ s2 ⟨_,H2,I2,_,q2⟩=>BP ⟨σ,H2,I2,q2⟩
def Eg.mono{v:V}{R R':St->Hp->Prop}(h:Eg X elt v σ H R)(f:∀ σ' H',R σ' H'->R' σ' H'):Eg X elt v σ H R':=⟨λpins s u I r=>aU (h.run pins s u I r) λ_ _ ⟨σ',H',I',q⟩=>⟨σ',H',I',f _ _ q⟩⟩
def Ei.mono{T T':Bool->Hp->Prop}(h:Ei X ifs σ H T)(f:∀ b H',T b H'->T' b H'):Ei X ifs σ H T':=⟨λpins s I=>aU (h.run pins s I) λ_ _ ⟨H',I',q⟩=>⟨H',I',f _ _ q⟩⟩
theorem Xz{D:Addr}{after:Hp->Prop}(h:py X N' scope tg ifs elt J D after σ H)(cl:List<|Str×Addr)(C:Addr)(s₀:Shared)(H₀:Hp)(ex:List Addr):ic (dS X N' scope cl C s₀ H₀ ex) tg ifs (emit elt (.ref D)<|compEnvC scope cl C X.env) J (λ_ H'=>after H') σ H:=by
 obtain⟨W,w0,t⟩:=h;refine⟨W,w0,λi m σ' H' w=>(t i m σ' H' w).imp id λ⟨g,N,hN,st⟩=>⟨g,N,hN,λx H2 y=>(st x H2 y cl C s₀ H₀ ex).mono λσ2 H3 h3=>(h3 cl C s₀ H₀ ex).mono λb H4 h4=>?_⟩⟩;cases b with
 | true=>
  rw[BL rfl]at h4 ⊢;exact Nx (X:=dS X N' scope cl C s₀ H₀ ex)<|h4 cl C s₀ H₀ ex
 | false=>
  rw[BK Ax]at h4 ⊢;exact h4
def XA{n:Nat}{pins:Ð}{H2:Hp}{s2:Shared}{E:Î}{RR:Value->Addr->Result->Shared->Prop}{it:Addr}{fp:List Addr}{tn:Nat->Heap->Prop}{Q:VK}
  (hc:X.calm=true) (ck:cG X.env.scope scope X.N N') (hl:N'.length=X.N.length+n) (I2:Inv X pins σ H2 s2) (T:Turn X.prog X.w X.K tg J fp it tn) (gN:tn 0 s2.heap) (f2:∀ b∈fp,ci X pins H2 b)
  (q:∀ D,H2 D=none->py X N' scope tg ifs elt J D (λH'=>Q (.ref D) H') (σ++List.replicate n none) (upd H2 D<|.lst []))
  (C5:∀ D C H' s' m,Inv X pins σ H' s'->s'.heap.Ns C m->H' C=none->C≠X.env.locals->X.s₀.heap.objs.size<=C->(∀ x c,X.env.cells.lookup x=some c->c≠C)->(∀ p∈X.pn++pins,p.1≠C)->Q (.ref D) H'->RR (.ref D) C (.ok .next) s') :
  wpAny (model X.prog X.w) X.A (newList []) (λacc Â=>wpAny (model X.prog X.w) X.A (newFunctionEnv scope X.env.globals (cB scope.names X.env.cells []) [] X.env.qual none .none<|some X.env) (λkc Ã=>
   codeAny (model X.prog X.w) X.A (.compStart (.ListComp elt [⟨tg,iter,ifs,0⟩] scope pos) 0 (.ref it) acc {kc with scope:=relabel scope X.env}) (RR acc kc.locals) Ã) E Â) E s2:=
 Nw (newAcc:=newList []) (o0:={cls:= .type "list",dict:=none,data:= .seq ([]:Ó).toArray}) (u0:=λ_=> .lst []) (λ_ _ _ h=>CZ h<|by show(0:Nat)<=sizeLine;exact Cf _) (λ_ _ _=>⟨Cf _,[],0,.nil,Av _ rfl⟩) hc ck hl (λ_ _=>Xy) I2 T gN f2 (λD hD=>Xz<|q D hD) C5
end
section
variable{X:Cx}{elt tg iter c:Expr}{ifs:Ô}{scope:Scope}{pos p:Pos}{wi:TI}{σ:St}{H:Hp}{Q:VK}{T:Bool->Hp->Prop}{rest:Õ}{D:Ends}
def iF(h:T true H):Ei X [] σ H T:=⟨λpins s I=>W1 pins s σ H T I h⟩
def jL(h:Et X c σ H T):Ei X [c] σ H T:=⟨λpins s I=>W2 lW pins s σ H T I h⟩
def fY(sc:Scope)(N N':Ñ)(n:Nat)(hi:PI X tg iter wi)
  (h:wi σ H λJ H1=>∀ D,H1 D=none->py X N' scope tg ifs elt J D (λH'=>Q (.ref D) H') (σ++List.replicate n none) (upd H1 D<|.lst []))
  (hc:X.calm=true:=by rfl) (kd:X.env.scope=sc:=by rfl) (hN:X.N=N:=by rfl) (hk:nC sc scope N N'=true:=by decide +kernel) (hl:N'.length=N.length+n:=by rfl)
  (hs:∀ x,foldedSetIterable iter X.env x=pure x:=by intro _;rfl):Ev X (.ListComp elt [⟨tg,iter,ifs,0⟩] scope pos) σ H Q:=by
 refine⟨λpins s I=>?_⟩;subst kd hN;have ck:=cG.of hk;rw[eval_ListComp];refine wpAny_comprehension_free (use:=none) rfl hs (M9 λx hx hf=>I.ok.has x.1<|ck.free x hx hf) ck.kind ck.names (aU (hi pins s σ H _ I h) λv s1 h1=>aU h1 λoW s2 h2=>?_);obtain⟨it,fp,tn,J,H2,e,I2,T,gN,f2,q⟩:=h2;subst e;refine XA (RR:=λacc C=>compPost (model X.prog X.w) X.A X.xe none (EP X pins σ Q) acc C) hc ck hl I2 T gN f2 q ?_;intro D C H' s' m IX hn hC c1 c2 c3 c4 qq;exact⟨m,hn,λh' l7=>⟨.ref D,H',IX.turned (t':=s'.toks) (λb o hb e=>l7.extBut b o hb e) hC (CK<|CK c1) (.inr c2) c3 c4,rfl,qq⟩⟩
end
structure aS(P:Program)(w:World)(K:PySem.W.Frag)(mg:Ò)(base:Heap)(k:Nat)(x:Str)(ps:Ñ)(sp:Sp):Prop where
 ex:∃ f fd,aE P w K mg base bD k f fd ps sp/\Binds K fd ps []/\PySem.W.keepIn K (.ref f)=true/\mg x=some (.ref f)
def aS.mono{P:Program}{w:World}{K:PySem.W.Frag}{mg:Ò}{base:Heap}{j k:Nat}{x:Str}{ps:Ñ}{sp:Sp}(h:aS P w K mg base j x ps sp)(le:j<=k):aS P w K mg base k x ps sp:=
 let ⟨f,fd,F,r⟩:=h.ex;⟨f,fd,F.mono le,r⟩
def bz{X:Cx}{k:Nat}{ps:Ñ}{sp:Sp}{x:Str}{e:Expr}{es:Ô}{σ:St}{H:Hp}{Q:VK}{p pos:Pos}(G:aS X.prog X.w X.K X.mg X.base k x ps sp)(hr:bC k X.A)
  (h:Ea X (e :: es) σ H λvs H1=>sp vs H1 Q E0) (hg:Gl X x:=by rfl) (di:(x == ("__debug__" : Str))=false:=by decide) (hs:noStar (e :: es)=true:=by rfl):Ev X (.Call (.Name x p) (e :: es) [] pos) σ H Q:=
 let ⟨_,_,F,b,kp,m⟩:=G.ex;Nj F hr m kp b j8 h hg di hs
def _root_.L2.bC.ig{k:Nat}{A:Around}(hr:bC k A):A.units+100 < cLine:=by have:=hr.un;omega
def _root_.L2.bC.u1{k:Nat}{A:Around}(hr:bC k A):A.units+1 < cLine:=by have:=hr.un;omega
def Df(K:PySem.W.Frag)(x:Str)(st:Stmt):Prop:=∃(f:Addr) (fd:FuncData),PySem.W.nsIn K mainGlobals x=some (some<|.ref f)/\bv K x x st f fd
def ut{K:PySem.W.Frag}{x:Str}{st:Stmt}{f:Addr}{oc kV doc pm bH ct:Value}{od an:Option Addr}{sl:Array (Option Value)}(a:PySem.W.nsIn K mainGlobals x=some (some<|.ref f))
  (l:K.lookup f=some ⟨oc,od,.func<|PySem.W.fnOf x x (ni st) (i6 st) (aT st) .none kV doc pm an bH ct,sl⟩) (c:PySem.W.codeIn K bH x=true) (k:PySem.W.keepIn K (.ref f)=true):Df K x st:=⟨f,_,a,WH l c k⟩
structure rH where
 f:Addr
 bH:Value
 A:Around
 outer:List Env
 s:Shared
 H:Hp
 E:XK
def XB(N:Ñ)(qual:Str)(scope:Scope)(P:Program)(w:World)(K:PySem.W.Frag)(mg:Ò)(base:Heap)(b:rH):Cx:=(c7 bD P w K mg base N qual scope b.f b.bH b.A b.outer b.s b.H b.E).rk
def En(Q:VK):Ends:={nx:=λ_ H'=>Q .non H',rt:=Q}
def bv.gb{P:Program}{w:World}{K:PySem.W.Frag}{mg:Ò}{base:Heap}{x qual:Str}{st:Stmt}{f:Addr}{fd:FuncData}{N ps:Ñ}{k:Nat}{sp:Sp}(F:bv K x qual st f fd)(S:ao N ps<|aT st)(len:∀ vs H Q E,sp vs H Q E->vs.length=ps.length)
  (cM:∀(b:rH) (H:Hp) (vs:List V) (Q:VK) (E:XK),bC k (b.A.deeper<|envOfC qual (aT st) b.s.heap.objs.size b.f b.bH)->sp vs H Q E->Run (XB N qual (aT st) P w K mg base b) (i6 st) (En Q) (start N vs) H):aE P w K mg base bD (k+1) f fd ps sp:=
 F.go S len λbH A outer s H vs Q E hr dQ=>cM ⟨f,bH,A,outer,s,H,E⟩ H vs Q E hr dQ
theorem lg{us:Ó}{k:Nat}(h:us.length=k+1):∃ a r,us=a :: r/\r.length=k:=by
 cases us with
 | nil=>cases h
 | cons a r=>exact⟨a,r,rfl,Nat.succ.inj h⟩
def gQ{fd:FuncData}{ps:Ñ}(f:∀ a:Value,bindArgs fd ⟨[a],[]⟩=pure (ps.zip [a])):∀ us:Ó,us.length=1->bindArgs fd ⟨us,[]⟩=pure (ps.zip us):=λus h=>by
 obtain⟨a,r0,e0,h0⟩:=lg h;have z:=Bd.mp h0;subst z e0;exact f a
def gR{fd:FuncData}{ps:Ñ}(f:∀ a b:Value,bindArgs fd ⟨[a,b],[]⟩=pure (ps.zip [a,b])):∀ us:Ó,us.length=2->bindArgs fd ⟨us,[]⟩=pure (ps.zip us):=λus h=>by
 obtain⟨a,r0,e0,h0⟩:=lg h;obtain⟨b,r1,e1,h1⟩:=lg h0;have z:=Bd.mp h1;subst z e1 e0;exact f a b
def rJ{fd:FuncData}{ps:Ñ}(f:∀ a b c:Value,bindArgs fd ⟨[a,b,c],[]⟩=pure (ps.zip [a,b,c])):∀ us:Ó,us.length=3->bindArgs fd ⟨us,[]⟩=pure (ps.zip us):=λus h=>by
 obtain⟨a,r0,e0,h0⟩:=lg h;obtain⟨b,r1,e1,h1⟩:=lg h0;obtain⟨c,r2,e2,h2⟩:=lg h1;have z:=Bd.mp h2;subst z e2 e1 e0;exact f a b c
def Ny{fd:FuncData}{ps:Ñ}(f:∀ a b c d:Value,bindArgs fd ⟨[a,b,c,d],[]⟩=pure (ps.zip [a,b,c,d])):∀ us:Ó,us.length=4->bindArgs fd ⟨us,[]⟩=pure (ps.zip us):=λus h=>by
 obtain⟨a,r0,e0,h0⟩:=lg h;obtain⟨b,r1,e1,h1⟩:=lg h0;obtain⟨c,r2,e2,h2⟩:=lg h1;obtain⟨d,r3,e3,h3⟩:=lg h2;have z:=Bd.mp h3;subst z e3 e2 e1 e0;exact f a b c d
def Df.has{P:Program}{w:World}{K:PySem.W.Frag}{mg:Ò}{h base:Heap}{k:Nat}{x:Str}{st:Stmt}{ps:Ñ}{sp:Sp}(d:Df K x st)(X:K.In h)(G:h.Ns mainGlobals mg)
  (hb:∀(kV doc pm:Value) (an:Option Addr) (bH ct:Value) (us:Ó),us.length=ps.length->bindArgs (PySem.W.fnOf x x (ni st) (i6 st) (aT st) .none kV doc pm an bH ct) ⟨us,[]⟩=pure (ps.zip us))
  (ok:∀{f:Addr} {fd:FuncData},bv K x x st f fd->aE P w K mg base bD k f fd ps sp):aS P w K mg base k x ps sp:=
 let ⟨f,fd,a,F⟩:=d;⟨f,fd,ok F,F.binds hb,F.kp,KR X G a⟩
def Df.law{P:Program}{w:World}{K:PySem.W.Frag}{mg:Ò}{h:Heap}{k:Nat}{x y:Str}{st:Stmt}{sp:Sp}{fa:Addr}(d:Df K x st)(X:K.In h)(G:h.Ns mainGlobals mg)(C7:mg x=some (.ref fa))
  (hb:∀(kV doc pm:Value) (an:Option Addr) (bH ct:Value) (s:Shared) (v:Value),BindsTo s (PySem.W.fnOf x x (ni st) (i6 st) (aT st) .none kV doc pm an bH ct) ⟨[v],[]⟩ [(y,v)])
  (ok:∀(base:Heap) {f:Addr} {fd:FuncData},bv K x x st f fd->aE P w K mg base bD k f fd [y] sp) :
  ∃ fd:FuncData,(∀(s:Shared) (v:Value),BindsTo s fd ⟨[v],[]⟩ [(y,v)])/\∀ base:Heap,K.In base->base.Ns mainGlobals mg->aE P w K mg base bD k fa fd [y] sp:=by
 obtain⟨f,fd,a,F⟩:=d;have e:=C7.symm.trans<|KR X G a;cases e;obtain⟨oc,od,kV,doc,pm,an,bH,ct,kZ,rfl,lk,iB⟩:=id F.ex;exact⟨_,hb kV doc pm an bH ct,λbase _ _=>ok base F⟩
end L2
namespace bA
open PySem
def rK(m i:Nat):Nat:=(i * 5+1) % m
def gn(m:Nat):Nat->Nat->List Nat
 | 0,_=>[]
 | n+1,i=>i :: gn m n (rK m i)
def l9(m:Nat):Nat->Nat->Nat
 | 0,i=>i
 | n+1,i=>l9 m n<|rK m i
theorem xO(m:Nat):∀ a b i,l9 m (a+b) i=l9 m b (l9 m a i)
 | 0,b,i=>by rw[Er];rfl
 | a+1,b,i=>by
  rw[show a+1+b=(a+b)+1 by omega];exact xO m a b<|rK m i
theorem C8(m:Nat):∀ n t i,t < n->l9 m t i∈gn m n i
 | 0,_,_,h=>by omega
 | n+1,0,i,_=>Af
 | n+1,t+1,i,h=>Ah _<|C8 m n t (rK m i)<|by omega
theorem C9(m:Nat):∀ n i j,j∈gn m n i->∃ t,t < n/\l9 m t i=j
 | 0,_,_,h=>by cases h
 | n+1,i,j,h=>by
  rcases Ak.mp h with rfl | h
  ·exact⟨0,Gf _,rfl⟩
  ·obtain⟨t,ht,e⟩:=C9 m n (rK m i) j h;exact⟨t+1,Nat.succ_lt_succ ht,e⟩
def covers(m:Nat):Bool:=l9 m m 0 == 0 && (List.range m).all λj=>(gn m m 0).contains j
def XD:covers 8=true:=by decide +kernel
def XE:covers 16=true:=by decide +kernel
def XG:covers 32=true:=by decide +kernel
def XH:covers 64=true:=by decide +kernel
def XI:covers 128=true:=by decide +kernel
def XJ:covers 512=true:=by decide +kernel
def Pow(m:Nat):Prop:=m=8\/m=16\/m=32\/m=64\/m=128\/m=512
def Pow.covers{m:Nat}(h:Pow m):bA.covers m=true:=by
 rcases h with rfl | rfl | rfl | rfl | rfl | rfl
 ·exact XD
 ·exact XE
 ·exact XG
 ·exact XH
 ·exact XI
 ·exact XJ
def Pow.pos{m:Nat}(h:Pow m):8<=m/\m<=512:=by rcases h with rfl | rfl | rfl | rfl | rfl | rfl <;> decide
def Pow.mem{m i j:Nat}(h:Pow m)(hi:i < m)(hj:j < m):j∈gn m m i:=by
 have q:=h.covers;unfold bA.covers at q;rw[By,Eb,HX]at q;obtain⟨z,q⟩:=q;obtain⟨a,ha,ea⟩:=C9 m m 0 i<|Bk.mp<|q i<|Bw.mpr hi;obtain⟨b,hb,eb⟩:=C9 m m 0 j<|Bk.mp<|q j<|Bw.mpr hj
 rcases Do b a with c | c
 ·have e:l9 m (b+m - a) i=j:=by
   rw[<- ea,<- xO,show a+(b+m - a)=m+b by omega,xO,z,eb]
  rw[<- e];exact C8 m m _ i<|by omega
 ·have e:l9 m (b - a) i=j:=by
   rw[<- ea,<- xO,show a+(b - a)=b by omega,eb]
  rw[<- e];exact C8 m m _ i<|by omega
def rL(mask:Nat):Nat->Nat->Nat->List Nat
 | 0,_,_=>[]
 | n+1,i,p=>i :: rL mask n (SetTable.leap mask i p).1 (SetTable.leap mask i p).2
theorem Nz(mask:Nat):∀ n i,rL mask n i 0=gn (mask+1) n i
 | 0,_=>rfl
 | n+1,i=>by
  show i :: rL mask n ((i * 5+1+0 / 32) % (mask+1)) (0 / 32)=i :: gn (mask+1) n (rK (mask+1) i);rw[show(0 / 32:Nat)=0 by decide,Gg,Nz mask n];rfl
def XM{mask i p:Nat}:(SetTable.leap mask i p).1 < mask+1:=Gx _<|Gf _
theorem NA{mask:Nat}:∀(t n i p:Nat),i < mask+1->p < 32 ^ t->∃ i',i' < mask+1/\∀ j∈gn (mask+1) n i',j∈rL mask (t+n) i p
 | 0,n,i,p,hi,hp=>by
  have e:p=0:=by simpa using hp
  subst e;refine⟨i,hi,λj hj=>?_⟩;rw[Er,Nz];exact hj
 | t+1,n,i,p,hi,hp=>by
  have h2:p / 32 < 32 ^ t:=by
   rw[Nat.div_lt_iff_lt_mul<|by decide];rw[Nat.pow_succ]at hp;exact hp
  obtain⟨i',h',q⟩:=NA t n (SetTable.leap mask i p).1 (p / 32) XM h2;refine⟨i',h',λj hj=>?_⟩;rw[show t+1+n=(t+n)+1 by omega];exact Ah _<|q j hj
def XN{mask i p j:Nat}(hm:Pow<|mask+1)(hi:i < mask+1)(hp:p < 2 ^ 64)(hj:j < mask+1):j∈rL mask (mask+15) i p:=by
 obtain⟨i',h',q⟩:=NA (mask:=mask) 14 (mask+1) i p hi (Bi hp<|by decide);have:=q j<|hm.mem h' hj;rwa[show 14+(mask+1)=mask+15 by omega]at this
abbrev gq:=Array<|Option Nat
def nil?(owner:gq)(j:Nat):Bool:=(owner.getD j<|some 0).isNone
def XO(mask i:Nat):i<=SetTable.runEnd mask i:=by unfold SetTable.runEnd;split <;> omega
theorem ND{mask:Nat}{owner:gq}:∀{fuel i p:Nat},SetTable.layClean.free mask owner fuel i p=none->∀ j∈rL mask fuel i p,nil? owner j=false
 | 0,_,_,_,j,hj=>by cases hj
 | fuel+1,i,p,h,j,hj=>by
  unfold SetTable.layClean.free at h
  split at h
  ·cases h
  ·rename_i hf
   rcases Ak.mp hj with rfl | hj
   ·have:=Gc.mp hf 0 (Bw.mpr<|by have:=XO mask j;omega);rw[Gg]at this;exact Es.mpr this
   ·exact ND (fuel:=fuel) h j hj
theorem NM{mask:Nat}{owner:gq}:∀{fuel i p j:Nat},SetTable.layClean.free mask owner fuel i p=some j->nil? owner j=true
 | 0,_,_,_,h=>by cases h
 | fuel+1,i,p,j,h=>by
  unfold SetTable.layClean.free at h
  split at h
  ·rename_i k hf;cases h;have:=Gu hf;exact this
  ·exact NM (fuel:=fuel) h
theorem nil?_iff{owner:gq}{j:Nat}:nil? owner j=true↔owner[j]?=some none:=by
 unfold nil?;rw[Dy];cases h:owner[j]? with
 | none=>simp
 | some v=>cases v <;> simp
structure Lies(m:Nat)(owner:gq)(k:Nat):Prop where
 size:owner.size=m
 lt:∀(j v:Nat),owner[j]?=some (some v)->v < k
 has:∀ v:Nat,v < k->∃ j:Nat,owner[j]?=some (some v)
 inj:∀(i j v:Nat),owner[i]?=some (some v)->owner[j]?=some (some v)->i=j
def Lies.start(m:Nat):Lies m (Array.replicate m none) 0 where
 size:=by simp
 lt:=λj v h=>by
  rw[QX]at h
  split at h <;> cases h
 has:=λv h=>by omega
 inj:=λi j v h=>by
  rw[QX]at h
  split at h <;> cases h
def Lies.put{m k j:Nat}{owner:gq}(L:Lies m owner k)(hj:owner[j]?=some none):Lies m (owner.setIfInBounds j<|some k) (k+1):=by
 have bd:j < owner.size:=by
  rcases Do j owner.size with h | h
  ·exact h
  ·rw[Ej h]at hj;cases hj
 have at':∀ i:Nat,(owner.setIfInBounds j<|some k)[i]?=if j=i then some (some k)else owner[i]?:=by
  intro i;rw[Array.getElem?_setIfInBounds]
  split
  ·rename_i e;subst e;first | rfl | rw[BL bd]
  ·rfl
 refine⟨by rw[Array.size_setIfInBounds];exact L.size,λi v h=>?_,λv h=>?_,λa b v ha hb=>?_⟩
 ·rw[at']at h
  split at h
  ·cases h;exact Ft _
  ·exact Bx<|L.lt i v h
 ·rcases Nat.lt_succ_iff_lt_or_eq.mp h with h | rfl
  ·obtain⟨i,hi⟩:=L.has v h;refine⟨i,?_⟩;rw[at',BK λe=>by subst e;rw[hj]at hi;cases hi];exact hi
  ·exact⟨j,by rw[at',BL rfl]⟩
 ·rw[at']at ha hb
  split at ha
  ·rename_i e;cases ha
   split at hb
   ·rename_i e2;exact e.symm.trans e2
   ·have:=L.lt b k hb;omega
  ·split at hb
   ·cases hb;have:=L.lt a k ha;omega
   ·exact L.inj a b v ha hb
def live(m:Nat)(owner:gq):List (Nat×Nat):=(List.range m).filterMap λj=>(owner.getD j none).map (j,·)
theorem getD_some{owner:gq}{j v:Nat}:owner.getD j none=some v↔owner[j]?=some (some v):=by
 rw[Dy];cases h:owner[j]? with
 | none=>simp
 | some x=>simp
def gu{m:Nat}{owner:gq}{p:Nat×Nat}:p∈live m owner↔p.1 < m/\owner[p.1]?=some (some p.2):=by
 unfold live;rw[Gb]
 constructor
 ·rintro ⟨j,hj,e⟩;cases hv:owner.getD j none with
  | none=>rw[hv]at e;cases e
  | some v=>
   rw[hv]at e;cases e;exact⟨Bw.mp hj,getD_some.mp hv⟩
 ·rintro ⟨h1,h2⟩;exact⟨p.1,Bw.mpr h1,by rw[getD_some.mpr h2];rfl⟩
def Lies.nodup{m k:Nat}{owner:gq}(L:Lies m owner k):((live m owner).map (·.2)).Nodup:=by
 have q:∀ l:List Nat,l.Nodup->((l.filterMap λj=>(owner.getD j none).map (j,·)).map (·.2)).Nodup:=by
  intro l
  induction l with
  | nil=>intro _;exact Ch
  | cons a r ih=>
   intro hn;rw[Bf]at hn;rw[Ef];cases hv:owner.getD a none with
   | none=>exact ih hn.2
   | some v=>
    show(v :: (r.filterMap λj=>(owner.getD j none).map (j,·)).map (·.2)).Nodup;rw[Bf];refine⟨λh=>?_,ih hn.2⟩;obtain⟨p,hp,e⟩:=Ap.mp h;obtain⟨j,hj,e2⟩:=Gb.mp hp;cases hw:owner.getD j none with
    | none=>rw[hw]at e2;cases e2
    | some u=>
     rw[hw]at e2;cases e2;have e3:u=v:=e;subst e3;have:=L.inj a j u (getD_some.mp hv)<|getD_some.mp hw;subst this;exact hn.1 hj
 exact q _ QZ
def Lies.perm{m k:Nat}{owner:gq}(L:Lies m owner k):((live m owner).map (·.2)).Perm (List.range k):=by
 rw[Fj L.nodup QZ];intro v;rw[Bw,Ap]
 constructor
 ·rintro ⟨p,hp,rfl⟩;exact L.lt _ _ (gu.mp hp).2
 ·intro h;obtain⟨j,hj⟩:=L.has v h;have bd:j < m:=by
   rw[<- L.size]
   rcases Do j owner.size with h | h
   ·exact h
   ·rw[Ej h]at hj;cases hj
  exact⟨(j,v),gu.mpr ⟨bd,hj⟩,rfl⟩
def Lies.length{m k:Nat}{owner:gq}(L:Lies m owner k):(live m owner).length=k:=by
 have:=L.perm.length_eq;rwa[Aa,Fh]at this
def Lies.room{m k:Nat}{owner:gq}(L:Lies m owner k)(h:k < m):∃ j,j < m/\nil? owner j=true:=by
 refine DN λhn=>?_;have all:∀ j,j < m->∃ v,owner.getD j none=some v:=by
  intro j hj;have hs:j < owner.size:=by rw[L.size];exact hj
  cases hv:owner[j] with
  | none=>exact absurd ⟨j,hj,nil?_iff.mpr<|by rw[Dp hs,hv]⟩ hn
  | some v=>exact⟨v,getD_some.mpr<|by rw[Dp hs,hv]⟩
 have len:∀ l:List Nat,(∀ j∈l,j < m)->(l.filterMap λj=>(owner.getD j none).map (j,·)).length=l.length:=by
  intro l
  induction l with
  | nil=>intro _;rfl
  | cons a r ih=>
   intro hl;obtain⟨v,hv⟩:=all a<|hl a Af;rw[Ef,hv];show(_ :: _).length=_;rw[Ar,Ar,ih λj hj=>hl j<|Ah _ hj]
 have e:=len (List.range m) λj hj=>Bw.mp hj;have e2:=L.length;unfold live at e2;rw[e,Fh]at e2;omega
def XQ(h:Int):SetTable.bits h < 2 ^ 64:=by
 unfold SetTable.bits;have h1:0<=h % (2 ^ 64:Int):=Ca _ (by decide);have h2:h % (2 ^ 64:Int) < 2 ^ 64:=Ci _ (by decide);omega
theorem Lies.free{mask k:Nat}{owner:gq}(L:Lies (mask+1) owner k)(hm:Pow<|mask+1)(h:k < mask+1)(x:Int) :
  ∃ j,SetTable.layClean.free mask owner (SetTable.turns mask) (SetTable.bits x % (mask+1)) (SetTable.bits x)=some j/\owner[j]?=some none:=by
 cases e:SetTable.layClean.free mask owner (SetTable.turns mask) (SetTable.bits x % (mask+1)) (SetTable.bits x) with
 | some j=>exact⟨j,rfl,nil?_iff.mp<|NM e⟩
 | none=>
  obtain⟨j,hj,q⟩:=L.room h;have:=ND e j<|XN hm (Gx _<|Gf _) (XQ x) hj;rw[q]at this;cases this
def xP(mask:Nat)(acc:Option<|gq×Nat)(h:Int):Option (gq×Nat):=do
 let (owner,k) <- acc
 let j <- SetTable.layClean.free mask owner (SetTable.turns mask) (SetTable.bits h % (mask+1))<|SetTable.bits h
 pure (owner.setIfInBounds j<|some k,k+1)
theorem NU{mask:Nat}(hm:Pow<|mask+1):∀(hs:List Int) (owner:gq) (k:Nat),Lies (mask+1) owner k->k+hs.length < mask+1+1 ->
  ∃ ke,hs.foldl (xP mask) (some (owner,k))=some (ke,k+hs.length)/\Lies (mask+1) ke (k+hs.length)
 | [],owner,k,L,_=>⟨owner,rfl,L⟩
 | h :: r,owner,k,L,hk=>by
  rw[Ar]at hk ⊢;obtain⟨j,e,hj⟩:=L.free hm (by omega) h;obtain⟨o',e',L'⟩:=NU hm r _ (k+1) (L.put hj) (by omega);refine⟨o',?_,?_⟩
  ·rw[Dm,show xP mask (some (owner,k)) h=some (owner.setIfInBounds j<|some k,k+1) by unfold xP;simp[e],e']
   congr 2
   omega
  ·rw[show k+(r.length+1)=k+1+r.length by omega];exact L'
def XR{mask:Nat}(hm:Pow<|mask+1)(hs:Array Int)(hl:hs.size < mask+1+1):∃ owner,SetTable.layClean mask hs=some owner/\Lies (mask+1) owner hs.size:=by
 obtain⟨o',e,L⟩:=NU hm hs.toList _ 0 (Lies.start<|mask+1) (by simpa using hl);refine⟨o',?_,by simpa using L⟩;have e2:SetTable.layClean mask hs=(hs.foldl (xP mask)<|some (Array.replicate (mask+1) none,0)).map (·.1):=rfl;rw[e2,<- Array.foldl_toList,e];rfl
def NV{mask finger moves:Nat}{led plain:Bool}(hm:Pow<|mask+1)(hs:Array Int)(hl:hs.size<=mask) :
  ∃ t order,SetTable.laid mask finger moves led plain hs=some (t,order)/\order.toList.Perm (List.range hs.size)/\t.fits hs.size=true/\t.led=led/\t.plain=plain/\t.mask=mask/\t.dummies=#[]/\t.place.size=hs.size:=by
 obtain⟨o,e,L⟩:=XR hm hs (by omega);have hp:((live (mask+1) o).map (·.1)).toArray.size=hs.size:=by
  rw[Ay,Aa,L.length]
 refine⟨_,_,by unfold SetTable.laid;rw[e];rfl,?_,?_,rfl,rfl,rfl,rfl,hp⟩
 ·show((live (mask+1) o).map (·.2)).Perm _;exact L.perm
 ·unfold SetTable.fits SetTable.fill;show(((live (mask+1) o).map (·.1)).toArray.size == hs.size && decide (((live (mask+1) o).map (·.1)).toArray.size+0<=mask))=true;rw[hp];simp only[LC,Gz,Gg,DQ];exact hl
def cH(w:World):Bool:=w.params.followText "set-order"
def keyOf(e:Int×Value):Str:=match e.2 with
 | .str x _=>x
 | _=>⟨#[]⟩
section
variable(prog:Program)(w:World)
def nH(e:Int×Value):Prop:=∃ z t,e=((strKind prog w).hash z,Value.str z t)
structure Tab(es:Array<|Int×Value)(t:SetTable)(zs:Ñ):Prop where
 elts:∀ e∈es.toList,nH prog w e
 keys:(es.toList.map keyOf).Perm zs
 nodup:zs.Nodup
 few:zs.length < 1000
 fits:t.fits es.size=true
 led:t.led = !cH w
 plain:es=#[]\/t.plain=false
def ay(h:Heap)(a:Addr)(zs:Ñ):Prop:=∃ o es ep t,h.get? a=some o/\o.ExactSet/\o.data = .set es ep t/\Tab prog w es t zs
end
section
variable{prog:Program}{w:World}{es:Array (Int×Value)}{t:SetTable}{zs:Ñ}{h h':Heap}{a:Addr}
def Tab.elems(T:Tab prog w es t zs):ElemsOf (strKind prog w) es.toList:=λe he=>by
 obtain⟨z,u,rfl⟩:=T.elts e he;exact⟨⟨z,NK _ _ _ _,rfl⟩,rfl⟩
def Tab.size(T:Tab prog w es t zs):es.size=zs.length:=by
 have:=T.keys.length_eq;rw[Aa,Bv]at this;exact this
def Tab.fA(T:Tab prog w es t zs):es.size < 1000:=by rw[T.size];exact T.few
def Tab.scan(T:Tab prog w es t zs):es.size < scanBound:=by have:=T.fA;unfold scanBound;omega
def Tab.perm{fT:Array (Int×Value)}{t':SetTable}(T:Tab prog w es t zs)(p:fT.toList.Perm es.toList)(hf:t'.fits fT.size=true)(hl:t'.led=t.led)(hp:fT=#[]\/t'.plain=false):Tab prog w fT t' zs:=
 ⟨λe he=>T.elts e<|p.mem_iff.mp he,(p.map keyOf).trans T.keys,T.nodup,T.few,hf,hl.trans T.led,hp⟩
def ay.keep(S:ay prog w h a zs)(k:∀ o,h.get? a=some o->h'.get? a=some o):ay prog w h' a zs:=let ⟨o,es,ep,t,h1,h2⟩:=S;⟨o,es,ep,t,k o h1,h2⟩
def ay.typeIs{s:Shared}(S:ay prog w s.heap a zs):s.TypeIs (.ref a) "set":=let ⟨o,_,_,_,h1,h2,_⟩:=S;⟨o,h1,h2.1⟩
def ay.lt(S:ay prog w h a zs):a < h.objs.size:=let ⟨_,_,_,_,h1,_⟩:=S;Au h1
def ay.few(S:ay prog w h a zs):zs.length < 1000:=let ⟨_,_,_,_,_,_,_,T⟩:=S;T.few
def ay.nodup(S:ay prog w h a zs):zs.Nodup:=let ⟨_,_,_,_,_,_,_,T⟩:=S;T.nodup
def pD{o:Obj}{ep:Nat}{fT:Array (Int×Value)}{t':SetTable}{iG:Ñ}(ho:h.get? a=some o)(hx:o.ExactSet)(hd:o.data = .set es ep t)(T':Tab prog w fT t' iG) :
  (h.update a<|Obj.putSet fT t').get? a=some {o with data:= .set fT (ep+1) t'}/\ay prog w (h.update a<|Obj.putSet fT t') a iG:=by
 have q:=Di (Obj.putSet fT t') ho (by rw[putSet_of fT t' hd];rfl);rw[putSet_of fT t' hd]at q;exact⟨q,_,fT,ep+1,t',q,hx,rfl,T'⟩
def Dt{e:Int×Value}(he:nH prog w e)(z:Str):(strKind prog w).is z e.2=decide (z=keyOf e):=by
 obtain⟨y,u,rfl⟩:=he;exact KeyKind.is_eq_decide (NK prog w y u) z
def find_none(T:Tab prog w es t zs){z:Str}(hz:z∉zs):es.toList.findIdx? (λe=>(strKind prog w).is z e.2)=none:=by
 rw[List.findIdx?_eq_none_iff];intro e he;rw[Dt<|T.elts e he,FQ];rintro rfl;exact hz<|T.keys.mem_iff.mp<|List.mem_map_of_mem he
theorem find_some(T:Tab prog w es t zs){z:Str}(hz:z∈zs):∃ j,∃ hj:j < es.toList.length,es.toList.findIdx? (λe=>(strKind prog w).is z e.2)=some j/\keyOf es.toList[j]=z:=by
 obtain⟨e,he,e2⟩:=Ap.mp<|T.keys.mem_iff.mpr hz;cases q:es.toList.findIdx? (λe=>(strKind prog w).is z e.2) with
 | none=>
  have:=List.findIdx?_eq_none_iff.mp q e he;rw[Dt<|T.elts e he,FQ]at this;exact absurd e2.symm this
 | some j=>
  obtain⟨hj,p,_⟩:=List.findIdx?_eq_some_iff_getElem.mp q;rw[Dt<|T.elts _<|Bn hj,DQ]at p;exact⟨j,hj,rfl,p.symm⟩
def XS(t:SetTable)(n:Nat):(t.orStandIn n).led=t.led/\((t.orStandIn n).plain=true->t.plain=true):=by
 unfold SetTable.orStandIn
 split
 ·exact⟨rfl,id⟩
 ·exact⟨rfl,λh=>by cases h⟩
def XT(t:SetTable)(es:Array<|Int×Value)(x:Int)(v:Value):(layNew t es x v).2.1.led=t.led:=by
 unfold layNew
 split
 ·exact(XS _ _).1
 ·rfl
theorem XU{mask f m:Nat}{l p:Bool}{hs:Array Int}{t':SetTable}{o:Array Nat}(e:SetTable.laid mask f m l p hs=some (t',o)):t'.led=l/\t'.plain=p:=by
 unfold SetTable.laid at e;cases c:SetTable.layClean mask hs with
 | none=>rw[c]at e;cases e
 | some ow=>rw[c]at e;cases e;exact⟨rfl,rfl⟩
def NX(t:SetTable)(es:Array<|Int×Value)(n:Nat)(hp:t.plain=false):(relayAll t es n).2.1.led=t.led/\(relayAll t es n).2.1.plain=false:=by
 unfold relayAll
 split
 ·rename_i t' o e;have q:=XU e
  dsimp only
  split
  ·exact⟨q.1,q.2.trans hp⟩
  ·exact⟨rfl,rfl⟩
 ·exact⟨rfl,rfl⟩
end
section
variable{prog:Program}{w:World}{A:Around}{E:Î}{s:Shared}{a:Addr}{zs:Ñ}
def kg{n:Nat}(h:n < 1001):n<=sizeLine:=by rw[DW];omega
theorem NY{g:Bool->Sem Unit}(hg:∀(b:Bool) (À:Shared) (Q':Unit->Shared->Prop),Q' () À->wpAny (model prog w) A (g b) Q' E À)
  {o:Obj} {es:Array (Int×Value)} {ep:Nat} {t:SetTable} (ho:s.heap.get? a=some o) (hx:o.ExactSet) (hd:o.data = .set es ep t)
  {fZ:Array (Int×Value)} {t2:SetTable} (T:Tab prog w fZ t2 zs) (hp:t2.plain=false) {c:Bool} {R:Option Bool->Shared->Prop}
  (k:∀ h',Heap.SameBut a s.heap h'->ay prog w h' a zs->R (some true) {s with heap:=h'}) :
  wpAny (model prog w) A (do
   storeSet a fZ t2
   if c=true then do
     g (relayAll t2 fZ<|SetTable.grown fZ.size).2.2
     storeSet a (relayAll t2 fZ<|SetTable.grown fZ.size).1 (relayAll t2 fZ<|SetTable.grown fZ.size).2.1
     pure (some true)
    else pure (some true)) R E s:=by
 refine BJ<|GX ho hd ?_<|kg<|Bx T.fA;obtain⟨q1,q2⟩:=pD ho hx hd T;have sb:=CQ s.heap a<|Obj.putSet fZ t2;cases c with
 | false=>exact BP<|k _ sb q2
 | true=>
  have p:=relayAll_perm t2 fZ<|SetTable.grown fZ.size;have T3:=T.perm p (relayAll_fits t2 fZ<|SetTable.grown fZ.size) (NX t2 fZ _ hp).1<|.inr (NX t2 fZ _ hp).2;refine BJ<|hg _ _ _ ?_;refine BJ<|GX q1 rfl ?_ (kg<|Bx T3.fA);exact BP<|k _ (sb.trans<|CQ _ a _) (pD q1 hx rfl T3).2
def added(zs:Ñ)(z:Str):Ñ:=if z∈zs then zs else zs++[z]
def DA{z:Str}{tk:Tok}{Q:Bool->Shared->Prop}(S:ay prog w s.heap a zs)(hb:zs.length+1 < 1000)
  (k:∀(b:Bool) h',Heap.SameBut a s.heap h'->ay prog w h' a (added zs z)->Q b {s with heap:=h'}) :
  wpAny (model prog w) A (setAddHashed a (.str z tk)<|(strKind prog w).hash z) Q E s:=by
 obtain⟨o,es,ep,t,ho,hx,hd,T⟩:=S;unfold setAddHashed setAddHashedIn;refine CG<|BJ<|CJ ho hd T.fits ?_
 dsimp only
 rw[byScan_of (knd:=strKind prog w) (x:= .str z tk) rfl T.scan T.elems];simp only[↓reduceIte];unfold setAddByScan;refine BJ<|BJ<|HN<|BJ<|wpAny_setScan_of (knd:=strKind prog w) (k:=z) (NK _ _ _ _) ho hd T.fits T.elems ?_
 by_cases hz:z∈zs
 ·obtain⟨j,hj,e,_⟩:=find_some T hz;rw[e]
  dsimp only
  refine BP<|BP<|k false s.heap (Heap.SameBut.refl a s.heap) ?_;unfold added;rw[BL hz];exact⟨o,es,ep,t,ho,hx,hd,T⟩
 ·rw[find_none T hz]
  dsimp only
  have gw:∀(b:Bool) (À:Shared) (Q':Unit->Shared->Prop),Q' () À->wpAny (model prog w) A (match b with | true=>rule "set.scan.the-table-gave-way" | false=>pure ()) Q' E À:=
   λb À Q' q=>by cases b <;> first | exact BP q | exact HN q
  have p:=layNew_perm t es ((strKind prog w).hash z)<|.str z tk;have f:=layNew_fits t es ((strKind prog w).hash z)<|.str z tk;have l:=XT t es ((strKind prog w).hash z)<|.str z tk;generalize layNew t es ((strKind prog w).hash z) (.str z tk)=L at p f l ⊢;obtain⟨fZ,t1,wd,gv⟩:=L
  dsimp only at p f l ⊢
  rw[Array.toList_push]at p;have tab:∀ t2:SetTable,t2.fits fZ.size=true->t2.led=t1.led->t2.plain=false->Tab prog w fZ t2 (zs++[z]):=λt2 h1 h2 h3=>{
   elts:=λe he=>by
    rcases Al.mp (p.mem_iff.mp he)with he | he
    ·exact T.elts e he
    ·exact⟨z,tk,Ae.mp he⟩
   keys:=by
    refine(p.map keyOf).trans ?_;rw[Ag];exact T.keys.append<|List.Perm.refl _
   nodup:=by
    rw[Bt];refine⟨T.nodup,by simp,λx hx y hy e=>?_⟩;rw[Ae]at hy;subst hy e;exact hz hx
   few:=by rw[Ad];exact hb
   fits:=h1
   led:=h2.trans<|l.trans T.led
   plain:= .inr h3}
  have fin:∀ h',Heap.SameBut a s.heap h'->ay prog w h' a (zs++[z])->Q true {s with heap:=h'}:=λh' q1 q2=>k true h' q1 (by unfold added;rw[BK hz];exact q2);refine BJ<|gw _ _ _ ?_
  split
  ·rename_i hp;refine BJ ?_;rw[hashByValue_scannable 8 rfl];refine BP ?_;refine NY gw ho hx hd (tab {t1 with plain:=false} (SetTable.fits_plain_off f) rfl rfl) rfl λh' q1 q2=>?_
   dsimp only
   exact BP<|fin h' q1 q2
  ·rename_i hp;refine BJ<|BP ?_;simp only[↓reduceIte];refine NY gw ho hx hd (tab t1 f rfl (Es.mpr hp)) (Es.mpr hp) λh' q1 q2=>?_
   dsimp only
   exact BP<|fin h' q1 q2
def N0{z:Str}{tk:Tok}{Q:Option Nat->Shared->Prop}{o:Obj}{es:Array (Int×Value)}{ep:Nat}{t:SetTable}(ho:s.heap.get? a=some o)(hd:o.data = .set es ep t)(T:Tab prog w es t zs)
  (k0:z∉zs->Q none s) (k1:∀ j,(hj:j < es.toList.length)->keyOf es.toList[j]=z->Q (some j) s):wpAny (model prog w) A (setFind a (.str z tk)<|(strKind prog w).hash z) Q E s:=by
 unfold setFind setFindIn;refine BJ<|CJ ho hd T.fits ?_
 dsimp only
 rw[byScan_of (knd:=strKind prog w) (x:= .str z tk) rfl T.scan T.elems];simp only[↓reduceIte];refine BJ<|HN<|BJ<|wpAny_setScan_of (knd:=strKind prog w) (k:=z) (NK _ _ _ _) ho hd T.fits T.elems ?_
 by_cases hz:z∈zs
 ·obtain⟨j,hj,e,q⟩:=find_some T hz;rw[e]
  dsimp only
  rw[Er];exact BP<|k1 j hj q
 ·rw[find_none T hz];exact BP<|k0 hz
def xQ{α:Type}(xs:Array α)(i:Nat):(SetTable.eraseAt xs i).toList=xs.toList.eraseIdx i:=by
 unfold SetTable.eraseAt;rw[Array.toList_append,Array.toList_extract,Array.toList_extract,List.eraseIdx_eq_take_drop_succ];simp[List.extract_eq_drop_take];exact Bz<|by simp
theorem bL{α:Type}:∀(l:List α) (j:Nat) (hj:j < l.length),(l[j] :: l.eraseIdx j).Perm l
 | [],_,h=>by simp at h
 | x :: r,0,_=>List.Perm.refl _
 | x :: r,j+1,h=>(List.Perm.swap x _ _).trans<|(bL r j<|Nat.lt_of_succ_lt_succ h).cons x
def XW{t:SetTable}{n i:Nat}(h:t.fits n=true)(hi:i < n):(t.drop i).fits (n - 1)=true/\(t.drop i).led=t.led/\(t.drop i).plain=t.plain:=by
 unfold SetTable.fits at h;rw[By,HX,DQ]at h;have xR:i < t.place.size:=by rw[h.1];exact hi
 unfold SetTable.drop;rw[Dp xR]
 dsimp only
 refine⟨?_,rfl,rfl⟩;have e1:(SetTable.eraseAt t.place i).size=n - 1:=by
  rw[<- Bv,xQ,Db,Bv,BL xR,h.1]
 have e2:∀ j,(SetTable.insertAt t.dummies (SetTable.below t.dummies j) j).size=t.dummies.size+1:=λj=>by
  have:=(SetTable.insertAt_perm t.dummies (SetTable.below t.dummies j) j).length_eq
  simpa using this
 have h2:=h.2;unfold SetTable.fill at h2;unfold SetTable.fits SetTable.fill
 dsimp only
 rw[e1,e2];simp only[LC,Gz,DQ];omega
def XX{z:Str}{tk:Tok}{Q:Bool->Shared->Prop}(S:ay prog w s.heap a zs)
  (k0:z∉zs->Q false s) (k1:∀ h',z∈zs->Heap.SameBut a s.heap h'->ay prog w h' a (zs.erase z)->Q true {s with heap:=h'}) :
  wpAny (model prog w) A (setDiscardHashed a (.str z tk)<|(strKind prog w).hash z) Q E s:=by
 obtain⟨o,es,ep,t,ho,hx,hd,T⟩:=S;unfold setDiscardHashed;refine BJ<|N0 ho hd T (λhz=>?_) λj hj e=>?_
 ·exact BP<|k0 hz
 ·dsimp only
  have pE:j < es.size:=by simpa using hj
  have hz:z∈zs:=T.keys.mem_iff.mp<|Ap.mpr ⟨_,Bn hj,e⟩;obtain⟨f1,f2,f3⟩:=XW T.fits pE;have pz:(keyOf es.toList[j] :: (es.toList.eraseIdx j).map keyOf).Perm zs:=by
   refine List.Perm.trans ?_ T.keys;rw[<- Bj];exact(bL _ j hj).map keyOf
  rw[e]at pz;have T':Tab prog w (SetTable.eraseAt es j) (t.drop j) (zs.erase z):={
   elts:=λx hx=>by
    rw[xQ]at hx;exact T.elts x<|Ey hx
   keys:=by
    rw[xQ];refine List.Perm.cons_inv (a:=z)<|pz.trans ?_;exact List.perm_cons_erase hz
   nodup:=T.nodup.erase z
   few:=QC (List.length_erase_le) T.few
   fits:=by
    have:(SetTable.eraseAt es j).size=es.size - 1:=by
     rw[<- Bv,xQ,Db,Bv,BL pE]
    rw[this];exact f1
   led:=f2.trans T.led
   plain:=by
    rcases T.plain with q | q
    ·subst q;simp at pE
    ·exact .inr (f3.trans q)}
  refine BJ<|CJ ho hd T.fits ?_
  dsimp only
  refine BJ<|GX ho hd ?_<|kg<|Bx T'.fA;refine BJ<|wpAny_point<|BP<|k1 _ hz (CQ _ a _) (pD ho hx hd T').2
theorem N2{α:Type}(next:Nat->Nat):∀(fuel k:Nat) (left:List α) (out:Array α),left.length<=fuel->(pickOrder.go next fuel k left out).toList.Perm (out.toList++left)
 | 0,k,left,out,h=>by
  have:left=[]:=Bd.mp (by omega);subst this;unfold pickOrder.go;simp
 | fuel+1,k,left,out,h=>by
  unfold pickOrder.go;cases e:left[next k % left.length]? with
  | none=>
   have:left=[]:=by
    cases left with
    | nil=>rfl
    | cons x r=>
     have hl:next k % (x :: r).length < (x :: r).length:=Gx _ (by simp);rw[Ab hl]at e;cases e
   subst this;simp
  | some x=>
   dsimp only
   obtain⟨hl,e2⟩:=Ac.mp e;refine(N2 next fuel (k+1) _ _ (by rw[Db,BL hl];omega)).trans ?_;rw[Array.toList_push,At];refine LK _ ?_;have:=bL left _ hl;rw[e2]at this;exact this
def N3{α:Type}(next:Nat->Nat)(xs:Array α):(pickOrder next xs).toList.Perm xs.toList:=by
 have:=N2 next xs.size 0 xs.toList #[] (by simp)
 simpa[pickOrder]using this
def wp_choose{src:Source}{n:Nat}{Q:Nat->Shared->Prop}(hn:n≠0)(h:∀ i d,i < n->Q i {s with drawn:=d}):wpAny (model prog w) A (choose src n) Q E s:=
 λΓ p _=>⟨hn,h _ _<|Gx _<|Nat.pos_of_ne_zero hn⟩
theorem DB{α:Type}:∀(n:Nat) (xs:List α) (s:Shared) (Q:List α->Shared->Prop),xs.length<=n->(∀ ys d,ys.Perm xs->Q ys {s with drawn:=d})->wpAny (model prog w) A (drawOrder n xs) Q E s
 | 0,xs,s,Q,h,k=>by
  have:xs=[]:=Bd.mp (by omega);subst this;unfold drawOrder;exact BP<|k [] s.drawn<|List.Perm.refl _
 | n+1,[],s,Q,h,k=>by
  unfold drawOrder;exact BP<|k [] s.drawn<|List.Perm.refl _
 | n+1,x :: r,s,Q,h,k=>by
  unfold drawOrder;refine BJ (wp_choose (by simp) λi d hi=>?_);rw[Ab hi]
  dsimp only
  refine BJ (DB n _ _ _ (by rw[Db,BL hi];omega) λys d2 p=>?_);exact BP<|k _ d2<|(p.cons _).trans<|bL _ i hi
def wp_text{Q:Bool->Shared->Prop}(k:Q (cH w) s):wpAny (model prog w) A setsByText Q E s:=by
 unfold setsByText;exact BJ<|JL<|BP k
variable{o:Obj}{es:Array (Int×Value)}{ep:Nat}{t:SetTable}
theorem XY{Q:Array (Int×Value)->Shared->Prop}(ho:s.heap.get? a=some o)(hd:o.data = .set es ep t)(T:Tab prog w es t zs)
  (k:∀ ws d,ws.toList.Perm es.toList->Q ws {s with drawn:=d}):wpAny (model prog w) A (setWalk a) Q E s:=by
 unfold setWalk;refine BJ<|CJ ho hd T.fits ?_
 dsimp only
 refine BJ<|wp_text ?_;cases hb:cH w with
 | true=>
  simp only[DP];refine BJ<|JL ?_;exact BP<|k _ s.drawn<|N3 _ _
 | false=>
  simp only[Bb,CT];show wpAny _ _ (if(!t.plain && decide (es.size > 1))=true then _ else _) _ _ _
  split
  ·refine BJ (DB _ _ _ _ (by simp) λys d p=>?_);exact BP<|k _ d<|by simpa using p
  ·refine BJ ?_;show wpAny _ _ (if(!t.led && decide (es.size > 1))=true then _ else _) _ _ _;rw[BK<|by rw[T.led,hb];simp];exact BP<|BP<|k _ s.drawn<|List.Perm.refl _
def XZ{Q:Bool->Shared->Prop}(l:List Addr)(hl:∀ b∈l,∃ ys,ay prog w s.heap b ys)(k:Q true s):wpAny (model prog w) A (setsQuiet l) Q E s:=by
 unfold setsQuiet;refine BJ<|wpAny_forIn_list _ (λrest b s'=>b.1=none/\s'=s/\∀ c∈rest,∃ ys,ay prog w s.heap c ys) _ ?_ ?_ l _ ⟨rfl,rfl,hl⟩
 ·rintro x rest b s' ⟨hb,rfl,hr⟩;obtain⟨ys,o,es,ep,t,ho,hx,hd,T⟩:=hr x Af;refine BJ<|JQ ho hd T.fits ?_;refine BJ<|QD _ (λrest b t9=>b.1=none/\t9=s'/\∀ e∈rest,nH prog w e) _ ?_ ?_ es _ ⟨rfl,rfl,T.elts⟩
  ·rintro e r2 b2 s2 ⟨me,rfl,he⟩;obtain⟨z,u,rfl⟩:=he _ Af;exact BP ⟨rfl,rfl,λe h=>he e<|Ah _ h⟩
  ·rintro ⟨_,_⟩ s2 ⟨rfl,rfl,_⟩;exact BP ⟨rfl,rfl,λc h=>hr c<|Ah _ h⟩
 ·rintro ⟨_,_⟩ s' ⟨rfl,rfl,_⟩;exact BP k
def X0{f:Addr}{zf:Ñ}{Q:Array (Int×Value)->Shared->Prop}(ho:s.heap.get? a=some o)(hx:o.ExactSet)(hd:o.data = .set es ep t)(T:Tab prog w es t zs)(Sf:ay prog w s.heap f zf)
  (k:∀ ws h' d,ws.toList.Perm es.toList->Heap.SameBut f s.heap h'->ay prog w h' f zf->Q ws {s with heap:=h',drawn:=d}):wpAny (model prog w) A (setWalkUnseen a [f]<|some f) Q E s:=by
 unfold setWalkUnseen;refine BJ<|CJ ho hd T.fits ?_
 dsimp only
 refine BJ<|wp_text ?_
 split
 ·exact XY ho hd T λws d p=>k ws s.heap d p (Heap.SameBut.refl _ _) Sf
 ·rename_i hn;have hb:cH w=false:=by
   cases e:cH w with
   | false=>rfl
   | true=>rw[e]at hn;simp at hn
  refine BJ<|XZ [a,f] (λb hb=>?_) ?_
  ·rcases Ak.mp hb with rfl | hb
   ·exact⟨zs,o,es,ep,t,ho,hx,hd,T⟩
   ·rw[Ae]at hb;subst hb;exact⟨zf,Sf⟩
  ·simp only[Ec,Bb,CT];refine BJ<|HN ?_;obtain⟨of,ef,DC,tf,DE,X1,lU,Tf⟩:=id Sf;refine BJ<|CJ DE lU Tf.fits ?_
   dsimp only
   have T2:Tab prog w ef {tf with led:=tf.led && t.led,plain:=tf.plain && t.plain} zf:=
    ⟨Tf.elts, Tf.keys, Tf.nodup, Tf.few, Tf.fits, by show (tf.led && t.led) = _; rw[Tf.led, T.led]; simp, by
     rcases Tf.plain with q | q
     ·exact .inl q
     ·exact .inr<|by show(tf.plain && t.plain)=false;rw[q];rfl⟩
   split
   ·refine BJ<|GX DE lU ?_<|kg<|Bx Tf.fA;exact BP<|k es _ s.drawn (List.Perm.refl _) (CQ _ f _) (pD DE X1 lU T2).2
   ·exact BP<|k es s.heap s.drawn (List.Perm.refl _) (Heap.SameBut.refl _ _) Sf
end
open Builtin.Frozenset
def pF(m:Nat):Bool:=m == 8 || m == 16 || m == 32 || m == 64 || m == 128
def X2{m:Nat}(h:pF m=true):Pow m:=by
 unfold pF at h;simp only[Bool.or_eq_true,HX]at h;unfold Pow;omega
def X3:((List.range 64).all λn=>pF (SetTable.sizeAbove<|n * 2) && decide (n < SetTable.sizeAbove (n * 2)))=true:=by decide +kernel
def X4{n:Nat}(h:n < 64):Pow (SetTable.sizeAbove<|n * 2)/\n < SetTable.sizeAbove (n * 2):=by
 have q:=X3;rw[Eb]at q;have:=q n<|Bw.mpr h;rw[By,DQ]at this;exact⟨X2 this.1,this.2⟩
def X5{es:Array (Int×Value)}{order:Array Nat}(p:order.toList.Perm<|List.range es.size):(order.filterMap (es[·]?)).toList.Perm es.toList:=by
 rw[Array.toList_filterMap];have:=p.filterMap λi=>es[i]?;rwa[filterMap_getElem?_range]at this
section
variable{prog:Program}{w:World}{A:Around}{E:Î}{s:Shared}{a:Addr}{zs:Ñ}
structure eI(w:World)(t:SetTable):Prop where
 place:t.place=#[]
 dummies:t.dummies=#[]
 led:t.led = !cH w
 plain:t.plain=true
def eI.tab{t:SetTable}(B:eI w t):Tab prog w #[] t []:=
 ⟨λe he=>by simp at he,by simp,Ch,by decide,by unfold SetTable.fits SetTable.fill;rw[B.place,B.dummies];simp,B.led,.inl rfl⟩
def eI.fill{t:SetTable}(B:eI w t):t.fill=0:=by unfold SetTable.fill;rw[B.place,B.dummies];rfl
def X6{Q:Î}
  (k:∀ o,o.ExactSet->(∃ t,o.data = .set #[] 0 t/\eI w t/\t.mask=7)->o.isFreed=false->Q (.ref s.heap.objs.size) {s with heap:=s.heap.push o}):wpAny (model prog w) A (newSet<|.type "set") Q E s:=by
 unfold newSet;refine BJ<|wp_text ?_
 dsimp only
 simp only[newObj];refine BJ<|PL<|BP ?_;exact k _ ⟨rfl,rfl,rfl⟩ ⟨_,rfl,⟨rfl,rfl,rfl,rfl⟩,rfl⟩ rfl
variable{o:Obj}{ep:Nat}{t:SetTable}
def X7{n:Nat}{Q:Unit->Shared->Prop}(ho:s.heap.get? a=some o)(hx:o.ExactSet)(hd:o.data = .set #[] ep t)(B:eI w t)(hm:t.mask=7)(hn:n < 64)
  (k:∀ h' o' oQ t',Heap.SameBut a s.heap h'->h'.get? a=some o'->o'.ExactSet->o'.data = .set #[] oQ t'->eI w t'->Pow (t'.mask+1)->n<=t'.mask->Q () {s with heap:=h'}) :
  wpAny (model prog w) A (setRoomFor a n) Q E s:=by
 have T:Tab prog w #[] t []:=B.tab;unfold setRoomFor;refine BJ<|CJ ho hd T.fits ?_
 dsimp only
 unfold SetTable.roomFor;rw[B.fill,hm]
 by_cases c:(0+n) * 5>=7 * 3
 ·rw[BL c]
  dsimp only
  have e0:(t.place.size+n) * 2=n * 2:=by rw[B.place];simp
  rw[e0];obtain⟨hp,hl⟩:=X4 hn;unfold setRelay;refine BJ<|CJ ho hd T.fits ?_
  dsimp only
  have hle:SetTable.sizeAbove (n * 2)<=512:=hp.pos.2;have h8:8<=SetTable.sizeAbove (n * 2):=hp.pos.1;rw[BK<|by rw[DW];omega];have em:SetTable.sizeAbove (n * 2) - 1+1=SetTable.sizeAbove (n * 2):=by omega
  obtain⟨t',order,e,p,f,l1,l2,l3,l4,l5⟩:=NV (mask:=SetTable.sizeAbove (n * 2) - 1) (finger:=t.finger) (moves:=t.movedTo<|SetTable.sizeAbove (n * 2) - 1) (led:=t.led) (plain:=t.plain) (by rw[em];exact hp) (#[]:Array Int) (by simp);have er:t.relaid ((#[]:Array<|Int×Value).map (·.1)) (n * 2)=some (t',order):=by
   unfold SetTable.relaid;rw[show((#[]:Array<|Int×Value).map (·.1))=#[] by simp];exact e
  rw[er];have eo:order=#[]:=by
   have:=p.length_eq;simp at this;exact this
  subst eo;refine BJ ?_;show wpAny _ _ (if(((#[]:Array Nat).filterMap ((#[]:Array<|Int×Value)[·]?)).size != (#[]:Array<|Int×Value).size)=true then(unsupported "internal:set-table-lost-an-element" : Sem<|Array (Int×Value)×SetTable)else pure ((#[]:Array Nat).filterMap ((#[]:Array<|Int×Value)[·]?),t')) _ _ _;rw[BK<|by simp];refine BP ?_
  dsimp only
  have ee:((#[]:Array Nat).filterMap ((#[]:Array<|Int×Value)[·]?))=#[]:=by simp
  rw[ee];have B':eI w t':=⟨by
   have:=l5
   simpa using this,l4,l1.trans B.led,l2.trans B.plain⟩
  refine GX ho hd ?_ (by simp);have q:=(pD ho hx hd<|B'.tab (prog:=prog)).1;exact k _ _ _ _ (CQ _ a _) q hx rfl B' (by rw[l3,em];exact hp) (by rw[l3];omega)
 ·rw[BK c];exact BP<|k s.heap o ep t (Heap.SameBut.refl _ _) ho hx hd B (by rw[hm];exact .inl rfl)<|by rw[hm];omega
def X8{b:Addr}{each:Sem Unit}{Q:Unit->Shared->Prop}(ho:s.heap.get? a=some o)(hx:o.ExactSet)(hd:o.data = .set #[] ep t)(B:eI w t)(hm:t.mask=7)(gy:a≠b)(S:ay prog w s.heap b zs)(hz:zs.length < 64)
  (k:∀ h',Heap.SameBut a s.heap h'->ay prog w h' a zs->Q () {s with heap:=h'}):wpAny (model prog w) A (setMerge a b each) Q E s:=by
 obtain⟨ob,eo,epb,tb,pG,hxb,di,Tb⟩:=S;unfold setMerge;have e1:(a == b)=false:=by simpa using gy
 rw[e1];simp only[Bb,CT];refine BJ<|CJ pG di Tb.fits ?_
 dsimp only
 by_cases c:eo.isEmpty=true
 ·rw[BL c];have:eo=#[]:=by simpa using c
  subst this;have ez:zs=[]:=by
   have:=Tb.size;exact Bd.mp<|by simpa using this.symm
  subst ez;exact BP<|k s.heap (Heap.SameBut.refl _ _) ⟨o,#[],ep,t,ho,hx,hd,B.tab⟩
 ·rw[BK c];have hsz:eo.size < 64:=by rw[Tb.size];exact hz
  refine BJ<|X7 ho hx hd B hm hsz λh' o' oQ t' sb fQ gk oO B' hp hl=>?_;refine BJ<|CJ fQ oO (B'.tab (prog:=prog)).fits ?_
  dsimp only
  have ld:(t'.led && tb.led) = !cH w:=by rw[B'.led,Tb.led];simp
  have pl:tb.plain=false:=by
   rcases Tb.plain with q | q
   ·rw[q]at c;simp at c
   ·exact q
  unfold SetTable.road;rw[B'.fill];simp only[FT,Bb,CT]
  by_cases c2:(t'.mask == tb.mask && tb.dummies.isEmpty)=true
  ·rw[BL c2]
   dsimp only
   have T2:Tab prog w eo {tb with finger:=t'.finger,led:=t'.led && tb.led,moves:=t'.moves,plain:=t'.plain && tb.plain} zs:=
    ⟨Tb.elts,Tb.keys,Tb.nodup,Tb.few,Tb.fits,ld,.inr<|by show(t'.plain && tb.plain)=false;rw[pl];simp⟩
   refine GX fQ oO ?_<|kg<|Bx Tb.fA;exact k _ (sb.trans<|CQ _ a _) (pD fQ gk oO T2).2
  ·rw[BK c2]
   dsimp only
   obtain⟨t2,order,e,p,f,l1,l2,l3,l4,l5⟩:=NV (finger:=t'.finger) (moves:=t'.moves) (led:=t'.led && tb.led) (plain:=t'.plain && tb.plain) hp (eo.map (·.1)) (by simpa using hl);rw[e];have p2:order.toList.Perm (List.range eo.size):=by simpa using p
   have pp:=X5 p2;have ps:(order.filterMap (eo[·]?)).size=eo.size:=by
    have:=pp.length_eq;rwa[Bv,Bv]at this
   refine BJ ?_;show wpAny _ _ (if((order.filterMap (eo[·]?)).size != eo.size)=true then _ else pure (order.filterMap (eo[·]?),t2)) _ _ _;rw[BK<|by rw[ps];simp];refine BP ?_
   dsimp only
   have T2:Tab prog w (order.filterMap (eo[·]?)) t2 zs:=⟨λx hx=>Tb.elts x<|pp.mem_iff.mp hx,(pp.map keyOf).trans Tb.keys,Tb.nodup,Tb.few,by rw[ps];simpa using f,l1.trans ld,.inr<|l2.trans<|by rw[pl];simp⟩;refine GX fQ oO ?_<|kg<|Bx T2.fA;exact k _ (sb.trans<|CQ _ a _) (pD fQ gk oO T2).2
def xS{Q:Bool->Shared->Prop}(S:ay prog w s.heap a zs)(k:Q true s):wpAny (model prog w) A (isAnySet<|.ref a) Q E s:=by
 unfold isAnySet;refine BJ<|JM S.typeIs sub_set_self ?_;exact BP k
def X9{Q:Î}(S:ay prog w s.heap a zs)(k:Q (.type "set") s):wpAny (model prog w) A (baseOf a) Q E s:=by
 unfold baseOf;refine BJ<|JM S.typeIs sub_set_self ?_;exact BP k
def N4{Q:Nat->Shared->Prop}(S:ay prog w s.heap a zs)(k:∀ n,(∀ s':Shared,s'.heap.get? a=s.heap.get? a->∀ Q':Nat->Shared->Prop,Q' n s'->wpAny (model prog w) A (setEpoch a) Q' E s')->Q n s):wpAny (model prog w) A (setEpoch a) Q E s:=by
 obtain⟨o,es,ep,t,ho,hx,hd,T⟩:=S;exact KD ho hd T.fits<|k ep λs' e Q' q=>KD (e.trans ho) hd T.fits q
def Ya{b:Addr}{id:String}{Q:Î}(S:ay prog w s.heap b zs)(hz:zs.length < 64)
  (k:∀ h',(∀ c o,s.heap.get? c=some o->h'.get? c=some o)->ay prog w h' s.heap.objs.size zs->Q (.ref s.heap.objs.size) {s with heap:=h'}):wpAny (model prog w) A (newFrom id (.type "set")<|.ref b) Q E s:=by
 unfold newFrom;refine BJ<|X6 λo hx ⟨t,hd,B,hm⟩ hf=>?_;have ho:(s.heap.push o).get? s.heap.objs.size=some o:=Av _ hf;have bd:b < s.heap.objs.size:=S.lt;have S':ay prog w (s.heap.push o) b zs:=S.keep λo' e=>Ai _ e;unfold addrOf;refine BJ<|BP<|BJ<|CG ?_;unfold updateFrom;refine BJ<|xS (s:={s with heap:=s.heap.push o}) S' ?_;simp only[DP];refine BJ<|BP ?_;unfold merge;refine BJ<|N4 (s:={s with heap:=s.heap.push o}) S' λn _=>?_;refine X8 (s:={s with heap:=s.heap.push o}) ho hx hd B hm (Ct bd) S' hz λh' sb S2=>?_;refine BP<|k h' (λc u e=>?_) S2;have hc:c≠s.heap.objs.size:=Bp<|Au e;rw[sb.2 c hc];exact Ai _ e
def flipped(zs:Ñ)(z:Str):Ñ:=if z∈zs then zs.erase z else zs++[z]
def DF{zs:Ñ}(hn:zs.Nodup)(z y:Str):y∈flipped zs z↔(if y=z then y∉zs else y∈zs):=by
 unfold flipped
 by_cases c:z∈zs
 ·rw[BL c,hn.mem_erase_iff]
  by_cases e:y=z
  ·subst e;simp[c]
  ·simp[e]
 ·rw[BK c,Al,Ae]
  by_cases e:y=z
  ·subst e;simp[c]
  ·simp[e]
def Yb(zs:Ñ)(z:Str):(flipped zs z).length<=zs.length+1:=by
 unfold flipped
 split
 ·exact QK<|List.length_erase_le
 ·simp
theorem N5:∀(ps zs:Ñ),zs.Nodup->ps.Nodup->∀ y,y∈ps.foldl flipped zs↔(if y∈ps then y∉zs else y∈zs)
 | [],zs,_,_,y=>by simp
 | p :: r,zs,hn,hp,y=>by
  rw[Bf]at hp;have BQ:(flipped zs p).Nodup:=by
   unfold flipped
   split
   ·exact hn.erase p
   ·rename_i c;rw[Bt];exact⟨hn,by simp,λx hx y hy e=>by rw[Ae]at hy;subst hy e;exact c hx⟩
  rw[Dm,N5 r _ BQ hp.2 y]
  by_cases e:y=p
  ·subst e;rw[BK hp.1,DF hn,BL rfl,BL Af]
  ·by_cases c:y∈r
   ·rw[BL c,BL<|Ah _ c,DF hn,BK e]
   ·rw[BK c,BK (λh=>by rcases Ak.mp h with h | h;exact e h;exact c h),DF hn,BK e]
end
def Yc:entryFor table "set.__xor__" = some Builtin.«frozenset.__xor__»:=
 PB (id':= "frozenset.__xor__") (by kernel_rfl) rfl (by decide +kernel) (by kernel_rfl)
section
variable{prog:Program}{w:World}{A:Around}{E:Î}{s:Shared}{a r:Addr}{za zr:Ñ}
def Yd{nm:String}{Q:Unit->Shared->Prop}(Sa:ay prog w s.heap a za)(Sr:ay prog w s.heap r zr)(xT:a≠r)(hl:za.length+zr.length < 900)
  (k:∀ h' d (ws:Ñ),ws.Perm za->Heap.SameBut r s.heap h'->ay prog w h' r (ws.foldl flipped zr)->Q () {s with heap:=h',drawn:=d}):wpAny (model prog w) A (symmetricDifferenceUpdate nm r<|.ref a) Q E s:=by
 unfold symmetricDifferenceUpdate;have e1:(Value.ref a == Value.ref r)=false:=by
  refine Es.mpr λh=>xT ?_;have:=eq_of_beq h;exact Value.ref.inj this
 rw[e1];simp only[Bb,CT];refine BJ<|JW Sa.typeIs ?_;rw[show(Value.type "set" == Value.type "dict")=false by decide];simp only[Bb,CT];refine BJ<|xS Sa ?_;simp only[DP];refine BJ<|BP ?_;unfold addrOf;refine BJ<|BP ?_;refine BJ<|N4 Sa λn hn=>?_;refine CG ?_;obtain⟨o,es,ep,t,ho,hx,hd,T⟩:=id Sa;refine BJ<|X0 ho hx hd T Sr λws h1 d1 p sb S1=>?_;have pw:(ws.toList.map keyOf).Perm za:=(p.map keyOf).trans T.keys;have el:∀ e∈ws.toList,nH prog w e:=λe he=>T.elts e<|p.mem_iff.mp he;refine BJ<|QD _ (λrest _ s'=>∃ h' zz,s'={s with heap:=h',drawn:=d1}/\Heap.SameBut r s.heap h'/\ay prog w h' r zz/\zz.length+rest.length < 900/\(∀ e∈rest,nH prog w e) /\
   (rest.map keyOf).foldl flipped zz=(ws.toList.map keyOf).foldl flipped zr) _ ?_ ?_ ws _ ⟨h1,zr,rfl,sb,S1,?_,el,rfl⟩
 ·rintro e rest b s' ⟨h',zz,rfl,rM,S',nI,he,hf⟩;obtain⟨z,tk,rfl⟩:=he _ Af;have pH:∀ e∈rest,nH prog w e:=λe h=>he e<|Ah _ h;rw[Ar]at nI;have N6:∀(h2:Heap) (Q':Nat->Shared->Prop),Heap.SameBut r s.heap h2->Q' n {s with heap:=h2,drawn:=d1}->wpAny (model prog w) A (setEpoch a) Q' E {s with heap:=h2,drawn:=d1}:=
   λh2 Q' q1 q2=>hn _ (q1.2 a xT) Q' q2
  have fin:∀ h2 DH,Heap.SameBut r s.heap h2->ay prog w h2 r DH->DH=flipped zz z->∃ h' DI,({s with heap:=h2,drawn:=d1}:Shared)={s with heap:=h',drawn:=d1}/\Heap.SameBut r s.heap h'/\ay prog w h' r DI/\DI.length+rest.length < 900/\(∀ e∈rest,nH prog w e) /\
    (rest.map keyOf).foldl flipped DI=(ws.toList.map keyOf).foldl flipped zr:=by
   rintro h2 DH q1 q2 rfl;refine⟨h2,_,rfl,q1,q2,?_,pH,hf⟩;have:=Yb zz z;omega
  dsimp only
  refine BJ<|CG<|BJ<|XX (s:={s with heap:=h',drawn:=d1}) S' (λhz=>?_) λh2 hz q1 q2=>?_
  ·simp only[TQ,DP];refine BJ (DA (s:={s with heap:=h',drawn:=d1}) S' (by omega) λb h2 q1 q2=>BP ?_);unfold unchanged;refine BJ<|BJ<|N6 h2 _ (rM.trans q1) ?_;simp only[FT,Bb,CT];refine BP<|BP<|fin h2 _ (rM.trans q1) q2 ?_;unfold added flipped;rw[BK hz,BK hz]
  ·simp only[Ec,Bb,CT];refine BP ?_;unfold unchanged;refine BJ<|BJ<|N6 h2 _ (rM.trans q1) ?_;simp only[FT,Bb,CT];refine BP<|BP<|fin h2 _ (rM.trans q1) q2 ?_;unfold flipped;rw[BL hz]
 ·rintro b s' ⟨h',zz,rfl,rM,S',_,_,hf⟩;have xL:zz=(ws.toList.map keyOf).foldl flipped zr:=hf;subst xL;exact BP<|k h' d1 _ pw rM S'
 ·have:=pw.length_eq;rw[Aa]at this;omega
def Ye{b:Addr}{zb:Ñ}{Q:Î}(Sa:ay prog w s.heap a za)(Sb:ay prog w s.heap b zb)(ha:za.length < 64)(hb:zb.length < 64)
  (k:∀ h' d zc,(∀ c o,s.heap.get? c=some o->h'.get? c=some o)->ay prog w h' s.heap.objs.size zc->(∀ y,y∈zc↔(if y∈za then y∉zb else y∈zb))->Q (.ref s.heap.objs.size) {s with heap:=h',drawn:=d}) :
  wpAny (model prog w) A (binaryOp .BitXor (.ref a)<|.ref b) Q E s:=by
 refine wpAny_binaryOp_same (op:= .BitXor) (T:= "set") Sa.typeIs Sb.typeIs F.fills_set_xor F.slot_set_xor<|DG F.slot_set_xor Sa.typeIs Yc ?_<|F.args_set_xor_2 _ _;show wpAny _ _ (slot1 "__xor__" ⟨[.ref a,.ref b],[]⟩ >>= _) _ _ _;unfold slot1 slotArgs;simp only[Gn,Ec,Bb,↓reduceIte,bind_assoc,Ar,Dc,FT];refine BJ<|BP ?_
 dsimp only
 refine BJ<|BP ?_
 dsimp only
 refine BJ<|BJ<|xS Sa ?_;refine xS Sb ?_;simp only[Ec,Bb,CT];unfold addrOf;refine BJ<|BP ?_;refine BJ ?_;show wpAny _ _ (baseOf a >>= λc=>newFrom (toString "frozenset."++toString "__xor__") c (.ref b) >>= λres=>addrOf res >>= λq=>holding [res] (symmetricDifferenceUpdate (toString "frozenset."++toString "__xor__") q<|.ref a) >>= λ_=>pure res) _ _ _;refine BJ<|X9 Sa ?_;refine BJ<|Ya Sb hb λh1 k1 S1=>?_;unfold addrOf;refine BJ<|BP<|BJ<|CG ?_;have Yf:ay prog w h1 a za:=Sa.keep<|k1 a;refine Yd (s:={s with heap:=h1}) Yf S1 (Bp Sa.lt) (by omega) λh2 d ws p sb S2=>?_;refine BP<|BP ⟨_,rfl,by simp,k h2 d _ (λc o e=>?_) S2 λy=>?_⟩
 ·rw[sb.2 c<|Bp<|Au e];exact k1 c o e
 ·rw[N5 ws zb Sb.nodup (p.nodup_iff.mpr Sa.nodup) y];simp only[p.mem_iff]
end
def made(zs:Ñ):Ñ:=zs.foldl added []
def DJ(zs:Ñ)(z y:Str):y∈added zs z↔y∈zs\/y=z:=by
 unfold added
 split
 ·rename_i h;exact⟨.inl,λq=>q.elim id λe=>e ▸ h⟩
 ·rw[Al,Ae]
def Yg(zs:Ñ)(z:Str):(added zs z).length<=zs.length+1:=by
 unfold added
 split <;> simp
theorem N7:∀(ps zs:Ñ) (y:Str),y∈ps.foldl added zs↔y∈zs\/y∈ps
 | [],zs,y=>by simp
 | p :: r,zs,y=>by
  rw[Dm,N7 r,DJ,Ak]
  constructor
  ·rintro ((h | h) | h)
   ·exact .inl h
   ·exact .inr<|.inl h
   ·exact .inr<|.inr h
  ·rintro (h | h | h)
   ·exact .inl<|.inl h
   ·exact .inl<|.inr h
   ·exact .inr h
theorem N8:∀(ps zs:Ñ),(ps.foldl added zs).length<=zs.length+ps.length
 | [],zs=>by simp
 | p :: r,zs=>by
  rw[Dm,Ar];have h1:=N8 r<|added zs p;have h2:=Yg zs p;omega
def Yh(zs:Ñ)(y:Str):y∈made zs↔y∈zs:=by
 unfold made;rw[N7];simp
def DL(zs:Ñ):(made zs).length<=zs.length:=by
 have:=N8 zs []
 simpa[made]using this
section
variable{prog:Program}{w:World}{A:Around}{E:Î}{s:Shared}
def gA(w:World):Obj:={cls:= .type "set",dict:=none,data:= .set #[] 0 (.fresh 0 0 (!cH w))}
def DM{h:Heap}{a:Addr}(e:h.get? a=some (gA w)):ay prog w h a []:=⟨_,_,_,_,e,⟨rfl,rfl,rfl⟩,rfl,eI.tab ⟨rfl,rfl,rfl,rfl⟩⟩
def Yi(v:Value){Q:Î}(k:Q (.ref s.heap.objs.size) {s with heap:=s.heap.push (gA w)}) :
  codeAny (model prog w) A (.call (.builtin "set.__new__") ⟨[.type "set",v],[]⟩) (wants Q E) s:=by
 refine JR ?_;show wpAny _ A.in1 (checkBuiltinCall "set.__new__" ⟨[.type "set",v],[]⟩ >>= λ_=>again<|.builtin "set.__new__" ⟨[.type "set",v],[]⟩) _ _ s;refine BJ<|IK (F.newCall_set_1 v)<|BP ⟨IW F.plain_set_new _,FN F.entry_set_new ?_⟩;rw[FJ F.plain_set_new _];unfold Builtin.«set.__new__» newClass
 dsimp only
 refine BJ<|BJ<|IK (show isType (.type "set")=pure true from rfl)<|BP ?_;simp only[Ec,Bb,CT];unfold newSet;refine BJ<|BJ<|wp_text ?_
 dsimp only
 simp only[newObj];refine BJ<|PL<|BP ?_;exact BP k
variable{R:Result->Shared->Prop}{I:Addr}{fp wr:List Addr}{G:Array GenState->Array GenState->Prop}{n:Nat}{P:Nat->Value->Prop}{St:Nat->Shared->Prop}
theorem Yj(W:WalksS prog w A.in1 I fp wr G n P St)(a:Addr)(ha:a∉fp)(zs:Ñ)(hn:zs.length=n)(pI:∀ i v,P i v->∃ z t,zs[i]?=some z/\v=Value.str z t)(hb:n < 900) :
  ∀(k i:Nat) (s:Shared),n - i=k->i<=n->St i s->ay prog w s.heap a (made<|zs.take i)->(∀ s',Moved (a :: wr) G s s'->ay prog w s'.heap a (made zs)->R (.ok<|.ret .none) s') ->
   codeAny (model prog w) A (.builtin "set.update.loop" ⟨[.ref a,.ref I],[]⟩) R s:=by
 have N9:a∉wr:=λh=>ha<|W.sub _ h;have mh:∀ b∈wr,b∈a :: wr:=λb hb=>Ah _ hb;intro k
 induction k with
 | zero=>
  intro i s hk hi st S k2;have e:i=n:=by omega
  subst e;refine FN JX ?_;rw[FJ HS _];show wpAny _ A.in1 (pyNext (.ref I) >>= _) _ _ s;refine BJ<|W.done s _ _ st λs' m=>?_;show wpAny _ A.in1 (ret Value.none) _ _ s';rw[Bz<|by omega]at S;exact BP<|k2 s' (m.mono mh)<|S.keep λo e=>m.heap a o N9 e
 | succ k ih=>
  intro i s hk hi st S k2;have bd:i < n:=by omega
  refine FN JX ?_;rw[FJ HS _];show wpAny _ A.in1 (pyNext (.ref I) >>= _) _ _ s;refine BJ<|W.item i s _ _ bd st λv s' hP d9 m=>?_;obtain⟨z,t,hz,rfl⟩:=pI i v hP;have S':ay prog w s'.heap a (made<|zs.take i):=S.keep λo e=>m.heap a o N9 e;show wpAny _ A.in1 (holding [Value.str z t] (setAdd a<|.str z t) >>= _) _ _ s';refine BJ<|CG ?_;unfold setAdd;refine CG<|BJ<|(strKind prog w).pyHash (k:=z) (NK _ _ _ _) ?_;have hl:(made<|zs.take i).length<=i:=Bq (DL _) (by rw[Bg];omega);refine DA (s:={s' with toks:=s'.toks+1}) S' (by omega) λb h' sb S2=>?_;have S3:ay prog w h' a (made<|zs.take<|i+1):=by
   rw[Cb,hz];unfold made;rw[List.foldl_append];exact S2
  refine BP ⟨IW HS _,ih (i+1) _ (by omega) bd (W.frame _ s' _ _ d9 (Em _) λc hc o e=>?_) S3 λs2 m2 S4=>?_⟩
  ·rw[sb.2 c λh=>ha<|h ▸ hc];exact e
  ·refine k2 s2 (Moved.trans W.gtrans ((m.mono mh).then_heap (Em _) λc o hc e=>?_) m2) S4;rw[sb.2 c λh=>hc<|h ▸ Af];exact e
theorem Yk{Q:Î}{l:Addr}{items:Array Value}{zs:Ñ}(hh:A.handled=none)(hl:s.heap.IsList l items)(hi:∀(i:Nat) v,items[i]?=some v->∃ z t,zs[i]?=some z/\v=Value.str z t)(hz:zs.length=items.size)(hb:items.size < 900)
  (k:∀ h' tk,(∀ b o,s.heap.get? b=some o->h'.get? b=some o)->ay prog w h' s.heap.objs.size (made zs)->Q (.ref s.heap.objs.size) {s with heap:=h',toks:=tk}):wpAny (model prog w) A (call (.type "set") [.ref l]) Q E s:=by
 obtain⟨c,tl,DS⟩:=F.called_set.mro;have uv:=F.called_set.made;have mh:=F.called_set.sub;refine wpAny_call<|JR ?_;show wpAny _ _ (callAny (.type "set") _) _ _ _;refine BP ⟨Code.quiet_builtin _ (by decide +kernel),FN F.entry_type_call ?_⟩;rw[Around.under_plain (weight_type_call_type "set" [.ref l] []) rfl];have h1:=F.called_set.notType;have h2:=F.called_set.canCreate;have h3:=F.typeCall_set_1<|.ref l
 repeat (any_goals (first | assumption | wp_step))
 refine JH (Yi (.ref l) (E:=E) (Q:=λv À=>v = .ref s.heap.objs.size/\À={s with heap:=s.heap.push (gA w)}) ⟨rfl,rfl⟩) λr À hr=>?_;cases r with
 | error e=>exact hr
 | ok fl=>
  cases fl with
  | ret v=>
   obtain⟨rfl,rfl⟩:=hr;have hS:(s.heap.push<|gA w).get? s.heap.objs.size=some (gA w):=Av _ rfl;have hT:Shared.TypeIs {s with heap:=s.heap.push (gA w)} (.ref s.heap.objs.size) "set":=⟨_,hS,rfl⟩;have rN:=F.called_set.init.lookup;have DT:=F.called_set.init.bind<|.ref s.heap.objs.size
   repeat (any_goals (first | assumption | wp_step))
   refine JH (codeAny_call_builtin (R:=wants (λr Á=>r = .none/\∃ h' tk,Á={s with heap:=h',toks:=tk}/\(∀ b o,s.heap.get? b=some o->h'.get? b=some o)/\ay prog w h' s.heap.objs.size (made zs)) E) F.called_set.init.plain F.entry_set_init<|check_set_init_1 hT ?_) λr2 s2 pJ=>?_
   ·obtain⟨ol,uw,jh,nl,iH⟩:=hl;obtain⟨Yl,uz,Oa,pK⟩:=ol;simp only at jh iH;subst jh iH;have DU:(s.heap.push<|gA w).get? l=some {cls:= .type "list",dict:=uz,data:= .seq items nl,slots:=pK}:=Ai _ uw;have n1:=F.sub_list_set;have n2:=F.sub_list_frozenset;have n3:(Value.type "list" == Value.type "dict")=false:=by decide
    have eJ:(s.heap.push<|gA w).IsList l items:=⟨_,DU,rfl,nl,rfl⟩;have DV:(s.heap.push<|gA w).get? s.heap.objs.size=some {cls:= .type "set",dict:=none,data:= .set #[] 0 (.fresh 0 0 (!cH w))}:=hS;unfold Builtin.«set.__init__» noKeywords updateFrom;generalize Ym:pyIter=PI
    wp_walk
    subst Ym;refine QJ eJ ?_;refine BJ<|wpAny_runValue ?_;have bd:l < s.heap.objs.size:=Au uw;have bn:l≠(s.heap.push<|gA w).objs.size:=by
     rw[Dd];exact Bp<|Bx bd
    have Yn:s.heap.objs.size∉[(s.heap.push<|gA w).objs.size,l]:=by
     rw[Dd];intro h
     rcases Ak.mp h with h | h
     ·exact absurd h<|Bp<|Ft _
     ·rw[Ae]at h;exact absurd h<|Ct bd
    refine Yj ((Walks.list (by simp[hh]) _ l bn items).toS) s.heap.objs.size Yn zs hz (λi v hv=>hi i v hv) hb (items.size - 0) 0 _ (by omega) (Cf _)
     ⟨⟨_,Av _ rfl,rfl,rfl⟩,(eJ.push _)⟩ ?_ λs' m S'=>?_
    ·exact DM<|Ai _ hS
    ·obtain⟨h',g',d',xU,bZ⟩:=s';have eg:g'=s.gens:=m.gens;have ed:d'=s.drawn:=m.drawn;have eo:bZ=s.os:=m.os;subst eg ed eo;refine BP ?_;refine BP ⟨rfl,h',xU,rfl,λb o e=>?_,S'⟩;have hb:=Au e;refine m.heap b o (λh=>?_)<|Ai _<|Ai _ e;rw[Dd]at h
     rcases Ak.mp h with h | h
     ·exact absurd h<|Bp hb
     ·rw[Ae]at h;exact absurd h<|Bp<|Bx hb
   ·cases r2 with
    | error e=>exact pJ
    | ok Yo=>
     cases Yo with
     | ret r=>
      obtain⟨rfl,h',tk,rfl,q1,q2⟩:=pJ
      repeat (any_goals (first | assumption | wp_step))
      exact k _ _ q1 q2
     | _=>exact pJ.elim
  | _=>exact hr.elim
end
def slot_next:Slot "set_iterator" "__next__" "set_iterator.__next__":=
 .of (owner:= "set_iterator") (n:= "__next__") (by rw[RW,LQ];kernel_rfl) (by decide +kernel) (by decide +kernel) (by decide +kernel)
  (by first | exact .inl (by decide +kernel) | exact .inr<|by decide +kernel) (by rw[isSubtype_type];kernel_rfl)
def entry_next:entryFor table "set_iterator.__next__" = some Builtin.«set_iterator.__next__»:=entryFor_of_fast<|by kernel_rfl
def args_next(a:Value):argsOk "set_iterator.__next__" ⟨[a],[]⟩:=by unfold argsOk;kernel_rfl
def Yp:entryFor table "set.__iter__" = some Builtin.«frozenset.__iter__»:=
 PB (id':= "frozenset.__iter__") (by kernel_rfl) rfl (by decide +kernel) (by kernel_rfl)
def lh(first:Value)(i:Nat)(a:Addr)(n ep:Nat):Obj:={cls:= .type "set_iterator",data:= .fields #[first,.int i 0,.ref a,.int n 0,.int ep 0]}
def fB(ys:List Nat):Obj:={cls:= .type "tuple",data:= .seq (ys.map λ(i:Nat)=>rawInt i).toArray}
inductive Way (w:World) (h:Heap) (a tp:Addr) (es:Array<|Int×Value) (ep:Nat) (t:SetTable) (ws:List<|Int×Value) (i:Nat):Value->Prop where
 | drawn (ys:List Nat) (ht:h.get? tp=some (fB ys)) (hl:ys.length=es.size) (hw:∀ j:Nat,∀ y,ys[j]?=some y->es[y]?=ws[j]?):Way w h a tp es ep t ws i<|.ref tp
 | text (c:Int) (hb:cH w=true) (hw:ws=(pickOrder (w.params.setOrder a ep) es).toList):Way w h a tp es ep t ws i<|.int c 0
 | one (c:Nat) (hb:cH w=false) (hs:es.size<=1) (hw:ws=es.toList) (hc:SetTable.below t.place c=i):Way w h a tp es ep t ws i<|.int c 0
section
variable{prog:Program}{w:World}{A:Around}{E:Î}{s:Shared}{a tp it:Addr}{zs:Ñ}{o:Obj}{es:Array (Int×Value)}{ep:Nat}{t:SetTable}{ws:List (Int×Value)}{i:Nat}{first:Value}
def Ob(j c:Nat):SetTable.below #[j] c=if j < c then 1 else 0:=by
 unfold SetTable.below;show SetTable.below.go #[j] c 1 0 1=_;unfold SetTable.below.go;simp only[Nat.zero_lt_one,DP];show(if(#[j]:Array Nat).getD 0 c < c then SetTable.below.go #[j] c 0 1 1 else SetTable.below.go #[j] c 0 0 0)=_;rw[show(#[j]:Array Nat).getD 0 c=j by rfl]
 split <;> rfl
theorem Way.keep{h h':Heap}(W:Way w h a tp es ep t ws i first)(k:∀ o,h.get? tp=some o->h'.get? tp=some o):Way w h' a tp es ep t ws i first:=by
 cases W with
 | drawn ys ht hl hw=>exact .drawn ys (k _ ht) hl hw
 | text c hb hw=>exact .text c hb hw
 | one c hb hs hw hc=>exact .one c hb hs hw hc
def uA{h:Heap}{n:Nat}(x:Value)(e:h.get? it=some (lh first i a n ep)):(h.update it (Obj.mapFields (·.setIfInBounds 0 x))).get? it=some (lh x i a n ep):=Di _ e rfl
def up1{h:Heap}{n:Nat}(e:h.get? it=some (lh first i a n ep)):(h.update it (Obj.mapFields (·.setIfInBounds 1 (rawInt<|(i:Int)+1)))).get? it=some (lh first (i+1) a n ep):=Di _ e rfl
theorem Oc{p:Array Nat}(h:p.size=1):∃ j,p=#[j]:=by
 obtain⟨l⟩:=p
 match l,h with
 | [j],_=>exact⟨j,rfl⟩
def Od(T:Tab prog w es t zs):t.place.size=es.size:=by
 have:=T.fits;unfold SetTable.fits at this;rw[By,HX]at this;exact this.1
theorem Yq{Q:Option Value->Shared->Prop}(hi:s.heap.get? it=some (lh first i a es.size ep))(ho:s.heap.get? a=some o)(hd:o.data = .set es ep t)(T:Tab prog w es t zs)(hW:Way w s.heap a tp es ep t ws i first)
  (bn:tp≠it) (hp:ws.Perm es.toList) {e:Int×Value} (he:ws[i]?=some e) (k:∀ h' kh,Heap.SameBut it s.heap h'->h'.get? it=some (lh kh (i+1) a es.size ep)->Way w h' a tp es ep t ws (i+1) kh->Q (some e.2) {s with heap:=h'}) :
  wpAny (model prog w) A (pyNext<|.ref it) Q E s:=by
 have hT:s.TypeIs (.ref it) "set_iterator":=⟨_,hi,rfl⟩;unfold pyNext;refine BJ<|KY<|IV (name:=Str.ofString "__next__") hT slot_next<|DG slot_next hT entry_next ?_<|args_next _;unfold Builtin.«set_iterator.__next__»;refine BJ<|BP ?_;refine BJ<|PJ hi rfl ?_
 dsimp only
 refine BJ<|JQ ho hd T.fits ?_;rw[BK<|by simp];have Oe:∀ x,Heap.SameBut it s.heap ((s.heap.update it (Obj.mapFields (·.setIfInBounds 0 x))).update it (Obj.mapFields (·.setIfInBounds 1 (rawInt<|(i:Int)+1)))):=λx=>(CQ ..).trans<|CQ ..;have fD:i < es.size:=by
  have h1:ws.length=es.size:=by simpa using hp.length_eq
  rcases Do i ws.length with h | h
  ·omega
  ·rw[Be h]at he;cases he
 have Og:Heap.SameBut it s.heap (s.heap.update it (Obj.mapFields (·.setIfInBounds 1 (rawInt<|(i:Int)+1)))):=CQ ..;cases hW with
 | drawn ys ht hl hw=>
  dsimp only
  have hy:ys[i]?=some (ys[i]'(by omega)):=Ab _;generalize ys[i]'(by omega)=y at hy;refine BJ<|wpAny_seqItems ht rfl ?_
  dsimp only
  have e1:(ys.map λ(i:Nat)=>rawInt i).toArray[(i:Int).toNat]?=some (.int y 0):=by
   rw[Bo,TV,Aj,hy];rfl
  rw[e1]
  dsimp only
  unfold setNextDrawn;refine BJ<|BJ<|CJ ho hd T.fits ?_
  dsimp only
  rw[BK<|by simp];have e2:es[(y:Int).toNat]?=some e:=by
   rw[Bo,hw i y hy];exact he
  rw[e2]
  dsimp only
  refine BP (BJ<|DR hi rfl (by simp) ?_);refine BP ⟨_,rfl,BP<|k _ _ Og (up1 hi)<|.drawn ys ?_ hl hw⟩;rw[Og.2 tp bn];exact ht
 | text c hb hw=>
  dsimp only
  unfold setNext;refine BJ<|BJ<|CJ ho hd T.fits ?_
  dsimp only
  refine BJ<|wp_text ?_;rw[hb];simp only[DP];rw[BK<|by simp];unfold setWalk;refine BJ<|BJ<|CJ ho hd T.fits ?_
  dsimp only
  refine BJ<|wp_text ?_;rw[hb];simp only[DP];refine BJ<|JL ?_;refine BP ?_;have e1:(pickOrder ((model prog w).w.params.setOrder a ep) es)[(i:Int).toNat]?=some e:=by
   rw[Bo,<- Cd];show(pickOrder (w.params.setOrder a ep) es).toList[i]?=_;rw[<- hw];exact he
  rw[e1];refine BP ?_
  dsimp only[Option.map]
  refine BJ (DR hi rfl (by simp) ?_);refine BJ (DR (uA _ hi) rfl (by simp) ?_);exact BP ⟨_,rfl,BP<|k _ _ (Oe _) (up1<|uA _ hi)<|.text _ hb hw⟩
 | one c hb hs hw hc=>
  have Yr:i=0:=by omega
  have jM:es.size=1:=by omega
  subst Yr;have rO:t.place.size=1:=(Od T).trans jM;obtain⟨j,hj⟩:=Oc rO
  dsimp only
  unfold setNext;refine BJ<|BJ<|CJ ho hd T.fits ?_
  dsimp only
  refine BJ<|wp_text ?_;rw[hb];simp only[Bb,CT];show wpAny _ _ (if(!t.plain && decide (es.size > 1))=true then _ else _) _ _ _;rw[BK<|by rw[jM];simp];refine BJ ?_;show wpAny _ _ (if(!t.led && !es.isEmpty)=true then _ else _) _ _ _;rw[BK<|by rw[T.led,hb];simp];refine BP ?_;rw[Bo,hc];have e1:es[0]?=some e:=by
   rw[<- Cd,<- hw];exact he
  have e2:t.place[0]?=some j:=by rw[hj];rfl
  rw[e1,e2];refine BP ?_
  dsimp only
  refine BJ (DR hi rfl (by simp) ?_);refine BJ (DR (uA _ hi) rfl (by simp) ?_);refine BP ⟨_,rfl,BP<|k _ _ (Oe _) (up1<|uA _ hi)<|.one (j+1) hb hs hw ?_⟩;rw[hj,Ob,BL<|Ft _]
theorem Ys{Q:Option Value->Shared->Prop}(hh:A.handled=none)(hi:s.heap.get? it=some (lh first i a es.size ep))(ho:s.heap.get? a=some o)(hd:o.data = .set es ep t)(T:Tab prog w es t zs)(hW:Way w s.heap a tp es ep t ws i first)
  (hp:ws.Perm es.toList) (he:i=es.size) (k:∀ h',Heap.ExtBut it s.heap h'->Q none {s with heap:=h'}) :
  wpAny (model prog w) A (pyNext<|.ref it) Q E s:=by
 have hT:s.TypeIs (.ref it) "set_iterator":=⟨_,hi,rfl⟩;have wl:ws.length=es.size:=by simpa using hp.length_eq
 unfold pyNext;refine BJ<|KY<|IV (name:=Str.ofString "__next__") hT slot_next<|DG slot_next hT entry_next ?_<|args_next _;unfold Builtin.«set_iterator.__next__»;refine BJ<|BP ?_;refine BJ<|PJ hi rfl ?_
 dsimp only
 refine BJ<|JQ ho hd T.fits ?_;rw[BK<|by simp];have fin:∀ h2:Heap,Heap.SameBut it s.heap h2->wpAny (model prog w) A.in1 (newExc (Value.type "StopIteration") [] >>= λx=>(raiseNew x:Sem Fin)) (λfin s'=>∃ v,fin=Fin.done (Flow.ret v)/\wpAny (model prog w) A (pure<|some v) Q E s')
   (λe s'=>wpAny (model prog w) A (isInstance e (Value.type "StopIteration") >>= λb=>if b=true then pure none else throw e) Q E s') {s with heap:=h2}:=by
  intro h2 sb;refine BJ ?_;simp only[newExc,newTuple];refine BJ (CZ ?_<|by size_fits);refine BJ (m:=firstArgMember _ _) (IK (a:=Value.none) (by first | rfl | (simp only[firstArgMember];rfl)) ?_);refine CZ ?_ (by size_fits);simp only[raiseNew];refine BJ<|wpAny_handled ?_;rw[show A.in1.handled=none from hh];refine BJ<|BP<|wpAny_throw ?_;refine BJ<|JM (T:= "StopIteration") (b:=true) ⟨_,Av _ rfl,rfl⟩ isSubtype_stop ?_;exact BP<|k _<|(sb.extBut.push _).push _
 cases hW with
 | drawn ys ht hl hw=>
  dsimp only
  refine BJ<|wpAny_seqItems ht rfl ?_
  dsimp only
  have e1:(ys.map λ(i:Nat)=>rawInt i).toArray[(i:Int).toNat]?=none:=by
   rw[Bo,TV,Be];rw[Aa];omega
  rw[e1]
  dsimp only
  refine BJ (DR hi rfl (by simp) ?_);refine BJ (DR (uA _ hi) rfl (by simp) ?_);exact fin _<|(CQ ..).trans<|CQ ..
 | text c hb hw=>
  dsimp only
  unfold setNext;refine BJ<|BJ<|CJ ho hd T.fits ?_
  dsimp only
  refine BJ<|wp_text ?_;rw[hb];simp only[DP];rw[BK<|by simp];unfold setWalk;refine BJ<|BJ<|CJ ho hd T.fits ?_
  dsimp only
  refine BJ<|wp_text ?_;rw[hb];simp only[DP];refine BJ<|JL ?_;refine BP ?_;have e1:(pickOrder ((model prog w).w.params.setOrder a ep) es)[(i:Int).toNat]?=none:=by
   rw[Bo,<- Cd];show(pickOrder (w.params.setOrder a ep) es).toList[i]?=_;rw[<- hw,Be];omega
  rw[e1];refine BP ?_
  dsimp only[Option.map]
  refine BJ (DR hi rfl (by simp) ?_);exact fin _<|CQ ..
 | one c hb hs hw hc=>
  dsimp only
  unfold setNext;refine BJ<|BJ<|CJ ho hd T.fits ?_
  dsimp only
  refine BJ<|wp_text ?_;rw[hb];simp only[Bb,CT];show wpAny _ _ (if(!t.plain && decide (es.size > 1))=true then _ else _) _ _ _;rw[BK<|by rw[BR<|by omega];simp];refine BJ ?_;show wpAny _ _ (if(!t.led && !es.isEmpty)=true then _ else _) _ _ _;rw[BK<|by rw[T.led,hb];simp];refine BP ?_;rw[Bo,hc];have e1:es[i]?=none:=Ej (by omega);rw[e1];refine BP ?_
  dsimp only
  refine BJ (DR hi rfl (by simp) ?_);exact fin _<|CQ ..
open PySem.Spec
def Oh:Slot "set_iterator" "__iter__" "set_iterator.__iter__":=
 .of (owner:= "set_iterator") (n:= "__iter__") (by rw[RW,LQ];kernel_rfl) (by decide +kernel) (by decide +kernel) (by decide +kernel)
  (by first | exact .inl (by decide +kernel) | exact .inr<|by decide +kernel) (by rw[isSubtype_type];kernel_rfl)
def Yu:entryFor table "set_iterator.__iter__" = some Builtin.«dict_keyiterator.__iter__»:=
 PB (id':= "dict_keyiterator.__iter__") (by kernel_rfl) rfl (by decide +kernel) (by kernel_rfl)
def Yv(a:Value):argsOk "set_iterator.__iter__" ⟨[a],[]⟩:=by unfold argsOk;kernel_rfl
def Yw(hh:A.handled=none)(h1:a≠it)(h2:tp≠it)(hd:o.data = .set es ep t)(T:Tab prog w es t zs)(hp:ws.Perm es.toList) :
  Walks prog w A it [it,a,tp] [it] es.size (λi v=>∃ e,ws[i]?=some e/\v=e.2) (λi h=>∃ first,h.get? it=some (lh first i a es.size ep)/\h.get? a=some o/\Way w h a tp es ep t ws i first) where
 sub:=λb hb=>by simp at hb;simp[hb]
 frame:=λi h h' ⟨first,q1,q2,q3⟩ k=>⟨first,k it (by simp) _ q1,k a (by simp) _ q2,q3.keep<|k tp<|by simp⟩
 item:=λi s Q E hi ⟨first,q1,q2,q3⟩ k=>by
  have wl:ws.length=es.size:=by simpa using hp.length_eq
  obtain⟨e,he⟩:∃ e,ws[i]?=some e:=⟨ws[i]'(by omega),Ab _⟩;refine Yq q1 q2 hd T q3 h2 hp he λh' f' sb g1 g2=>?_;exact k _ h' s.toks ⟨e,he,rfl⟩ ⟨f',g1,by rw[sb.2 a h1];exact q2,g2⟩ λb o hb e=>by rw[sb.2 b λh=>hb<|by simp[h]];exact e
 done:=λs Q E ⟨first,q1,q2,q3⟩ k=>Ys hh q1 q2 hd T q3 hp rfl λh' e=>k h' s.toks λb o hb e2=>e b o (λh=>hb<|by simp[h]) e2
 self:=λi s Q E ⟨first,q1,q2,q3⟩ k=>by
  have hT:s.TypeIs (.ref it) "set_iterator":=⟨_,q1,rfl⟩;refine KH hT Oh<|DG Oh hT Yu ?_<|Yv _;show wpAny _ _ (ret<|.ref it) _ _ s;exact BP ⟨_,rfl,"set_iterator",_,hT,slot_next.lookup,k⟩
def Yx(es:Array<|Int×Value):(List.range es.size).map (λy=>(es[y]?).getD (0,Value.none))=es.toList:=by
 refine RB (by simp) λj h1 h2=>?_;rw[Dw,Fa];have:j < es.size:=by simpa using h2
 rw[Dp this];simp
def Yy{Q:Î}(ho:s.heap.get? a=some o)(hx:o.ExactSet)(hd:o.data = .set es ep t)(T:Tab prog w es t zs)
  (k:∀ h' d it tp ws first,(∀ b u,s.heap.get? b=some u->h'.get? b=some u)->s.heap.objs.size<=it->it < h'.objs.size->tp < h'.objs.size->(tp=a\/s.heap.objs.size<=tp)->tp≠it->h'.get? it=some (lh first 0 a es.size ep)->Way w h' a tp es ep t ws 0 first->ws.Perm es.toList->Q (.ref it) {s with heap:=h',drawn:=d}) :
  wpAny (model prog w) A (pyIter<|.ref a) Q E s:=by
 have hT:s.TypeIs (.ref a) "set":=⟨o,ho,hx.1⟩;have bd:a < s.heap.objs.size:=Au ho;refine KH hT F.slot_set_iter<|DG F.slot_set_iter hT Yp ?_<|F.args_set_iter_1 _;unfold Builtin.«frozenset.__iter__» slot0 slotArgs;simp only[Gn,Ec,Bb,↓reduceIte,bind_assoc,Dc,FT];unfold addrOf Builtin.Frozenset.sizeOf;refine BJ<|BP ?_;refine BJ<|BP ?_;refine BJ<|BJ<|JQ ho hd T.fits<|BP ?_;unfold setDrawn;refine BJ<|BJ<|CJ ho hd T.fits ?_
 dsimp only
 refine BJ<|wp_text ?_;refine BP ?_
 by_cases c:(!cH w && (!t.plain && decide (es.size > 1)))=true
 ·show wpAny _ _ (if(!cH w && (!t.plain && decide (es.size > 1)))=true then _ else _) _ _ _;rw[BL c];refine BJ (DB _ _ _ _ (by simp) λys d p=>?_);have uB:ys.length=es.size:=by simpa using p.length_eq
  refine BJ (PK ?_<|by rw[Aa,uB];exact kg<|Bx T.fA);have o1:(s.heap.push<|fB ys).get? a=some o:=Ai _ ho;refine BJ<|KD (s:={s with heap:=s.heap.push<|fB ys,drawn:=d}) o1 hd T.fits ?_;refine BJ<|CZ<|BP ⟨_,rfl,"set_iterator",_,⟨_,Av _ rfl,rfl⟩,slot_next.lookup,?_⟩;have jM:(s.heap.push<|fB ys).objs.size=s.heap.objs.size+1:=Dd ..;refine k _ d _ s.heap.objs.size (ys.map λy=>(es[y]?).getD (0,Value.none)) (.ref s.heap.objs.size) (λb u e=>Ai _<|Ai _ e) (by show s.heap.objs.size<=(s.heap.push<|fB ys).objs.size;omega) ?_ ?_ (.inr<|Ao _) ?_ (Av _ rfl) ?_ ?_
  ·show(s.heap.push<|fB ys).objs.size < ((s.heap.push<|fB ys).push _).objs.size;simp only[Dd];omega
  ·show s.heap.objs.size < ((s.heap.push<|fB ys).push _).objs.size;rw[Dd,jM];omega
  ·show s.heap.objs.size≠(s.heap.push<|fB ys).objs.size;omega
  ·refine .drawn ys (Ai _<|Av _ rfl) uB λj y hy=>?_;have hm:y < es.size:=by
    have:=p.mem_iff.mp<|As hy
    simpa using this
   rw[Aj,hy];show _=some ((es[y]?).getD (0,Value.none));rw[Dp hm];rfl
  ·have:=p.map λy=>(es[y]?).getD (0,Value.none);rwa[Yx]at this
 ·show wpAny _ _ (if(!cH w && (!t.plain && decide (es.size > 1)))=true then _ else _) _ _ _;rw[BK c];refine BJ<|BP ?_;refine BJ<|KD ho hd T.fits ?_;refine BJ<|CZ<|BP ⟨_,rfl,"set_iterator",_,⟨_,Av _ rfl,rfl⟩,slot_next.lookup,?_⟩;have kk:=λws hW hp=>k (s.heap.push<|lh (.int 0 0) 0 a es.size ep) s.drawn s.heap.objs.size a ws (.int 0 0) (λb u e=>Ai _ e) (Ao _) (by rw[Dd];exact Ft _) (by rw[Dd];exact Bx bd) (.inl rfl) (Bp bd) (Av _ rfl) hW hp;cases hb:cH w with
  | true=>exact kk _ (.text 0 hb rfl)<|N3 _ _
  | false=>
   have h1:es.size<=1:=by
    rcases T.plain with q | q
    ·rw[q];simp
    ·rw[hb,q]at c;simp at c;exact c
   refine kk es.toList (.one 0 hb h1 rfl ?_)<|List.Perm.refl _;have rO:=Od T
   rcases Do es.size 1 with h | h
   ·have:t.place=#[]:=Array.eq_empty_of_size_eq_zero (by omega);rw[this];rfl
   ·obtain⟨j,hj⟩:=Oc (p:=t.place) (by omega);rw[hj,Ob,BK<|Ee _]
def Yz:typeLookup (.type "set") "__len__" = pure (some<|.builtin "set.__len__"):=F.slot_set_len.lookup
def YB{Q:Bool->Shared->Prop}(hT:s.TypeIs (.ref a) "set")(k:Q false s):wpAny (model prog w) A (Builtin.List.listLengthHint<|.ref a) Q E s:=by
 unfold Builtin.List.listLengthHint;refine BJ<|RT hT Yz ?_
 dsimp only
 have e1:splitId "set.__len__" = some ("set","__len__"):=by kernel_rfl
 rw[e1]
 dsimp only
 refine BJ<|JM hT sub_set_self ?_;simp only[Ec,Bb,CT];rw[BL]
 ·exact BJ<|JW hT<|BP k
 ·decide +kernel
def YC{Q:Ó->Shared->Prop}(hh:A.handled=none)(ho:s.heap.get? a=some o)(hx:o.ExactSet)(hd:o.data = .set es ep t)(T:Tab prog w es t zs)
  (k:∀ s' (acc:List<|Int×Value),(∀ b u,s.heap.get? b=some u->s'.heap.get? b=some u)->s'.gens=s.gens->s'.os=s.os->s.heap.objs.size < s'.heap.objs.size->acc.Perm es.toList->Q (acc.map (·.2)) s'):wpAny (model prog w) A (collect<|.ref a) Q E s:=by
 have bd:a < s.heap.objs.size:=Au ho;unfold collect;refine BJ<|wpAny_runValue<|FN F.entry_proto_collect ?_;rw[FJ F.plain_proto_collect _];show wpAny _ A.in1 (newList [] >>= λl=>again<|.builtin "list.__iadd__" ⟨[l,.ref a],[]⟩) _ _ s;refine BJ<|JN ?_;refine BP ⟨IW F.plain_list_iadd _,FN F.entry_list_iadd ?_⟩;rw[FJ F.plain_list_iadd _];generalize hL:s.heap.objs.size=L;have mj:(s.heap.push {cls:= .type "list",data:= .seq ([]:Ó).toArray}).get? a=some o:=Ai _ ho;have YD:(s.heap.push {cls:= .type "list",data:= .seq ([]:Ó).toArray}).get? L=some {cls:= .type "list",data:= .seq ([]:Ó).toArray}:=by rw[<- hL];exact Av _ rfl
 have hT:Shared.TypeIs {s with heap:=s.heap.push {cls:= .type "list",data:= .seq ([]:Ó).toArray}} (.ref a) "set":=⟨o,mj,hx.1⟩;show wpAny _ A.in1 (Builtin.List.listExtendWith (.ref L) (.ref a)<|.ref L) _ _ _;unfold Builtin.List.listExtendWith;refine BJ<|JW hT ?_;have n1:Builtin.List.listSameRef (.ref L) (.ref a)=false:=by
  have:L≠a:=by rw[<- hL];exact Ct bd
  simp[Builtin.List.listSameRef,this]
 have n2:(Value.type "set" == Value.type "list")=false:=by decide
 have n3:(Value.type "set" == Value.type "tuple")=false:=by decide
 simp only[n1,n2,n3,Bool.or_false,Bb,CT];refine BJ<|Yy mj hx hd T λh2 d it tp ws first uC rP hi2 li rQ bn gi W p=>?_;have Oi:=uC a o mj;have DV:=uC L _ YD;have mq:(s.heap.push {cls:= .type "list",data:= .seq ([]:Ó).toArray}).objs.size=L+1:=by rw[Dd,hL]
 refine BJ<|CG<|YB (a:=a) (s:={s with heap:=h2,drawn:=d}) ⟨o,Oi,hx.1⟩ ?_;show wpAny _ A.in1 (rule "list.extend.makes-room" >>= λ_=>Builtin.List.listTouch (.ref L) >>= λ_=>again<|.builtin "list.extend.loop" ⟨[.ref L,.ref it,.ref L],[]⟩) _ _ _;refine BJ<|HN ?_;refine BJ ?_;show wpAny _ A.in1 (updateSeq L (·.push .none) >>= λ_=>updateSeq L (·.pop)) _ _ _;refine BJ<|wpAny_updateSeq DV rfl ?_;have Oj:=Di (Obj.mapSeq (·.push Value.none)) DV rfl;refine wpAny_updateSeq Oj rfl ?_;have YF:=Di (Obj.mapSeq (·.pop)) Oj rfl;have ii:∀ b u,b≠L->h2.get? b=some u->((h2.update L (Obj.mapSeq (·.push Value.none))).update L (Obj.mapSeq (·.pop))).get? b=some u:=
  λb u hb e=>(Cg _ _<|CK hb).trans<|(Cg _ _<|CK hb).trans e
 have uD:it≠L:=by
  have ik:L+1<=it:=by rw[<- mq];exact rP
  exact Ct ik
 have DZ:a≠L:=by rw[<- hL];exact Bp bd
 have YG:a≠it:=by
  have ik:L+1<=it:=by rw[<- mq];exact rP
  intro e;rw[<- hL,<- e]at ik;exact absurd ik<|Nat.not_le.mpr<|Bx bd
 have Ol:tp≠L:=by
  rcases rQ with h | h
  ·rw[h];exact DZ
  ·have h':L+1<=tp:=by rw[<- mq];exact h
   exact Ct h'
 have nF:L∉[it,a,tp]:=by
  intro h
  rcases Ak.mp h with h | h
  ·exact uD h.symm
  ·rcases Ak.mp h with h | h
   ·exact DZ h.symm
   ·exact Ol (Ae.mp h).symm
 refine BP ⟨IW F.plain_extend_loop _,codeAny_extend_loopS ((Yw (by simp[hh]) YG bn hd T p).toS) (kg<|Bx T.fA) L nF (.ref L) es.size 0 _ _ _ rfl (Cf _) ⟨first,ii it _ uD gi,ii a _ DZ Oi,W.keep λu e=>ii tp u Ol e⟩ YF (ItemsOf.nil _) λs' acc c m Om hI=>?_⟩;show wpAny _ A (load L >>= _) _ _ s';refine BJ<|wpAny_load Om ?_;have wl:ws.length=es.size:=by simpa using p.length_eq
 have el:acc.toList=ws.map (·.2):=by
  refine Dz λj=>?_;rw[Cd,Aj];cases hj:acc[j]? with
  | none=>
   have:ws[j]?=none:=by
    rw[Be];rw[wl,<- hI.1];exact Array.getElem?_eq_none_iff.mp hj
   rw[this];rfl
  | some v=>
   obtain⟨e,h1,h2⟩:=hI.2 j v hj;rw[h1,h2];rfl
 refine BP ?_;rw[el];refine k s' ws (λb u e=>?_) m.gens m.os (by rw[hL];exact Au Om) p;have hb:b < s.heap.objs.size:=Au e;have Oo:b≠L:=by rw[<- hL];exact Bp hb
 have DT:b≠it:=by
  intro q;have ik:L+1<=it:=by rw[<- mq];exact rP
  rw[<- hL,<- q]at ik;exact absurd ik<|Nat.not_le.mpr<|Bx hb
 refine m.heap b u (λh=>?_)<|ii b u Oo<|uC b u<|Ai _ e
 rcases Ak.mp h with h | h
 ·exact Oo h
 ·exact DT<|Ae.mp h
end
end bA
namespace bA
open PySem PySem.Spec PyProof.Rows
def YH(a b:List Nat):ltCps a b=decide (a < b):=ltCps_eq a b
theorem dF:∀(l:Ñ) (p:Str),risingS p l=true->∀ x∈l,p.cps.toList<=x.cps.toList
 | [],_,_,x,hx=>by cases hx
 | y :: r,p,h,x,hx=>by
  unfold risingS at h;rw[By,JG,YH,FQ]at h;have h1:p.cps.toList<=y.cps.toList:=h.1
  rcases Ak.mp hx with rfl | hx
  ·exact h1
  ·exact List.le_trans h1<|dF r y h.2 x hx
theorem eQ{p:Str}:∀{l:Ñ},risingS p l=true->sortedS l=true
 | [],_=>rfl
 | y :: r,h=>by
  unfold risingS at h;rw[By]at h;exact h.2
def fE{a b:Str}(h:a.cps.toList=b.cps.toList):a=b:=by
 cases a;cases b;simp only at h;have:=Array.toList_inj.mp h;rw[this]
theorem Oq{prog:Program}{w:World}:∀(l:List<|Int×Value),(∀ e∈l,nH prog w e)->StrsAre (l.map (·.2)) (l.map keyOf)
 | [],_=> .nil
 | e :: r,h=>by
  obtain⟨z,t,rfl⟩:=h e Af;exact .cons z t<|Oq r λx hx=>h x<|Ah _ hx
section
variable{prog:Program}{w:World}{A:Around}{E:Î}{s:Shared}{a:Addr}{zs:Ñ}
def YJ{Q:Î}(hh:A.handled=none)(S:ay prog w s.heap a zs)(pL:zs.length < 64)
  (k:∀(s':Shared) (l:Addr) (out:Array Value) (e:Nat) (ss:Ñ),(∀ b u,s.heap.get? b=some u->s'.heap.get? b=some u)->s'.gens=s.gens->s'.os=s.os->s.heap.objs.size<=l->s'.heap.get? l=some (seqObj "list" out e)->StrsAre out.toList ss->ss.Perm zs->sortedS ss=true->Q (.ref l) s') :
  wpAny (model prog w) A (call (.builtin "sorted") [.ref a]) Q E s:=by
 obtain⟨o,es,ep,t,ho,hx,hd,T⟩:=S;refine Calls.call_function_entry kind_sorted plain_sorted entry_sorted (args_sorted1 _) ?_;unfold Builtin.«sorted»;refine BJ (m:=checkCount "sorted" 1 1 _)<|BP ?_;refine BJ (YC (by simp[hh]) ho hx hd T λs1 acc kp g1 o1 z1 p=>?_);have hS:=Oq (prog:=prog) (w:=w) acc λe he=>T.elts e<|p.mem_iff.mp he;have hlen:(acc.map (·.2)).length=zs.length:=by
  rw[Aa,p.length_eq,Bv,T.size]
 refine BJ (JN ?_<|by rw[hlen];exact kg<|by omega);have j4:(s1.heap.push (seqObj "list" (acc.map (·.2)).toArray 0)).get? s1.heap.objs.size=some (seqObj "list" (acc.map (·.2)).toArray 0):=Av _ rfl;have hsz:s.heap.objs.size<=s1.heap.objs.size:=Cs z1;refine BJ (CG<|DG slot_list_sort ⟨_,j4,rfl⟩ entry_list_sort (list_sort_treeK strKind_oneLt j4 hS.keysOf (λv₁ Í rest e=>keyKind_strs<|by rw[<- e];exact hS) (by rw[hlen];exact pL) λd9 a1 a2=>⟨_,rfl,?_⟩)<|args_list_sort _);obtain⟨ss,q1,q2,q3⟩:=sorted_out_str hS a1 a2;obtain⟨e,he⟩:=sortedHeap_at (out:=(arrOf d9).map (·.2)) j4;refine BP ⟨_,rfl,k _ _ _ e ss (λb u hb=>?_) g1 o1 hsz he q1 (q2.trans<|(p.map keyOf).trans T.keys) q3⟩;have mr:=kp b u hb;have bd:=Au mr;show(sortedHeap (s1.heap.push _) s1.heap.objs.size _ _).get? b=some u;rw[sortedHeap_old (Bp bd)<|by rw[size_push'];exact Bx bd];exact Ai _ mr
end
end bA
namespace L2
open PySem PySem.Spec PyProof.Rows bA
def bf(prog:Program)(w:World)(a:Addr)(zs:Ñ):HO:= .ext λh=>ay prog w h a zs
section
variable{X:Cx}{pins:Ð}{σ:St}{H:Hp}{s s':Shared}{a:Addr}{zs:Ñ}
def Inv.like(I:Inv X pins σ H s)(e1:s'.heap=s.heap)(e2:s'.gens=s.gens)(e3:s'.os=s.os):Inv X pins σ H s':=by
 obtain⟨h,g,d,t,o⟩:=s;obtain⟨h',g',d',t',o'⟩:=s';simp only at e1 e2 e3;subst e1 e2 e3;exact⟨I.ok,I.os,I.bare,I.base,I.loc,I.cell,I.free,I.cf,I.pin,I.aI,I.len⟩
def Inv.fc{o:HO}(I:Inv X pins σ H s)(k:∀ b u,s.heap.get? b=some u->s'.heap.get? b=some u)(e2:s'.gens=s.gens)(e3:s'.os=s.os)(hp:s.heap.objs.size<=a)(new:aB X.prog X.w (upd H a o) s'.heap a o):Inv X pins σ (upd H a o) s':=
 (I.laid (t':=s.toks) k hp new).like (s':=s') rfl e2 e3
def rR{h:Heap}(S:ay X.prog X.w h a zs):aB X.prog X.w H h a (bf X.prog X.w a zs):=by
 refine⟨S,?_,λh1 h2 q k=>q.keep k⟩;obtain⟨o,_,_,_,ho,_⟩:=S;exact⟨o,ho⟩
def Inv.set(I:Inv X pins σ H s)(h:H a=some (bf X.prog X.w a zs)):ay X.prog X.w s.heap a zs:=(I.aI a _ h).1
theorem Ot:∀{zs:Ñ} {us:Ó},aA (zs.map V.str) us->∀(i:Nat) v,us[i]?=some v->∃ z t,zs[i]?=some z/\v=Value.str z t
 | [],_,.nil,i,v,h=>by simp at h
 | z :: r,_,.cons q qs,0,v,h=>by
  obtain⟨t,e⟩:=q;simp at h;exact⟨z,t,rfl,h ▸ e⟩
 | z :: r,_,.cons q qs,i+1,v,h=>by
  simp only[Da]at h ⊢;exact Ot qs i v h
theorem D0:∀{zs:Ñ} {us:Ó},aA (zs.map V.str) us->StrsAre us zs
 | [],_,.nil=> .nil
 | z :: r,_,.cons q qs=>by
  obtain⟨t,rfl⟩:=q;exact .cons z t<|D0 qs
theorem D1:∀{us:Ó} {zs:Ñ},StrsAre us zs->aA (zs.map V.str) us
 | _,_,.nil=> .nil
 | _,_,.cons z t q=> .cons ⟨t,rfl⟩<|D1 q
def Ou(hc:X.calm=true):gO X (.type "set") (λxs H Q=>∃ p zs,xs=[.ref p]/\ak X.K H p (zs.map V.str)/\zs.length < 900/\∀ a,H a=none->Q (.ref a) (upd H a<|bf X.prog X.w a<|made zs)):=by
 intro pins s σ H xs us Q I r h;obtain⟨p,zs,rfl,hp,hl,q⟩:=h;obtain⟨u,rfl,ru⟩:=vals1 r;cases (show u=Value.ref p from ru);obtain⟨its,rv,pl,hz⟩:=I.list hp;have e1:=rv.length;rw[Aa]at e1;refine Yk (I.ok.hd hc) pl.isList (λi v hv=>Ot rv i v<|by simpa using hv) (by simpa using e1) (by simp;omega) λh' tk kp S=>?_;exact⟨.ref _,_,I.fc (s':={s with heap:=h',toks:=tk}) kp rfl rfl (Ao _) (rR S),rfl,q _<|I.aI.fresh<|Ao _⟩
def YK:cV X (binaryOp .BitXor) (λx y H Q=>∃ a b za zb,x = .ref a/\y = .ref b/\H a=some (bf X.prog X.w a za)/\H b=some (bf X.prog X.w b zb)/\za.length < 64/\zb.length < 64 /\
  ∀ c zc,H c=none->zc.Nodup->(∀ y,y∈zc↔(if y∈za then y∉zb else y∈zb))->Q (.ref c) (upd H c<|bf X.prog X.w c zc)):=by
 intro pins s σ H x y v u Q I rx ry h;obtain⟨a,b,za,zb,rfl,rfl,ha,hb,la,lb,q⟩:=h;cases rx;cases ry;refine Ye (I.set ha) (I.set hb) la lb λh' d zc kp S m=>?_;exact⟨.ref _,_,I.fc (s':={s with heap:=h',drawn:=d}) kp rfl rfl (Ao _) (rR S),rfl,q _ zc (I.aI.fresh<|Ao _) S.nodup m⟩
def Ov(hc:X.calm=true):gO X (.builtin "sorted") (λxs H Q=>∃ p zs,xs=[.ref p]/\H p=some (bf X.prog X.w p zs)/\zs.length < 64/\∀ l ss,H l=none->ss.Perm zs->sortedS ss=true->Q (.ref l) (upd H l<|.lst<|ss.map V.str)):=by
 intro pins s σ H xs us Q I r h;obtain⟨p,zs,rfl,hp,hl,q⟩:=h;obtain⟨u,rfl,ru⟩:=vals1 r;cases (show u=Value.ref p from ru);refine YJ (I.ok.hd hc) (I.set hp) hl λs' l out e ss kp e2 e3 rP he hS ji mv=>?_;have hlen:ss.length<=sizeLine:=by rw[ji.length_eq];exact kg<|by omega
 refine⟨.ref _,_,I.fc (s':=s') kp e2 e3 rP (show aB X.prog X.w _ s'.heap l (.lst<|ss.map V.str) from⟨by rw[Aa];exact hlen,out.toList,e,D1 hS,he⟩),rfl,q _ ss (I.aI.fresh rP) ji mv⟩
def D4:gO X (.builtin "sorted") (λxs H Q=>∃ p zs,xs=[.ref p]/\ak X.K H p (zs.map V.str)/\zs.length < 64/\∀ l ss,H l=none->ss.Perm zs->sortedS ss=true->Q (.ref l) (upd H l<|.lst<|ss.map V.str)):=by
 intro pins s σ H xs us Q I r h;obtain⟨p,zs,rfl,hp,hl,q⟩:=h;obtain⟨u,rfl,ru⟩:=vals1 r;cases (show u=Value.ref p from ru);obtain⟨its,rv,pl,hz⟩:=I.list hp;have e1:=rv.length;rw[Aa]at e1;refine PyProof.Rows.sorted_strs pl.isList (D0 rv) (by omega) λout ss hS ji mv=>?_;obtain⟨e,he⟩:=sortedAll_at s.heap its out;have hlen:ss.length<=sizeLine:=by rw[ji.length_eq];exact kg<|by omega
 refine⟨.ref _,_,I.fc (s':={s with heap:=sortedAll s.heap its out}) (λb u hb=>sortedAll_old hb) rfl rfl (Em _) (show aB X.prog X.w _ _ _ (.lst<|ss.map V.str) from⟨by rw[Aa];exact hlen,out.toList,e,D1 hS,he⟩),rfl,q _ ss (I.aI.fresh<|Em _) ji mv⟩
end
end L2
namespace L2
open PySem PySem.Spec PyProof.Rows
section
variable{X:Cx}{o e:Expr}{σ:St}{H:Hp}{Q:VK}{ap cp:Pos}
def jj (h:Ev X o σ H λx H1=>∃ l,x = .ref l/\(∃ xs,H1 l=some (.lst xs))/\Ev X e σ H1 λy H2=>∃ xs,H2 l=some (.lst xs)/\xs.length < sizeLine/\Q .non (upd H2 l<|.lst<|xs++[y]))
  (bW:attributeBase o "append" X.env (eval o X.env)=eval o X.env:=by rfl)
  (cm:((backTo cp<|starEach [e] X.env).all (λx=>!x.1) && (backToKw cp<|keywordEach [] X.env).all (λx=>x.1.isSome) && decide ([e].length+([]:List Keyword).length+(if([]:List Keyword).isEmpty then 0 else 1) < 30))=true:=by rfl)
  (hline:(ap.endLine == cp.line)=true:=by rfl) (hs:starEach [e] X.env=(false,eval e X.env) :: starEach [] X.env:=by rfl) (bM:(backTo cp<|starEach [] X.env).any (·.1)=false:=by rfl) (db:isStar e=false:=by rfl) :
  Ev X (.Call (.Attribute o "append" ap) [e] [] cp) σ H Q:=by
 refine dU (BE DK PySem.F.slot_list_append PySem.F.type_list_append MX bx (jb (es:=[e])) bW cm hline hs bM)<|h.mono λx H1 ⟨l,ex,⟨xs,hl⟩,h2⟩=>?_;subst ex;refine⟨.inl ⟨rfl,xs,ak.of hl⟩,?_⟩;exact aq (h2.mono λy H2 ⟨ys,hy,hz,q⟩=>az ⟨l,ys,y,rfl,rfl,hy,hz,q⟩) db
end
section
variable{X:Cx}{c:Expr}{body k6 rest:Õ}{D:Ends}{σ:St}{H:Hp}{pos:Pos}
def Run.nx{M M':St->Hp->Prop}{l:Õ}(h:Run X l {D with nx:=M} σ H)(f:∀ σ' H',M σ' H'->M' σ' H'):Run X l {D with nx:=M'} σ H:=
 ⟨λpins s I => aU (h.run pins s I) λfl s' q => by
  cases fl with
  | next=>
   obtain⟨σ',H',I',m⟩:=q;exact⟨σ',H',I',f σ' H' m⟩
  | _=>exact q⟩
def Ow(φ ψ:Prop)(M:St->Hp->Prop)(hc:∀ T:Bool->Hp->Prop,(∀ k:Bool,(k=true->φ)->(k=false->ψ)->T k H)->Et X c σ H T)(ht:φ->Run X body {D with nx:=M} σ H)(hu:ψ->Run X k6 {D with nx:=M} σ H)
  (hr:∀ σ' H',M σ' H'->Run X rest D σ' H'):Run X (.If c body k6 pos :: rest) D σ H:=
 Nm φ ψ hc (λp=>(ht p).nx hr) (λp=>(hu p).nx hr)
end
def nJ(X:Cx)(H:Hp)(k:Nat)(x y:V)(b:Bool):Prop:=∀(pins:Ð) (σ:St) (s:Shared) (A:Around) (u v:Value),Inv X pins σ H s->A.units+k < cLine->RelV x u->RelV y v->SeqAt.EqAt A s u v b
def uE(X:Cx)(H:Hp)(k:Nat)(x y:V)(b:Bool):Prop:=∀(pins:Ð) (σ:St) (s:Shared) (A:Around) (u v:Value),Inv X pins σ H s->A.units+k < cLine->RelV x u->RelV y v->SeqAt.RcAt A s u v b
def pM(X:Cx)(H:Hp)(k:Nat)(x y:V)(b:Bool):Prop:=∀(pins:Ð) (σ:St) (s:Shared) (A:Around) (u v:Value),Inv X pins σ H s->A.units+k < cLine->RelV x u->RelV y v->SeqAt.RcNeAt A s u v (!b)
section
variable{X:Cx}{H:Hp}{k:Nat}{a b:Addr}{xs ys:List V}
def uF{x y:V}(fx:j5 x=true)(fy:j5 y=true):nJ X H k x y (cK x y):=λ_ _ _ _ _ _ _ _ rx ry=>MR rx ry fx fy
def nK{us:Ó}(r:aA xs us){j:Nat}(h:j < us.length):∃ x,xs[j]?=some x/\RelV x us[j]:=by
 have hl:=r.length;have hj:j < xs.length:=by omega
 obtain⟨u,e,q⟩:=r.get<|Ab hj;rw[Ab h]at e;cases e;exact⟨_,Ab hj,q⟩
def q99(e:Nat->Bool)(ha:ak X.K H a xs)(hb:ak X.K H b ys)(hl:xs.length=ys.length)(he:∀ j x y,xs[j]?=some x->ys[j]?=some y->nJ X H k x y (e j)):uE X H (k+1) (.ref a) (.ref b) ((List.range xs.length).all e):=λpins σ s A u v I hu rx ry=>by
 cases rx;cases ry;obtain⟨i1,r1,p1,_⟩:=I.list ha;obtain⟨i2,r2,p2,_⟩:=I.list hb;have l1:=r1.length;have l2:=r2.length;have q:=SeqAt.RcAt.lists (A:=A) (e:=e) p1.isList p2.isList (by simp;omega) (by omega) λj h1 h2=>by
  obtain⟨x,ex,qx⟩:=nK r1 (j:=j) (by simpa using h1);obtain⟨y,ey,qy⟩:=nK r2 (j:=j) (by simpa using h2);exact he j x y ex ey pins σ s A.in1 _ _ I (by show A.units+1+k < cLine;omega) (by simpa using qx)<|by simpa using qy
 rw[Ay,<- l1]at q;exact q
def rS(e:Nat->Bool)(ha:ak X.K H a xs)(hb:ak X.K H b ys)(hl:xs.length=ys.length)(he:∀ j x y,xs[j]?=some x->ys[j]?=some y->nJ X H k x y (e j)):pM X H (k+1) (.ref a) (.ref b) ((List.range xs.length).all e):=λpins σ s A u v I hu rx ry=>by
 cases rx;cases ry;obtain⟨i1,r1,p1,_⟩:=I.list ha;obtain⟨i2,r2,p2,_⟩:=I.list hb;have l1:=r1.length;have l2:=r2.length;have q:=SeqAt.RcNeAt.lists (A:=A) (e:=e) p1.isList p2.isList (by simp;omega) (by omega) λj h1 h2=>by
  obtain⟨x,ex,qx⟩:=nK r1 (j:=j) (by simpa using h1);obtain⟨y,ey,qy⟩:=nK r2 (j:=j) (by simpa using h2);exact he j x y ex ey pins σ s A.in1 _ _ I (by show A.units+1+k < cLine;omega) (by simpa using qx)<|by simpa using qy
 rw[Ay,<- l1]at q;exact q
def x0a(ha:ak X.K H a xs)(hb:ak X.K H b ys)(hl:xs.length≠ys.length):uE X H k (.ref a) (.ref b) false:=λpins σ s A u v I hu rx ry=>by
 cases rx;cases ry;obtain⟨i1,r1,p1,_⟩:=I.list ha;obtain⟨i2,r2,p2,_⟩:=I.list hb;have l1:=r1.length;have l2:=r2.length;exact SeqAt.RcAt.lists_lengths p1.isList p2.isList (by simp;omega)<|by omega
def uG(ha:ak X.K H a xs)(hb:ak X.K H b ys)(hl:xs.length≠ys.length):pM X H k (.ref a) (.ref b) false:=λpins σ s A u v I hu rx ry=>by
 cases rx;cases ry;obtain⟨i1,r1,p1,_⟩:=I.list ha;obtain⟨i2,r2,p2,_⟩:=I.list hb;have l1:=r1.length;have l2:=r2.length;exact SeqAt.RcNeAt.lists_lengths p1.isList p2.isList (by simp;omega)<|by omega
def YL(e:Nat->Bool)(ha:aP X.K H a xs)(hb:aP X.K H b ys)(hl:xs.length=ys.length)(he:∀ j x y,xs[j]?=some x->ys[j]?=some y->nJ X H k x y (e j)):uE X H (k+1) (.ref a) (.ref b) ((List.range xs.length).all e):=λpins σ s A u v I hu rx ry=>by
 cases rx;cases ry;obtain⟨i1,r1,p1,_⟩:=I.tuple ha;obtain⟨i2,r2,p2,_⟩:=I.tuple hb;have l1:=r1.length;have l2:=r2.length;have q:=SeqAt.RcAt.tuples (A:=A) (e:=e) p1 p2 (by omega) λj h1 h2=>by
  obtain⟨x,ex,qx⟩:=nK r1 (j:=j) (by simpa using h1);obtain⟨y,ey,qy⟩:=nK r2 (j:=j) (by simpa using h2);exact he j x y ex ey pins σ s A.in1 _ _ I (by show A.units+1+k < cLine;omega) (by simpa using qx)<|by simpa using qy
 rw[Ay,Ay,<- l1,<- l2,hl,Nat.min_self,<- hl]at q
 simpa using q
def YM(n:Nat):(List.range n).all (λ_=>true)=true:=by simp
def YN(hu:X.A.units+100 < cLine):cV X (compareOp .Eq) (λx y H Q=>∃ k c,k<=100/\uE X H k x y c/\Q (.bl c) H):=by
 intro pins s σ H x y v u Q I rx ry h;obtain⟨k,c,hk,hc,q⟩:=h;exact hc pins σ s X.A v u I (by omega) rx ry X.prog X.w X.xe _ ⟨.bl c,H,I,rfl,q⟩
def nO(hu:X.A.units+100 < cLine):cV X (compareOp .NotEq) (λx y H Q=>∃ k c,k<=100/\pM X H k x y c/\Q (.bl (!c)) H):=by
 intro pins s σ H x y v u Q I rx ry h;obtain⟨k,c,hk,hc,q⟩:=h;exact hc pins σ s X.A v u I (by omega) rx ry X.prog X.w X.xe _ ⟨.bl (!c),H,I,rfl,q⟩
def Ox(e:Nat->Bool)(ha:aP X.K H a xs)(hb:aP X.K H b ys)(hl:xs.length=ys.length)(he:∀ j x y,xs[j]?=some x->ys[j]?=some y->nJ X H k x y (e j)):pM X H (k+1) (.ref a) (.ref b) ((List.range xs.length).all e):=λpins σ s A u v I hu rx ry=>by
 cases rx;cases ry;obtain⟨i1,r1,p1,_⟩:=I.tuple ha;obtain⟨i2,r2,p2,_⟩:=I.tuple hb;have l1:=r1.length;have l2:=r2.length;have q:=SeqAt.RcNeAt.tuples (A:=A) (e:=e) p1 p2 (by omega) λj h1 h2=>by
  obtain⟨x,ex,qx⟩:=nK r1 (j:=j) (by simpa using h1);obtain⟨y,ey,qy⟩:=nK r2 (j:=j) (by simpa using h2);exact he j x y ex ey pins σ s A.in1 _ _ I (by show A.units+1+k < cLine;omega) (by simpa using qx)<|by simpa using qy
 rw[Ay,Ay,<- l1,<- l2,hl,Nat.min_self,<- hl]at q
 simpa using q
end
section
variable{X:Cx}{o e f c:Expr}{σ:St}{H:Hp}{Q:VK}{T:Bool->Hp->Prop}{ap cp pos:Pos}{body rest:Õ}{D:Ends}
def rT{name:Str}{Ty id:String}{r:V->List V->Hp->VK->Prop}(pa:PlainAttrs Ty)(slot:Slot Ty name id)(pc:typeOf (.builtin id)=pure (.type "method_descriptor"))(hm:A7 X id r)
  (h:Ev X o σ H λx H1=>o9 X.K Ty x H1/\Ev X e σ H1 λy H2=>r x [y] H2 Q) (bW:attributeBase o name X.env (eval o X.env)=eval o X.env:=by rfl)
  (cm:((backTo cp<|starEach [e] X.env).all (λx=>!x.1) && (backToKw cp<|keywordEach [] X.env).all (λx=>x.1.isSome) && decide ([e].length+([]:List Keyword).length+(if([]:List Keyword).isEmpty then 0 else 1) < 30))=true:=by rfl)
  (hline:(ap.endLine == cp.line)=true:=by rfl) (hs:starEach [e] X.env=(false,eval e X.env) :: starEach [] X.env:=by rfl) (bM:(backTo cp<|starEach [] X.env).any (·.1)=false:=by rfl) (db:isStar e=false:=by rfl):Ev X (.Call (.Attribute o name ap) [e] [] cp) σ H Q:=
 dU (BE pa slot pc hm bx (jb (es:=[e])) bW cm hline hs bM) (h.mono λx H1 ⟨t,h2⟩=>⟨t,aq (h2.mono λy H2 q=>az q) db⟩)
def D5{name:Str}{Ty id:String}{r:V->List V->Hp->VK->Prop}(pa:PlainAttrs Ty)(slot:Slot Ty name id)(pc:typeOf (.builtin id)=pure (.type "method_descriptor"))(hm:A7 X id r)
  (h:Ev X o σ H λx H1=>o9 X.K Ty x H1/\Ev X e σ H1 λy H2=>Ev X f σ H2 λz H3=>r x [y,z] H3 Q) (bW:attributeBase o name X.env (eval o X.env)=eval o X.env:=by rfl)
  (cm:((backTo cp<|starEach [e,f] X.env).all (λx=>!x.1) && (backToKw cp<|keywordEach [] X.env).all (λx=>x.1.isSome) && decide ([e,f].length+([]:List Keyword).length+(if([]:List Keyword).isEmpty then 0 else 1) < 30))=true:=by rfl)
  (hline:(ap.endLine == cp.line)=true:=by rfl) (hs:starEach [e,f] X.env=(false,eval e X.env) :: starEach [f] X.env:=by rfl) (bM:(backTo cp<|starEach [f] X.env).any (·.1)=false:=by rfl) (db:isStar e=false:=by rfl) (YQ:isStar f=false:=by rfl):Ev X (.Call (.Attribute o name ap) [e,f] [] cp) σ H Q:=
 dU (BE pa slot pc hm bx (jb (es:=[e,f])) bW cm hline hs bM) (h.mono λx H1 ⟨t,h2⟩=>⟨t,aq (h2.mono λy H2 h3=>aq (h3.mono λz H3 q=>az q) YQ) db⟩)
def insertAt(xs:List V)(i:Nat)(y:V):List V:=xs.take i++y :: xs.drop i
def YR:V->List V->Hp->VK->Prop:=λx vs H Q=>∃ l xs i y,x = .ref l/\vs=[.int i,y]/\H l=some (.lst xs)/\0<=i/\i.toNat<=xs.length/\xs.length < sizeLine/\Q .non (upd H l<|.lst<|insertAt xs i.toNat y)
def YS{i:Int}(h0:0<=i)(h:i<=16777216):¬(!Builtin.List.listFitsIndex i)=true:=by
 have e:Builtin.List.listFitsIndex i=true:=by
  unfold Builtin.List.listFitsIndex;rw[By,DQ,DQ];omega
 rw[e];exact Ax
def Oy:pf X "list.insert" YR:=by
 intro pins s σ H x vs v us Q I rx rv h;obtain⟨l,xs,i,y,rfl,rfl,hH,h0,hi,hz,q⟩:=h;cases rx;obtain⟨u,w',rfl,ru,e9⟩:=rv.two;obtain⟨tk,rfl⟩:=ru;obtain⟨z,its,n,r,hl,e⟩:=I.g9 hH;have hs:sizeLine=16777216:=DW;have z2:its.toArray.size<=sizeLine:=by rw[Ay,<- hl];exact z
 have mm:=AutoSeq1.list_insert_list_int_val_1 l its.toArray n i tk w' (YS h0<|by omega) z2;refine MN F.slot_list_insert ⟨_,e,rfl⟩ F.entry_list_insert (F.args_list_insert_3 _ _ _) mm ⟨e,?_⟩;have ef:(λxs:Array Value=>have k:=if i < 0 then(i+(xs.size:Int)).toNat else min i.toNat xs.size;(xs.extract 0 k).push w'++xs.extract k) its.toArray=(its.take i.toNat++w' :: its.drop i.toNat).toArray:=by
  have hn:¬ i < 0:=by omega
  have hm:min i.toNat its.length=i.toNat:=by omega
  simp only[hn,CT,Ay,hm];apply Array.ext';simp;exact Bz<|by simp
 refine⟨.non,_,I.lS (its':=its.take i.toNat++w' :: its.drop i.toNat) hH e ef ((r.take i.toNat).append<|.cons e9<|r.drop i.toNat) ?_,rfl,q⟩;rw[Ad,Ar,Bg,Cj];omega
def YT:V->List V->Hp->VK->Prop:=λx vs H Q=>∃ a kvs k y,x = .ref a/\vs=[kV k,y]/\H a=some (.dK kvs)/\kvs.length < sizeLine /\
 ((∃ v,aJ kvs k=some v/\Q v H)\/(aJ kvs k=none/\Q y (upd H a<|.dK<|putK kvs k y)))
def YV:pf X "dict.setdefault" YT:=by
 intro pins s σ H x vs v us Q I rx rv h;obtain⟨a,kvs,k,y,rfl,rfl,hH,hz,q⟩:=h;cases rx;obtain⟨u,w',rfl,ru,e9⟩:=rv.two;obtain⟨z,hd,rs,rel,dd⟩:=BU I.aI hH;have hl:=rel.length;refine call_meetsIn F.slot_dict_setdefault dd.typeIs F.entry_dict_setdefault (F.args_dict_setdefault_3 _ _ _) (kt_meets_setdefault (dz X.prog X.w) a (ph ru) hd w') ⟨rs,dd,by omega,λv hv=>?_,λhn h' jJ hs=>?_⟩
 ·have gS:=rel.val k;rw[hv]at gS
  rcases q with ⟨v',e',q⟩ | ⟨e',_⟩
  ·rw[e']at gS;exact⟨v',H,I.tok _,gS,q⟩
  ·rw[e']at gS;exact gS.elim
 ·have gS:=rel.val k;rw[hn]at gS
  rcases q with ⟨v',e',_⟩ | ⟨e',q⟩
  ·rw[e']at gS;exact gS.elim
  ·have he:∃ q,h'.get? a=some q:=let ⟨q,_,_,hq,_⟩:=jJ;⟨q,hq⟩
   have j7:(putK kvs k y).length<=sizeLine:=by have:=iE kvs k y;omega
   exact⟨y,_,nj I (by rw[hH];exact True.intro) hs he<|B0 j7 hd (rel.put k e9) jJ,e9,q⟩
def Oz:gO X (.type "int") (λxs H Q=>∃ b:Bool,xs=[.bl b]/\Q (.int (if b then 1 else 0)) H):=by
 intro pins s σ H xs us Q I r h;obtain⟨b,rfl,q⟩:=h;obtain⟨u,rfl,ru⟩:=vals1 r;cases (show u=Value.bool b from ru);exact call_int_bool ⟨.int (if b then 1 else 0),H,I.tok _,⟨_,rfl⟩,q⟩
def rV{k6:Õ}(Φ:Bool->Hp->Prop)(M:St->Hp->Prop)(hc:Et X c σ H Φ)(ht:∀ H1,Φ true H1->Run X body {D with nx:=M} σ H1)(hu:∀ H1,Φ false H1->Run X k6 {D with nx:=M} σ H1)
  (hr:∀ σ' H',M σ' H'->Run X rest D σ' H'):Run X (.If c body k6 pos :: rest) D σ H:=
 hV (hc.mono λk H1 p=>by
  cases k with
  | true=>rw[BL rfl];exact(ht H1 p).nx hr
  | false=>rw[BK Ax];exact(hu H1 p).nx hr)
theorem xV(W:Nat->St->Hp->Prop){m0:Nat}(h0:W m0 σ H)
  (turn:∀ m σ H,W m σ H->Et X c σ H λb H1=>if b=true then Run X body {D with nx:=λσ' H'=>∃ m',m' < m/\W m' σ' H',ct:=λσ' H'=>∃ m',m' < m/\W m' σ' H',bk:=λσ' H'=>Run X rest D σ' H'} σ H1 else Run X rest D σ H1)
  (hp:PassesOwn (model X.prog X.w) X.A X.env X.xe:=by exact MP):Run X (.While c body [] pos :: rest) D σ H:=by
 refine lX (Vz hp lW px) ⟨W,⟨m0,h0⟩,λm σ1 H1 w1=>(turn m σ1 H1 w1).mono λb H2 q=>?_⟩;cases b with
 | true=>
  rw[BL rfl]at q;exact⟨λσ' H'=>∃ m',m' < m/\W m' σ' H',λ_ _ h=>h,q⟩
 | false=>
  rw[BK Ax]at q;exact q
def D6(h:∀ p,H p=none->Q (.ref p) (upd H p<|.dK [])):Ev X (.Dict [] [] pos) σ H Q:=dU WY h
def YW(h:∀ p,H p=none->Q (.ref p) (upd H p<|.dT [])):Ev X (.Dict [] [] pos) σ H Q:=dU WZ h
def jm(hu:X.A.units+1 < cLine)(h:Ev X o σ H λx H1=>Ev X e σ H1 λy H2=>∃ a v,x = .ref a/\bE H2 a y (some v)/\Q v H2)(hs:pj e:=by intro _ _;rfl):Ev X (.Subscript o e pos) σ H Q:=dU (WR hu bx bx hs) h
def OA(hu:X.A.units+1 < cLine)(h:Ev X e σ H λy H1=>Ev X o σ H1 λx H2=>∃ a r,x = .ref a/\bE H2 a y r/\T r.isSome H2)(hm:behindInMarks .In o=false:=by with_unfolding_all rfl):Et X (.Compare e [.In] [o] pos) σ H T:=
 um (Ve (WT hu bx bx) hm) (h.mono λy H1 h2=>h2.mono λx H2 ⟨a,r,h3,h4,h5⟩=>⟨a,r,h3,h4,_,rfl,h5⟩)
def xW{p2:Pos}(hu:X.A.units+1 < cLine)(h:Ev X f σ H λv H1=>Ev X o σ H1 λx H2=>Ev X e σ H2 λy H3=>∃ a H4,x = .ref a/\cw H3 a y v H4/\Run X rest D σ H4)(hs:swapsWith f (some<|.Subscript o e p2) pos.line X.env=pure false:=by rfl) :
  Run X (.Assign [.Subscript o e p2] f pos :: rest) D σ H:=lX (WU hu bx bx bx hs) h
end
end L2
namespace bw
open PySem PySem.Spec PyProof.Rows
def lexLt(a b:Int×Int):Bool:=if a.1=b.1 then decide (a.2 < b.2)else decide (a.1 < b.1)
def YX(b:Bool)(x y:Value):keyLt' (tuples' b) x y=(do
  let xs <- Builtin.List.listItems x
  let ys <- Builtin.List.listItems y
  for ((p,q),i) in (xs.toList.zip ys.toList).zipIdx do
   if !(<- eqBool p q)then return <- oneLt' (b && i == 0) p q
  return xs.size < ys.size):=rfl
section
variable{prog:Program}{w:World}{A:Around}{E:Î}{s:Shared}
def Pr(h:Heap)(a:Addr)(p:Int×Int):Prop:=∃ o n t u,h.get? a=some o/\o.cls = .type "tuple"/\o.data = .seq #[.int p.1 t,.int p.2 u] n
def OB{a b:Int}{t u:Tok}{Q:Bool->Shared->Prop}(h:Q (decide (a=b)) s):wpAny (model prog w) A (eqBool (.int a t)<|.int b u) Q E s:=by
 refine SeqAt.EqAt.int_int a t b u prog w E Q ?_;have e:(a == b)=decide (a=b):=rfl;rw[e];exact h
def YY{a b:Int}{t u:Tok}{Q:Bool->Shared->Prop}(h:Q (decide (a < b)) s):wpAny (model prog w) A (oneLt' false (.int a t)<|.int b u) Q E s:=by
 rw[oneLt'_eq];simp only[Bb,CT];refine BJ ?_;show wpAny _ _ (compareOp .Lt (.int a t)<|.int b u) _ _ _;exact lt_int<|GQ h
def YZ{x y:Addr}{p q:Int×Int}{Q:Bool->Shared->Prop}(hx:Pr s.heap x p)(hy:Pr s.heap y q)(h:Q (lexLt p q) s):wpAny (model prog w) A (keyLt' (tuples' true) (.ref x)<|.ref y) Q E s:=by
 obtain⟨ox,nx,tx,ux,xX,cx,dx⟩:=hx;obtain⟨oy,ny,ty,uy,Y0,cy,dy⟩:=hy;rw[YX];refine BJ<|NQ xX dx ?_;refine BJ<|NQ Y0 dy ?_;show wpAny _ _ (forIn [((Value.int p.1 tx,Value.int q.1 ty),0),((Value.int p.2 ux,Value.int q.2 uy),1)] _ _ >>= _) _ _ _;rw[RV];refine BJ<|BJ ?_
 dsimp only
 refine BJ<|OB ?_
 by_cases c:p.1=q.1
 ·rw[BW c];simp only[Ec,Bb,CT];refine BP ?_
  dsimp only
  rw[RV];refine BJ ?_
  dsimp only
  refine BJ<|OB ?_
  by_cases c2:p.2=q.2
  ·rw[BW c2];simp only[Ec,Bb,CT];refine BP ?_
   dsimp only
   rw[List.forIn_nil];refine BP<|BP ?_;have e:lexLt p q=false:=by unfold lexLt;rw[BL c,c2];simp
   rw[e]at h
   simpa using h
  ·rw[BR c2];simp only[TQ,DP];refine BJ<|YY<|BP ?_
   dsimp only
   refine BP<|BP ?_;have e:lexLt p q=decide (p.2 < q.2):=by unfold lexLt;rw[BL c]
   rw[e]at h;exact h
 ·rw[BR c];simp only[TQ,DP];refine BJ<|oneLt_int<|BP ?_
  dsimp only
  refine BP<|BP ?_;have e:lexLt p q=decide (p.1 < q.1):=by unfold lexLt;rw[BK c]
  rw[e]at h;exact h
def Y1{x y:Value}:(#[x,y]:Array Value).size<=sizeLine+1:=by
 rw[DW];show 2<=_;decide
def Y2(v:Value):firstOfTuple' v=(do
  if(<- typeOf v) != .type "tuple" then return none
  return (<- Builtin.List.listItems v)[0]?):=rfl
def OC{x:Addr}{p:Int×Int}{Q:Option Value->Shared->Prop}(hx:Pr s.heap x p)(h:∀ t,Q (some<|.int p.1 t) s):wpAny (model prog w) A (firstOfTuple'<|.ref x) Q E s:=by
 obtain⟨ox,nx,tx,ux,xX,cx,dx⟩:=hx;rw[Y2];refine BJ<|JW (T:= "tuple") ⟨ox,xX,cx⟩ ?_;rw[show(Value.type "tuple" != Value.type "tuple")=false by decide];simp only[Bb,CT];refine BJ<|NQ xX dx ?_;exact BP<|h tx
def Y3{x y:Addr}{p q:Int×Int}{Q:SortKind->Shared->Prop}(hx:Pr s.heap x p)(hy:Pr s.heap y q)(h:Q (tuples' true) s):wpAny (model prog w) A (keyKind' #[.ref x,.ref y]) Q E s:=by
 rw[keyKind'_eq,show(#[.ref x,.ref y]:Array Value)=[.ref x,.ref y].toArray from rfl,List.mapM_toArray];refine BJ<|wpAny_map ?_;rw[List.mapM_cons];refine BJ<|OC hx λt=>?_;rw[List.mapM_cons];refine BJ<|BJ<|OC hy λu=>?_;rw[List.mapM_nil];refine BJ<|BP<|BP<|BP ?_;rw[BL<|by simp];refine BJ<|HN ?_;rw[oneTypeOnly'_eq];show wpAny _ _ ((Array.mapM typeOf [Value.int p.1 t,Value.int q.1 u].toArray >>= _) >>= _) _ _ _;rw[List.mapM_toArray];have e1:[Value.int p.1 t,Value.int q.1 u].mapM typeOf=(pure [Value.type "int",Value.type "int"]:Sem _):=rfl;rw[e1];refine BP ?_;have e2:(if((#[Value.type "int",Value.type "int"]:Array Value).all λx=>x == (#[Value.type "int",Value.type "int"]:Array Value)[0])=true then some (#[Value.type "int",Value.type "int"]:Array Value)[0]else none)=some (Value.type "int"):=by
  rw[BL]
  ·rfl
  ·simp
 show Q (tuples'<|Option.any (λx=>x != Value.type "tuple") _) s;rw[e2];exact h
def wp_at{st:SortSt}{x y:Addr}{p q:Int×Int}{i j:Nat}{Q:Option Bool->SortSt->Prop}(hk:kindOf st=tuples' true)(hi:(arrOf st)[i]?=some (.ref x,.ref x))(hj:(arrOf st)[j]?=some (.ref y,.ref y))(hx:Pr s.heap x p)(hy:Pr s.heap y q)(h:Q (some<|lexLt p q) st) :
  wpS (model prog w) A E s (ltAt' i j) Q st:=by
 rw[ltAt'_eq];refine FP<|wpS_get ?_;show wpS _ _ _ _ (elem' (arrOf st) i >>= λa=>elem' (arrOf st) j >>= λb=>lt' a b) Q st;rw[elem'_eq,elem'_eq,hi,hj];refine FP<|JD<|FP<|JD ?_;rw[lt'_eq];refine FP<|wpS_get ?_;rw[hk];refine FP<|wpS_lift<|KY<|YZ hx hy ⟨rfl,?_⟩;exact JD h
def lj(x y:Addr)(p q:Int×Int):Array Keyed:=if lexLt q p then #[(.ref y,.ref y),(.ref x,.ref x)]else #[(.ref x,.ref x),(.ref y,.ref y)]
def Y4{x y:Addr}{p q:Int×Int}{Q:Option Nat->SortSt->Prop}(hx:Pr s.heap x p)(hy:Pr s.heap y q)
  (h:Q (some 2)<|SortSt.mk' (tuples' true) (lj x y p q) #[] 7 none):wpS (model prog w) A E s (countRun' 0 2) Q (SortSt.mk' (tuples' true) #[(.ref x,.ref x),(.ref y,.ref y)] #[] 7 none):=by
 rw[countRun0_eq];refine FP ?_;unfold ascLoop;refine wpS_mono (NZ (I:=λi c st=>st=SortSt.mk' (tuples' true) #[(.ref x,.ref x),(.ref y,.ref y)] #[] 7 none/\c=(none,i)/\(i=2->lexLt q p=false))
  (Q:=λc st=>st=SortSt.mk' (tuples' true) #[(.ref x,.ref x),(.ref y,.ref y)] #[] 7 none/\((c=(none,1)/\lexLt q p=true)\/(c=(none,2)/\lexLt q p=false))) ?_ ?_ ⟨rfl,rfl,λh=>by cases h⟩) ?_
 ·rintro i c st h1 h2 ⟨rfl,rfl,hI⟩;have e:i=1:=by omega
  subst e;refine FP<|wp_at rfl rfl rfl hy hx ?_
  dsimp only
  cases hb:lexLt q p with
  | true=>
   rw[BL rfl];exact JD ⟨rfl,.inl ⟨rfl,rfl⟩⟩
  | false=>
   rw[BK Ax];exact JD ⟨rfl,rfl,λ_=>rfl⟩
 ·rintro c st ⟨rfl,rfl,hI⟩;exact⟨rfl,.inr ⟨rfl,hI rfl⟩⟩
 ·rintro c st ⟨rfl,⟨rfl,hb⟩ | ⟨rfl,hb⟩⟩
  ·dsimp only
   rw[BK (by decide),BK<|by decide];unfold descPart;refine FP<|wpS_lift<|HN ⟨rfl,?_⟩;unfold descLoop;refine FP (wpS_mono (NZ (I:=λi c st=>c=(none,2,0)/\st=SortSt.mk' (tuples' true) #[(.ref x,.ref x),(.ref y,.ref y)] #[] 7 none) (Q:=λc st=>c=(none,2,0)/\st=SortSt.mk' (tuples' true) #[(.ref x,.ref x),(.ref y,.ref y)] #[] 7 none) (λi c st h1 h2 _=>by omega) (λc st h=>h) ⟨rfl,rfl⟩) ?_);rintro c st ⟨rfl,rfl⟩
   dsimp only
   rw[BK<|by decide];unfold tail3;refine FP<|wpS_reverse ?_;unfold ascLoop;refine FP (wpS_mono (NZ (I:=λi c st=>c=(none,2)/\st=SortSt.mk' (tuples' true) #[(.ref y,.ref y),(.ref x,.ref x)] #[] 7 none) (Q:=λc st=>c=(none,2)/\st=SortSt.mk' (tuples' true) #[(.ref y,.ref y),(.ref x,.ref x)] #[] 7 none) (λi c st h1 h2 _=>by omega) (λc st h=>h) ⟨rfl,rfl⟩) ?_);rintro c st ⟨rfl,rfl⟩
   dsimp only
   refine JD ?_;unfold lj at h;rw[BL hb]at h;exact h
  ·dsimp only
   rw[BL<|by decide];refine JD ?_;unfold lj at h;rw[BK<|by rw[hb];exact Ax]at h;exact h
def Y5{x y:Addr}{p q:Int×Int}{Q:Unit->SortSt->Prop}(hx:Pr s.heap x p)(hy:Pr s.heap y q)(h:∀ st,arrOf st=lj x y p q->failedOf st=none->Q () st) :
  wpS (model prog w) A E s sortRuns' Q (SortSt.mk' (tuples' true) #[(.ref x,.ref x),(.ref y,.ref y)] #[] 7 none):=by
 rw[sortRuns'_eq];refine FP<|wpS_get ?_
 dsimp only
 have Y6:minRun' 2 2 0=2:=by rw[minRun'_succ,BL<|by decide]
 show wpS _ _ _ _ ((forIn [0:2] _ _) >>= _) _ _;have sz:(#[(Value.ref x,Value.ref x),(Value.ref y,Value.ref y)]:Array Keyed).size=2:=rfl;refine FP<|wpS_mono (NZ (I:=λi c st=>(i=0/\c=(none,0)/\st=SortSt.mk' (tuples' true) #[(.ref x,.ref x),(.ref y,.ref y)] #[] 7 none)\/(1<=i/\c=(none,2)/\st=SortSt.mk' (tuples' true) (lj x y p q) #[(0,2,0)] 7 none))
  (Q:=λc st=>c=(none,2)/\st=SortSt.mk' (tuples' true) (lj x y p q) #[(0,2,0)] 7 none) ?_ ?_ (.inl ⟨rfl,rfl,rfl⟩)) ?_
 ·rintro i c st h1 h2 (⟨rfl,rfl,rfl⟩ | ⟨hi,rfl,rfl⟩)
  ·dsimp only
   rw[BK<|by show ¬(0>=2);decide];refine FP ?_;show wpS _ _ _ _ (countRun' 0 2) _ _;refine Y4 hx hy ?_
   dsimp only
   rw[BK<|by show ¬(2 < minRun' 2 2 0);rw[Y6];decide];refine FP<|wpS_get ?_;show wpS _ _ _ _ (modify _ >>= _) _ _;exact FP<|wpS_modify<|JD<|.inr ⟨Ao _,rfl,rfl⟩
  ·dsimp only
   rw[BL<|by show 2>=2;decide];exact JD ⟨rfl,rfl⟩
 ·rintro c st (⟨h1,_,_⟩ | ⟨_,hc,hs⟩)
  ·exact absurd h1<|by decide
  ·exact⟨hc,hs⟩
 ·rintro c st ⟨rfl,rfl⟩
  dsimp only
  refine FP<|wpS_mono (NZ (I:=λ_ c st=>st=SortSt.mk' (tuples' true) (lj x y p q) #[(0,2,0)] 7 none/\c=(none,())) (Q:=λc st=>st=SortSt.mk' (tuples' true) (lj x y p q) #[(0,2,0)] 7 none/\c=(none,())) ?_ (λ_ _ hh=>hh) ⟨rfl,rfl⟩) ?_
  ·rintro i c st _ _ ⟨rfl,rfl⟩;refine FP<|wpS_get ?_;rw[BL<|by show 1<=1;decide];exact JD ⟨rfl,rfl⟩
  ·rintro c st ⟨rfl,rfl⟩;exact JD<|h _ rfl rfl
def Y7{a x y:Addr}{p q:Int×Int}{n:Nat}{P:Fin->Shared->Prop}(ho:s.heap.get? a=some (seqObj "list" #[.ref x,.ref y] n))(Y8:a≠x)(Y9:a≠y)(hx:Pr s.heap x p)(hy:Pr s.heap y q)
  (h:P (.done<|.ret .none) {s with heap:=sortedHeap s.heap a [.ref x,.ref y] (if lexLt p q then #[.ref y,.ref x]else #[.ref x,.ref y])}) :
  wpAny (model prog w) A (Builtin.«list.sort» ⟨[.ref a],[(Str.ofString "reverse",.bool true)]⟩) P E s:=by
 rw[list_sort_rev];have ha:a < s.heap.objs.size:=Au ho;refine BJ<|NQ ho rfl ?_;refine BJ<|KZ ho rfl ?_;obtain⟨e1,mj⟩:∃ e1,(s.heap.update a<|Obj.mapSeq λ_=>#[]).get? a=some (seqObj "list" #[] e1):=⟨_,get?_update_seq ho λ_=>#[]⟩;refine BJ<|PN mj rfl ?_;refine BJ<|PK ?_;refine BJ<|JN ?_;refine CG ?_;have pN:(((s.heap.update a<|Obj.mapSeq λ_=>#[]).push<|seqObj "tuple" [Value.ref x,Value.ref y].toArray 0).push<|seqObj "list" #[] 0).get? a=some (seqObj "list" #[] e1):=
  Ai _ (Ai _ mj)
 show wpAny (model prog w) A _ P E {s with heap:=((s.heap.update a<|Obj.mapSeq λ_=>#[]).push<|seqObj "tuple" [Value.ref x,Value.ref y].toArray 0).push (seqObj "list" #[] 0)};have keep:∀ z r,a≠z->Pr s.heap z r->Pr (((s.heap.update a<|Obj.mapSeq λ_=>#[]).push<|seqObj "tuple" [Value.ref x,Value.ref y].toArray 0).push<|seqObj "list" #[] 0) z r:=by
  rintro z r hz ⟨o,m,t,u,q1,q2⟩;exact⟨o,m,t,u,Ai _<|Ai _<|(Cg _ _ hz).trans q1,q2⟩
 have kx:=keep x p Y8 hx;have ky:=keep y q Y9 hy
 dsimp only
 rw[BL rfl];refine BJ<|HN ?_;rw[BK<|by show ¬(2 < 2);decide];refine BJ<|Y3 kx ky ?_;rw[BK<|by show ¬(2 < 2);decide];have e2:(if true=true then((#[Value.ref x,Value.ref y]:Array Value).zip #[Value.ref x,Value.ref y]).reverse else(#[Value.ref x,Value.ref y]:Array Value).zip #[Value.ref x,Value.ref y])=#[(Value.ref y,Value.ref y),(Value.ref x,Value.ref x)]:=by
  rw[BL rfl];simp
 rw[e2];refine BJ<|CV (Y5 (Q:=λ_ st=>arrOf st=lj y x q p/\failedOf st=none) ky kx λst h1 h2=>⟨h1,h2⟩) ?_ λ_ _ e=>e;rintro ⟨⟨⟩,d9⟩ s' ⟨rfl,hs,hf⟩
 dsimp only
 have e3:(if true=true then((arrOf d9).map (·.2)).reverse else(arrOf d9).map (·.2))=(if lexLt p q then #[.ref y,.ref x]else #[.ref x,.ref y]):=by
  rw[BL rfl,hs];unfold lj
  split <;> simp
 refine BJ<|PN pN rfl ?_;refine BJ (KZ pN rfl ?_ (hsz2:=by rw[e3];split <;> exact Y1));rw[hf];simp only[FT,Bb,CT];refine BP ?_;have e4:(λ_:Array Value=>if True then((arrOf d9).map (·.2)).reverse else(arrOf d9).map (·.2))=λ_=>(if lexLt p q then #[.ref y,.ref x]else #[.ref x,.ref y]):=by
  funext _
  rw[BL trivial];rw[BL rfl]at e3;exact e3
 rw[e4];exact h
def Y'{l x y:Addr}{p q:Int×Int}{Q:Î}(hl:s.heap.IsList l #[.ref x,.ref y])(hx:Pr s.heap x p)(hy:Pr s.heap y q)
  (h:∀(h':Heap) (e:Nat),(∀ b u,s.heap.get? b=some u->h'.get? b=some u)->h'.get? (s.heap.objs.size+1)=some (seqObj "list" (if lexLt p q then #[.ref y,.ref x]else #[.ref x,.ref y]) e)->Q (.ref<|s.heap.objs.size+1) {s with heap:=h'}) :
  wpAny (model prog w) A (call (.builtin "sorted") [.ref l] [(Str.ofString "reverse",.bool true)]) Q E s:=by
 refine call_function_entry_kw kind_sorted plain_sorted entry_sorted (args_sorted_rev _ _) ?_;unfold Builtin.«sorted»;refine BJ (m:=checkCount "sorted" 1 1 _)<|BP ?_;refine BJ<|collect_list (vs:=[.ref x,.ref y]) hl ?_;refine BJ<|JN ?_;have hsz:((s.heap.push<|seqObj "list" #[] 0).update s.heap.objs.size (Obj.mapSeq (·++[Value.ref x,Value.ref y].toArray))).objs.size=s.heap.objs.size+1:=by
  rw[Heap.size_update,size_push']
 have j4:(((s.heap.push<|seqObj "list" #[] 0).update s.heap.objs.size (Obj.mapSeq (·++[Value.ref x,Value.ref y].toArray))).push<|seqObj "list" [Value.ref x,Value.ref y].toArray 0).get? (s.heap.objs.size+1)=some (seqObj "list" [Value.ref x,Value.ref y].toArray 0):=by
  rw[<- hsz];exact Av _ rfl
 have lx:x < s.heap.objs.size:=let ⟨_,_,_,_,e,_⟩:=hx;Au e
 have ly:y < s.heap.objs.size:=let ⟨_,_,_,_,e,_⟩:=hy;Au e
 have keep:∀ z r,Pr s.heap z r->Pr (((s.heap.push<|seqObj "list" #[] 0).update s.heap.objs.size (Obj.mapSeq (·++[Value.ref x,Value.ref y].toArray))).push<|seqObj "list" [Value.ref x,Value.ref y].toArray 0) z r:=by
  rintro z r ⟨o,m,t,u,q1,q2⟩;have hz:=Au q1;exact⟨o,m,t,u,Ai _<|(Cg _ _<|Ct hz).trans<|Ai _ q1,q2⟩
 show wpAny _ _ _ _ _ {s with heap:=((s.heap.push<|seqObj "list" #[] 0).update s.heap.objs.size (Obj.mapSeq (·++[Value.ref x,Value.ref y].toArray))).push (seqObj "list" [Value.ref x,Value.ref y].toArray 0)};rw[hsz];refine BJ<|CG<|wpAny_call_entry_kw slot_list_sort ⟨_,j4,rfl⟩ entry_list_sort (Y7 j4 (Ct<|Bx lx) (Ct<|Bx ly) (keep x p hx) (keep y q hy) ⟨_,rfl,?_⟩)<|args_list_sort_rev _ _;obtain⟨e,he⟩:=sortedAll_at s.heap [Value.ref x,Value.ref y] (if lexLt p q then #[.ref y,.ref x]else #[.ref x,.ref y]);exact BP ⟨_,rfl,h _ e (λb u hb=>sortedAll_old hb) he⟩
end
end bw
namespace L2
open PySem PySem.Spec PyProof.Rows bw
section
variable{X:Cx}{e:Expr}{σ:St}{H:Hp}{Q:VK}{pos p kp cp:Pos}{j:Nat}
def OG{pins:Ð}{s:Shared}{a:Addr}{i j:Int}(I:Inv X pins σ H s)(h:H a=some (.tup [.int i,.int j])):Pr s.heap a (i,j):=by
 obtain⟨its,r,pl,_⟩:=I.tuple<|aP.of h;obtain⟨u,v,rfl,⟨t,rfl⟩,⟨t',rfl⟩⟩:=vals2 r;obtain⟨o,ho,hc,n,hd⟩:=pl;exact⟨o,n,t,t',ho,hc,hd⟩
def Za(hm:X.mg "sorted" = none) (h:Ev X e σ H λv H1=>∃ l x y a b c d,v = .ref l/\H1 l=some (.lst [.ref x,.ref y])/\H1 x=some (.tup [.int a,.int b])/\H1 y=some (.tup [.int c,.int d]) /\
   ∀ r,H1 r=none->Q (.ref r) (upd H1 r<|.lst (if lexLt (a,b) (c,d)then [.ref y,.ref x]else [.ref x,.ref y]))) (hg:Gl X "sorted":=by rfl)
  (he:backTo pos (starEach [e] X.env)=(false,eval e X.env) :: backTo pos (starEach [] X.env):=by rfl) (bM:(backTo pos<|starEach [e] X.env).any (·.1)=false:=by rfl) (db:isStar e=false:=by rfl) :
  Ev X (.Call (.Name "sorted" p) [e] [⟨some "reverse",.Constant (.bool true) j cp,kp⟩] pos) σ H Q:=by
 refine⟨λpins s I=>?_⟩;refine JV<|oR I hg hm DY ?_;have hE:Ea X [e] σ H λvs H1=>∃ l x y a b c d,vs=[.ref l]/\H1 l=some (.lst [.ref x,.ref y])/\H1 x=some (.tup [.int a,.int b])/\H1 y=some (.tup [.int c,.int d]) /\
   ∀ r,H1 r=none->Q (.ref r) (upd H1 r<|.lst (if lexLt (a,b) (c,d)then [.ref y,.ref x]else [.ref x,.ref y])):=
  aq (h.mono λv H1 ⟨l,x,y,a,b,c,d,e1,r1⟩=>az ⟨l,x,y,a,b,c,d,by rw[e1],r1⟩) db
 refine callWith_kw (aU (hE.run pos pins s I) λus s1 ⟨vs,H1,I1,r1,l,x,y,a,b,c,d,ev,hl,hx,hy,q⟩=>?_) he bM;subst ev;obtain⟨u,rfl,ru⟩:=vals1 r1;cases (show u=Value.ref l from ru);refine kws_cons<|BP<|kws_nil ?_;obtain⟨its,r2,pl,_⟩:=I1.list<|ak.of hl;obtain⟨u,v,rfl,ru,rv⟩:=vals2 r2;cases (show u=Value.ref x from ru);cases (show v=Value.ref y from rv);refine Y' pl.isList (OG I1 hx) (OG I1 hy) λh' e kp he=>?_;refine⟨.ref _,_,I1.fc (s':={s1 with heap:=h'}) kp rfl rfl (Em _) (show aB X.prog X.w _ h' _ (.lst (if lexLt (a,b) (c,d)then [.ref y,.ref x]else [.ref x,.ref y]))from ?_),rfl,q _<|I1.aI.fresh<|Em _⟩
 split at he
 ·rename_i hb;rw[BL hb];exact⟨by show 2<=sizeLine;rw[DW];decide,[.ref y,.ref x],e,.cons rfl (.cons rfl .nil),he⟩
 ·rename_i hb;rw[BK hb];exact⟨by show 2<=sizeLine;rw[DW];decide,[.ref x,.ref y],e,.cons rfl (.cons rfl .nil),he⟩
end
end L2
namespace Nt
open PySem
abbrev Net:=List<|Str×List Str
abbrev End:=Nat×Nat
def row(n:Net)(r:Nat):Ñ:=((n[r]?).map (·.2)).getD []
def aK(n:Net)(e:End):Option Str:=(row n e.1)[e.2]?
def bu(r:Nat)(ts:Ñ)(p:Nat):List (Str×End):=(ts.zipIdx p).map λx=>(x.1,(r,x.2))
def fG(r:Nat):Net->List (Str×End)
 | []=>[]
 | a :: n=>bu r a.2 0++fG (r+1) n
def bp(n:Net):List (Str×End):=fG 0 n
def ends(n:Net):List End:=(bp n).map (·.2)
def ag(n:Net):Ñ:=n.flatMap (·.2)
def pos(n:Net)(z:Str):List End:=((bp n).filter λx=>decide (x.1=z)).map (·.2)
def bI{r:Nat}{ts:Ñ}{p:Nat}{z:Str}{e:End}:(z,e)∈bu r ts p↔e.1=r/\p<=e.2/\ts[e.2 - p]?=some z:=by
 unfold bu;rw[Ap]
 constructor
 ·rintro ⟨⟨y,k⟩,hm,he⟩;cases he;have:=Fi.mp hm;exact⟨rfl,this.1,this.2⟩
 ·rintro ⟨h1,h2,h3⟩;refine⟨(z,e.2),Fi.mpr ⟨h2,h3⟩,?_⟩;rw[<- h1]
theorem bU:∀{n:Net} {k:Nat} {z:Str} {e:End},(z,e)∈fG k n↔k<=e.1/\(row n<|e.1 - k)[e.2]?=some z
 | [],k,z,e=>by
  constructor
  ·intro h;cases h
  ·rintro ⟨_,h⟩;simp[row]at h
 | a :: n,k,z,e=>by
  unfold fG;rw[Al,bI,bU]
  constructor
  ·rintro (⟨h1,_,h3⟩ | ⟨h1,h2⟩)
   ·refine⟨by omega,?_⟩;rw[show e.1 - k=0 by omega]
    simpa[row]using h3
   ·refine⟨by omega,?_⟩;rw[show e.1 - k=(e.1 - (k+1))+1 by omega]
    simpa[row]using h2
  ·rintro ⟨h1,h2⟩
   rcases Do k e.1 with h | h
   ·refine .inr ⟨h,?_⟩;rw[show e.1 - k=(e.1 - (k+1))+1 by omega]at h2
    simpa[row]using h2
   ·refine .inl ⟨by omega,Cf _,?_⟩;rw[show e.1 - k=0 by omega]at h2
    simpa[row]using h2
def aV{n:Net}{z:Str}{e:End}:(z,e)∈bp n↔aK n e=some z:=by
 unfold bp aK;rw[bU];simp
def af{n:Net}{e:End}:e∈ends n↔∃ z,aK n e=some z:=by
 unfold ends;rw[Ap]
 constructor
 ·rintro ⟨⟨z,e'⟩,h,rfl⟩;exact⟨z,aV.mp h⟩
 ·rintro ⟨z,h⟩;exact⟨(z,e),aV.mpr h,rfl⟩
def aM{n:Net}{z:Str}{e:End}:e∈pos n z↔aK n e=some z:=by
 unfold pos;rw[Ap]
 constructor
 ·rintro ⟨⟨y,e'⟩,h,rfl⟩;rw[Ba,DQ]at h;obtain⟨h1,h2⟩:=h;subst h2;exact aV.mp h1
 ·intro h;exact⟨(z,e),Ba.mpr ⟨aV.mpr h,by simp⟩,rfl⟩
def Zb(r:Nat):∀(ts:Ñ) (p:Nat),(bu r ts p).map (·.1)=ts:=by
 intro ts p;unfold bu;rw[Cn];have:((λx:Str×End=>x.1) ∘ λx:Str×Nat=>(x.1,(r,x.2)))=Prod.fst:=rfl;rw[this,List.zipIdx_map_fst]
theorem ll:∀(n:Net) (k:Nat),(fG k n).map (·.1)=ag n
 | [],_=>rfl
 | a :: n,k=>by
  unfold fG ag;rw[Ag,Zb,ll n<|k+1,Cc];rfl
def Zc(r:Nat)(ts:Ñ)(p:Nat):((bu r ts p).map (·.2)).Nodup:=by
 unfold bu;rw[Cn];have e:((λx:Str×End=>x.2) ∘ λx:Str×Nat=>(x.1,(r,x.2)))=(λk:Nat=>(r,k)) ∘ Prod.snd:=rfl;rw[e,<- Cn,List.zipIdx_map_snd];refine QL _ (R:=(·≠·)) ?_ List.nodup_range';intro a b h gy;exact h (Prod.mk.inj gy).2
theorem OH:∀(n:Net) (k:Nat),((fG k n).map (·.2)).Nodup
 | [],_=>Ch
 | a :: n,k=>by
  unfold fG;rw[Ag,Bt];refine⟨Zc _ _ _,OH n<|k+1,?_⟩;intro x hx y hy e;subst e;obtain⟨⟨z,e1⟩,h1,rfl⟩:=Ap.mp hx;obtain⟨⟨z2,e2⟩,h2,he⟩:=Ap.mp hy;simp only at he;subst he;have q1:=(bI.mp h1).1;have q2:=(bU.mp h2).1;omega
def rW(n:Net):(ends n).Nodup:=OH n 0
def OI(n:Net)(z:Str):(pos n z).Nodup:=by
 unfold pos;exact(rW n).sublist<|List.Sublist.map _<|Gv
def pP(n:Net)(z:Str):(pos n z).length=(ag n).count z:=by
 unfold pos;rw[Aa,<- ll n 0,<- List.countP_eq_length_filter,List.count,List.countP_map];rfl
def av(n:Net):Prop:=∀ z∈ag n,(ag n).count z=2
def dG{n:Net}{e:End}{z:Str}(h:aK n e=some z):z∈ag n:=by
 have:=aV.mpr h;rw[<- ll n 0];exact Ap.mpr ⟨_,this,rfl⟩
def other(n:Net)(e:End):End:=match aK n e with
 | some z=>(match pos n z with
  | [a,b]=>if a=e then b else a
  | _=>e)
 | none=>e
theorem pQ{n:Net}(T:av n){e:End}{z:Str}(h:aK n e=some z):∃ a b,pos n z=[a,b]/\a≠b/\(e=a\/e=b):=by
 have hl:=pP n z;rw[T z<|dG h]at hl;have hn:=OI n z;have hm:=aM.mpr h
 match hp:pos n z,hl with
 | [a,b],_=>
  rw[hp]at hn hm;refine⟨a,b,rfl,?_,?_⟩
  ·intro e;subst e;simp at hn
  ·simpa using hm
def du{n:Net}(T:av n){e:End}{z:Str}(h:aK n e=some z):aK n (other n e)=some z/\other n (other n e)=e/\other n e≠e:=by
 obtain⟨a,b,hp,gy,he⟩:=pQ T h;have ha:aK n a=some z:=aM.mp (by rw[hp];simp);have hb:aK n b=some z:=aM.mp<|by rw[hp];simp
 rcases he with rfl | rfl
 ·have e1:other n e=b:=by unfold other;simp only[h,hp];simp
  have e2:other n b=e:=by unfold other;simp only[hb,hp];simp[gy]
  rw[e1];exact⟨hb,e2,gy.symm⟩
 ·have e1:other n e=a:=by unfold other;simp only[h,hp];simp[gy]
  have e2:other n a=e:=by unfold other;simp only[ha,hp];simp
  rw[e1];exact⟨ha,e2,gy⟩
def left(n:Net)(e:End):End:=(e.1,(e.2+1) % (row n e.1).length)
def step(n:Net)(e:End):End:=left n (other n e)
def f9{n:Net}{e:End}{z:Str}(h:aK n e=some z):e.2 < (row n e.1).length:=(Ac.mp h).1
def cz{n:Net}{e:End}{z:Str}(h:aK n e=some z):e.1 < n.length:=by
 rcases Do e.1 n.length with c | c
 ·exact c
 ·have:=f9 h;unfold row at this;rw[Be c]at this;simp at this
def xY{n:Net}{e:End}(h:e.2 < (row n e.1).length):∃ z,aK n e=some z:=⟨_,Ab h⟩
def Zd{n:Net}{e:End}(h:e∈ends n):left n e∈ends n:=by
 obtain⟨z,h⟩:=af.mp h;have:=f9 h;exact af.mpr<|xY (show(e.2+1) % (row n e.1).length < (row n e.1).length from Gx _<|by omega)
def cX{n:Net}(T:av n){e:End}(h:e∈ends n):other n e∈ends n:=by
 obtain⟨z,h⟩:=af.mp h;exact af.mpr ⟨z,(du T h).1⟩
def rX{n:Net}(T:av n){e:End}(h:e∈ends n):step n e∈ends n:=Zd<|cX T h
def Zf{n:Net}{a b:End}(ha:a∈ends n)(hb:b∈ends n)(h:left n a=left n b):a=b:=by
 obtain⟨z,ha⟩:=af.mp ha;obtain⟨y,hb⟩:=af.mp hb;have la:=f9 ha;have lb:=f9 hb;unfold left at h;obtain⟨h1,h2⟩:=Prod.mk.inj h;rw[h1]at la h2;have:a.2=b.2:=by
  rcases Do (a.2+1) (row n b.1).length with c | c <;> rcases Do (b.2+1) (row n b.1).length with d | d
  ·rw[Ce c,Ce d]at h2;omega
  ·have e:b.2+1=(row n b.1).length:=by omega
   rw[Ce c,e,Cy]at h2;omega
  ·have e:a.2+1=(row n b.1).length:=by omega
   rw[Ce d,e,Cy]at h2;omega
  ·omega
 exact HJ h1 this
def OL{n:Net}(T:av n){a b:End}(ha:a∈ends n)(hb:b∈ends n)(h:other n a=other n b):a=b:=by
 obtain⟨z,ha⟩:=af.mp ha;obtain⟨y,hb⟩:=af.mp hb;rw[<- (du T ha).2.1,h,(du T hb).2.1]
def OM{n:Net}(T:av n){a b:End}(ha:a∈ends n)(hb:b∈ends n)(h:step n a=step n b):a=b:=
 OL T ha hb (Zf (cX T ha) (cX T hb) h)
theorem bg{α:Type} [DecidableEq α]:∀{a b:List α},a.Nodup->(∀ z∈a,z∈b)->a.length<=b.length
 | [],b,_,_=>Cf _
 | x :: r,b,hn,hs=>by
  rw[Bf]at hn;have hx:=hs x Af;have:=bg (a:=r) (b:=b.erase x) hn.2 λz hz=>by
   have bn:z≠x:=λe=>hn.1<|e ▸ hz;exact(Fk bn).mpr<|hs z<|Ah _ hz
  rw[Fy hx]at this;have hp:0 < b.length:=SM hx;rw[Ar];omega
def it{α:Type}(f:α->α):Nat->α->α
 | 0,a=>a
 | k+1,a=>f<|it f k a
theorem ki{α:Type}{f:α->α}{S:List α}(hf:∀ a∈S,f a∈S){a:α}(h:a∈S):∀ k,it f k a∈S
 | 0=>h
 | k+1=>hf _<|ki hf h k
def D7{α:Type} [DecidableEq α] {f:α->α} {S:List α} (hf:∀ a∈S,f a∈S) (inj:∀ a∈S,∀ b∈S,f a=f b->a=b) {a:α} (h:a∈S):∃ k,0 < k/\k<=S.length/\it f k a=a:=by
 have cancel:∀ i j,it f i a=it f (i+j) a->it f j a=a:=by
  intro i
  induction i with
  | zero=>intro j e;rw[Er]at e;exact e.symm
  | succ i ih=>
   intro j e;refine ih j ?_;rw[show i+1+j=(i+j)+1 by omega]at e;exact inj _ (ki hf h i) _ (ki hf h<|i+j) e
 refine DN λhn=>?_;have nd:((List.range<|S.length+1).map λi=>it f i a).Nodup:=by
  refine QL _ (R:=λi j=>i < j/\j < S.length+1) ?_ ?_
  ·rintro i j ⟨h1,h2⟩ e;refine hn ⟨j - i,by omega,by omega,cancel i (j - i) ?_⟩;rw[show i+(j - i)=j by omega];exact e
  ·rw[Bu];intro i j hi hj eR;simp only[Fa];simp at hj;exact⟨eR,hj⟩
 have:=bg nd λz hz=>by
  obtain⟨i,_,rfl⟩:=Ap.mp hz;exact ki hf h i
 simp at this;omega
theorem gB:∀(n:Net) (r:Nat),(row n r).length<=(ag n).length
 | [],r=>by simp[row,ag]
 | a :: n,0=>by simp[row,ag]
 | a :: n,r+1=>by
  have:=gB n r;simp[row,ag]at this ⊢;omega
theorem OO:∀(n:Net) (r:Nat),(ag<|n.take r).length<=(ag n).length
 | [],r=>by simp[ag]
 | a :: n,0=>by simp[ag]
 | a :: n,r+1=>by
  have:=OO n r;simp[ag]at this ⊢;omega
structure fH(n:Net)(e:Nt.End)(fs:List End):Prop where
 pos:0 < fs.length
 len:fs.length<=(ends n).length
 at':∀ i,i < fs.length->fs[i]?=some (it (step n) i e)
 back:it (step n) fs.length e=e
 first:∀ i,0 < i->i < fs.length->it (step n) i e≠e
open L2
abbrev Ls(zs:Ñ):HO:= .lst<|zs.map V.str
abbrev Tp(e:End):HO:= .tup [.int e.1,.int e.2]
structure ai(H:Hp)(R:Addr)(as:Ï)(n:Net):Prop where
 len:as.length=n.length
 lst:H R=some (.lst<|as.map λa=> .ref a.1)
 tup:∀(i:Nat) a r,as[i]?=some a->n[i]?=some r->H a.1=some (.tup [.str r.1,.ref a.2])/\H a.2=some (Ls r.2)
 inj:(as.map (·.2)).Nodup
def ai.same{H H':Hp}{R:Addr}{as:Ï}{n:Net}(h:ai H R as n)(s:ah H H'):ai H' R as n:=
 ⟨h.len,s _ _ h.lst,λi a r h1 h2=>⟨s _ _ (h.tup i a r h1 h2).1,s _ _ (h.tup i a r h1 h2).2⟩,h.inj⟩
def ai.at{H:Hp}{R:Addr}{as:Ï}{n:Net}(h:ai H R as n){i:Nat}(hi:i < n.length) :
  ∃ a,as[i]?=some a/\eF (as.map λa=>V.ref a.1) (i:Int)=some (.ref a.1)/\H a.1=some (.tup [.str n[i].1,.ref a.2])/\H a.2=some (Ls<|row n i)/\row n i=n[i].2:=by
 have hl:=h.len;have e:as[i]?=some as[i]:=Ab (by omega);have er:row n i=n[i].2:=by unfold row;rw[Ab hi];rfl
 have q:=h.tup i as[i] n[i] e<|Ab hi;refine⟨as[i],e,rq (by rw[Aj,e];rfl),q.1,?_,er⟩;rw[er];exact q.2
def xZ{zs:Ñ}{j:Nat}{z:Str}(h:zs[j]?=some z):eF (zs.map V.str) (j:Int)=some (.str z):=rq<|by rw[Aj,h];rfl
inductive Pd (H:Hp):List Addr->List End->Prop where
 | nil:Pd H [] []
 | cons {t:Addr} {e:End} {ts:List Addr} {es:List End}:H t=some (Tp e)->Pd H ts es->Pd H (t :: ts) (e :: es)
theorem Pd.append{H:Hp}{ts us:List Addr}{es fs:List End}(h:Pd H ts es)(g:Pd H us fs):Pd H (ts++us) (es++fs):=by
 induction h with
 | nil=>exact g
 | cons h1 _ ih=>exact .cons h1 ih
theorem Pd.keep{H H':Hp}{ts:List Addr}{es:List End}(h:Pd H ts es)(k:∀ t e,H t=some (Tp e)->H' t=some (Tp e)):Pd H' ts es:=by
 induction h with
 | nil=>exact .nil
 | cons h1 _ ih=>exact .cons (k _ _ h1) ih
theorem Pd.length{H:Hp}{ts:List Addr}{es:List End}(h:Pd H ts es):ts.length=es.length:=by
 induction h with
 | nil=>rfl
 | cons _ _ ih=>rw[Ar,Ar,ih]
theorem Pd.at{H:Hp}{ts:List Addr}{es:List End}(h:Pd H ts es):∀{i:Nat} {e:End},es[i]?=some e->∃ t,ts[i]?=some t/\H t=some (Tp e):=by
 induction h with
 | nil=>intro i e h;simp at h
 | cons h1 _ ih=>
  intro i e h;cases i with
  | zero=>simp at h;subst h;exact⟨_,rfl,h1⟩
  | succ i=>simp only[Da]at h ⊢;exact ih h
def bJ(done:List<|Str×End)(z:Str):List End:=(done.filter λx=>decide (x.1=z)).map (·.2)
def df(done:List<|Str×End)(y z:Str)(e:End):bJ (done++[(y,e)]) z=bJ done z++(if y=z then [e]else []):=by
 unfold bJ;rw[Cu,Ag]
 congr 1
 by_cases h:y=z
 ·rw[BL h];simp[h]
 ·rw[BK h];simp[h]
structure a9(H0 H:Hp)(d:Addr)(done:List<|Str×End)(kvs:List<|Key×V)(ks:Ñ)(A:Str->Option (Addr×List Addr)):Prop where
 same:ah H0 H
 free:H0 d=none
 dict:H d=some (.dK kvs)
 keys:kvs.map (·.1)=ks.map Sum.inr
 nodup:ks.Nodup
 mem:∀ z,z∈ks↔(A z).isSome=true
 val:∀ z,aJ kvs (Sum.inr z)=(A z).map λa=> .ref a.1
 at':∀ z a ts,A z=some (a,ts)->H0 a=none/\a≠d/\H a=some (.lst<|ts.map V.ref)/\Pd H ts (bJ done z)
 inj:∀ z y a ts us,A z=some (a,ts)->A y=some (a,us)->z=y
 gC:∀ z,A z=none->bJ done z=[]
 some':∀ z a ts,A z=some (a,ts)->bJ done z≠[]
def a9.start{H:Hp}{d:Addr}(h:H d=none):a9 H (upd H d<|.dK []) d [] [] [] (λ_=>none) where
 same:=λb u q=>by rw[ax<|bq q h];exact q
 free:=h
 dict:=aw
 keys:=rfl
 nodup:=Ch
 mem:=λz=>by simp
 val:=λz=>rfl
 at':=λz a ts h=>by cases h
 inj:=λz y a ts us h=>by cases h
 gC:=λz _=>rfl
 some':=λz a ts h=>by cases h
def uH{H:Hp}{t a:Addr}{e:End}{xs:List V}(h:H t=some (Tp e))(g:H a=some (.lst xs)):t≠a:=ce h g λz=>nomatch z
def a9.old{H0 H:Hp}{d:Addr}{done:List (Str×End)}{kvs:List (Key×V)}{ks:Ñ}{A:Str->Option (Addr×List Addr)}(S:a9 H0 H d done kvs ks A){z:Str}{e:End}{a l0 t:Addr}{ts:List Addr}
  (hA:A z=some (a,ts)) (hl:H l0=none) (ht:(upd H l0<|.lst []) t=none) :
  a9 H0 (upd (upd (upd H l0<|.lst []) t<|Tp e) a<|.lst<|ts.map V.ref++[.ref t]) d (done++[(z,e)]) kvs ks (λy=>if y=z then some (a,ts++[t])else A y):=by
 obtain⟨q1,q2,q3,q4⟩:=S.at' z a ts hA;have x4:H t=none:=by
  by_cases c:t=l0
  ·rw[c,aw]at ht;cases ht
  ·rwa[ax c]at ht
 have x6:l0≠a:=(bq q3 hl).symm;have x8:t≠a:=(bq q3 x4).symm;have fe:a≠t:=x8.symm;have keep:∀ b u,b≠a->H b=some u->(upd (upd (upd H l0<|.lst []) t<|Tp e) a<|.lst<|ts.map V.ref++[.ref t]) b=some u:=λb u h1 h2=>by
  rw[ax h1,ax<|bq h2 x4,ax<|bq h2 hl];exact h2
 have kt:∀ b f,H b=some (Tp f)->(upd (upd (upd H l0<|.lst []) t<|Tp e) a<|.lst<|ts.map V.ref++[.ref t]) b=some (Tp f):=λb f h=>keep b _ (uH h q3) h;have et:(upd (upd (upd H l0<|.lst []) t<|Tp e) a<|.lst<|ts.map V.ref++[.ref t]) t=some (Tp e):=by rw[ax x8,aw]
 refine⟨λb u h=>?_,S.free,keep d _ (CK q2) S.dict,S.keys,S.nodup,λy=>?_,λy=>?_,λy a' iI h=>?_,λy y' a' iI us h1 h2=>?_,λy h=>?_,λy a' iI h=>?_⟩
 ·exact keep b u (bq h q1)<|S.same _ _ h
 ·rw[S.mem y]
  by_cases c:y=z
  ·rw[BL c,c,hA];simp
  ·rw[BK c]
 ·rw[S.val y]
  by_cases c:y=z
  ·rw[BL c,c,hA];rfl
  ·rw[BK c]
 ·by_cases c:y=z
  ·rw[BL c]at h;cases h;refine⟨q1,q2,by rw[aw,Ag];rfl,?_⟩;rw[df,c,BL rfl];exact(q4.keep kt).append<|.cons et .nil
  ·rw[BK c]at h;obtain⟨r1,r2,r3,r4⟩:=S.at' y a' iI h;have bn:a'≠a:=λe2=>c<|S.inj y z a iI ts (e2 ▸ h) hA;refine⟨r1,r2,keep _ _ bn r3,?_⟩;rw[df,BK λh=>c h.symm,Bh];exact r4.keep kt
 ·by_cases c:y=z <;> by_cases c':y'=z
  ·rw[c,c']
  ·rw[BL c]at h1;rw[BK c']at h2;cases h1;exact absurd (S.inj y' z a us ts h2 hA) c'
  ·rw[BK c]at h1;rw[BL c']at h2;cases h2;exact absurd (S.inj y z a iI ts h1 hA) c
  ·rw[BK c]at h1;rw[BK c']at h2;exact S.inj y y' a' iI us h1 h2
 ·by_cases c:y=z
  ·rw[BL c]at h;cases h
  ·rw[BK c]at h;rw[df,BK λh=>c h.symm,Bh];exact S.gC y h
 ·by_cases c:y=z
  ·rw[df,BL c.symm];simp
  ·rw[BK c]at h;rw[df,BK λh=>c h.symm,Bh];exact S.some' y a' iI h
def a9.new{H0 H:Hp}{d:Addr}{done:List (Str×End)}{kvs:List (Key×V)}{ks:Ñ}{A:Str->Option (Addr×List Addr)}(S:a9 H0 H d done kvs ks A){z:Str}{e:End}{l0 t:Addr}
  (hA:A z=none) (hl:H l0=none) (ht:(upd (upd H l0<|.lst []) d<|.dK<|putK kvs (Sum.inr z)<|.ref l0) t=none) :
  a9 H0 (upd (upd (upd (upd H l0<|.lst []) d<|.dK<|putK kvs (Sum.inr z)<|.ref l0) t<|Tp e) l0<|.lst [.ref t]) d (done++[(z,e)]) (putK kvs (Sum.inr z)<|.ref l0) (ks++[z]) (λy=>if y=z then some (l0,[t])else A y):=by
 have iH:d≠l0:=bq S.dict hl;have D8:t≠d:=λc=>by rw[c,aw]at ht;cases ht
 have pR:t≠l0:=λc=>by rw[ax D8,c,aw]at ht;cases ht
 have x4:H t=none:=by rwa[ax D8,ax pR]at ht
 have vn:aJ kvs (Sum.inr z)=none:=by rw[S.val z,hA];rfl
 have keep:∀ b u,b≠d->H b=some u->(upd (upd (upd (upd H l0<|.lst []) d<|.dK<|putK kvs (Sum.inr z)<|.ref l0) t<|Tp e) l0<|.lst [.ref t]) b=some u:=λb u h1 h2=>by
  rw[ax<|bq h2 hl,ax<|bq h2 x4,ax h1,ax<|bq h2 hl];exact h2
 have kt:∀ b f,H b=some (Tp f)->(upd (upd (upd (upd H l0<|.lst []) d<|.dK<|putK kvs (Sum.inr z)<|.ref l0) t<|Tp e) l0<|.lst [.ref t]) b=some (Tp f):=λb f h=>keep b _ (ce h S.dict λz=>nomatch z) h;have Zg:H0 l0=none:=S.same.free hl;have zk:z∉ks:=λh=>by
  have:=(S.mem z).mp h;rw[hA]at this;cases this
 refine⟨λb u h=>?_,S.free,?_,?_,?_,λy=>?_,λy=>?_,λy a' iI h=>?_,λy y' a' iI us h1 h2=>?_,λy h=>?_,λy a' iI h=>?_⟩
 ·exact keep b u (bq h S.free)<|S.same _ _ h
 ·rw[ax iH,ax D8.symm,aw]
 ·rw[M4 _ vn,Ag,S.keys,Ag];rfl
 ·rw[Bt];exact⟨S.nodup,by simp,λx hx y hy e=>by rw[Ae]at hy;subst hy e;exact zk hx⟩
 ·rw[Al,Ae,S.mem y]
  by_cases c:y=z
  ·rw[BL c];simp[c]
  ·rw[BK c];simp[c]
 ·rw[fb]
  by_cases c:y=z
  ·rw[BL (by rw[c]),BL c];rfl
  ·rw[BK λh=>c<|Sum.inr.inj h,BK c,S.val y]
 ·by_cases c:y=z
  ·rw[BL c]at h;cases h;refine⟨Zg,iH.symm,by rw[aw];rfl,?_⟩;rw[df,c,BL rfl,S.gC z hA];exact .cons (by rw[ax pR,aw]) .nil
  ·rw[BK c]at h;obtain⟨r1,r2,r3,r4⟩:=S.at' y a' iI h;refine⟨r1,r2,keep _ _ r2 r3,?_⟩;rw[df,BK λh=>c h.symm,Bh];exact r4.keep kt
 ·by_cases c:y=z <;> by_cases c':y'=z
  ·rw[c,c']
  ·rw[BL c]at h1;rw[BK c']at h2;cases h1;exact absurd hl<|by rw[(S.at' y' l0 us h2).2.2.1];exact λh=>nomatch h
  ·rw[BK c]at h1;rw[BL c']at h2;cases h2;exact absurd hl<|by rw[(S.at' y l0 iI h1).2.2.1];exact λh=>nomatch h
  ·rw[BK c]at h1;rw[BK c']at h2;exact S.inj y y' a' iI us h1 h2
 ·by_cases c:y=z
  ·rw[BL c]at h;cases h
  ·rw[BK c]at h;rw[df,BK λh=>c h.symm,Bh];exact S.gC y h
 ·by_cases c:y=z
  ·rw[df,BL c.symm];simp
  ·rw[BK c]at h;rw[df,BK λh=>c h.symm,Bh];exact S.some' y a' iI h
theorem D9:∀(n m:Net) (k:Nat),fG k (n++m)=fG k n++fG (k+n.length) m
 | [],m,k=>rfl
 | a :: n,m,k=>by
  show bu k a.2 0++fG (k+1) (n++m)=(bu k a.2 0++fG (k+1) n)++fG (k+(n.length+1)) m;rw[D9 n m<|k+1,At,show k+1+n.length=k+(n.length+1) by omega]
def rY{n:Net}{r:Nat}(h:r < n.length):bp (n.take<|r+1)=bp (n.take r)++bu r (row n r) 0:=by
 unfold bp;rw[Cb,Ab h,D9];have e:(n.take r).length=r:=by rw[Bg];omega
 rw[e,Er];have er:row n r=n[r].2:=by unfold row;rw[Ab h];rfl
 rw[er];show _++(bu r n[r].2 0++[])=_;rw[Bh]
def pS{r:Nat}{ts:Ñ}{p:Nat}{z:Str}(h:ts[p]?=some z):bu r (ts.take<|p+1) 0=bu r (ts.take p) 0++[(z,(r,p))]:=by
 unfold bu;have hp:=(Ac.mp h).1;rw[Cb,h,List.zipIdx_append,Ag];have e:(ts.take p).length=p:=by rw[Bg];omega
 rw[e,Er];rfl
structure bR(H:Hp)(d:Addr)(n:Net)(ks:Ñ):Prop where
 dict:∃ kvs,H d=some (.dK kvs)/\kvs.map (·.1)=ks.map Sum.inr/\∀ z∈ag n,∃ a ts,aJ kvs (Sum.inr z)=some (.ref a)/\H a=some (.lst<|ts.map V.ref)/\Pd H ts (pos n z)
 nodup:ks.Nodup
 mem:∀ z,z∈ks↔z∈ag n
def bR.same{H H':Hp}{d:Addr}{n:Net}{ks:Ñ}(S:bR H d n ks)(s:ah H H'):bR H' d n ks:=by
 obtain⟨kvs,h1,h2,h3⟩:=S.dict;refine⟨⟨kvs,s _ _ h1,h2,λz hz=>?_⟩,S.nodup,S.mem⟩;obtain⟨a,ts,q1,q2,q3⟩:=h3 z hz;exact⟨a,ts,q1,s _ _ q2,q3.keep λt e h=>s _ _ h⟩
def cQ{n:Net}{z:Str}:z∈ag n↔pos n z≠[]:=by
 rw[<- Bs,<- pP,Dq]
theorem a9.whole{H0 H:Hp}{d:Addr}{n:Net}{kvs:List (Key×V)}{ks:Ñ}{A:Str->Option (Addr×List Addr)}(S:a9 H0 H d (bp n) kvs ks A):bR H d n ks:=by
 have mem:∀ z,z∈ks↔z∈ag n:=λz=>by
  rw[S.mem z,cQ];cases h:A z with
  | none=>simp;exact S.gC z h
  | some p=>
   obtain⟨a,ts⟩:=p;simp;exact S.some' z a ts h
 refine⟨⟨kvs,S.dict,S.keys,λz hz=>?_⟩,S.nodup,mem⟩;have:=(S.mem z).mp<|(mem z).mpr hz;cases h:A z with
 | none=>rw[h]at this;cases this
 | some p=>
  obtain⟨a,ts⟩:=p;obtain⟨q1,q2,q3,q4⟩:=S.at' z a ts h;exact⟨a,ts,by rw[S.val z,h];rfl,q3,q4⟩
def all2(e:Nat->Bool):(List.range 2).all e=(e 0 && e 1):=by
 show(([0,1]:List Nat).all e)=_;simp
def OQ(x y:End):(cK (.int x.1) (.int y.1) && cK (.int x.2) (.int y.2))=decide (x=y):=by
 obtain⟨a,b⟩:=x;obtain⟨c,d⟩:=y
 by_cases h:a=c <;> by_cases h2:b=d
 ·subst h h2;simp[cK]
 ·have:¬(b:Int)=(d:Int):=λe=>h2 (by omega);simp[cK,h2,this]
 ·have:¬(a:Int)=(c:Int):=λe=>h (by omega);simp[cK,h,this]
 ·have:¬(a:Int)=(c:Int):=λe=>h (by omega);simp[cK,h,this]
section
variable{X:Cx}{H:Hp}{s t:Addr}{x y:End}
theorem OS:∀(j:Nat) (u v:V),[V.int x.1,.int x.2][j]?=some u->[V.int y.1,.int y.2][j]?=some v->nJ X H 0 u v (if j=0 then cK (.int x.1) (.int y.1)else cK (.int x.2) (.int y.2))
 | 0,u,v,h1,h2=>by
  cases h1;cases h2;exact uF rfl rfl
 | 1,u,v,h1,h2=>by
  cases h1;cases h2;exact uF rfl rfl
 | j+2,u,v,h1,h2=>by simp at h1
def Zh(hs:H s=some (Tp x))(ht:H t=some (Tp y)):uE X H 1 (.ref s) (.ref t) (decide (x=y)):=by
 have:=YL (X:=X) (k:=0) (λj=>if j=0 then cK (.int x.1) (.int y.1)else cK (.int x.2) (.int y.2)) (aP.of hs) (aP.of ht) rfl OS;rw[show([V.int (x.1:Int),.int x.2].length)=2 from rfl,all2]at this;have e:=OQ x y;simp only[DP]at this;rw[BK (by decide),e]at this;exact this
def Zi(hs:H s=some (Tp x))(ht:H t=some (Tp y)):pM X H 1 (.ref s) (.ref t) (decide (x=y)):=by
 have:=Ox (X:=X) (k:=0) (λj=>if j=0 then cK (.int x.1) (.int y.1)else cK (.int x.2) (.int y.2)) (aP.of hs) (aP.of ht) rfl OS;rw[show([V.int (x.1:Int),.int x.2].length)=2 from rfl,all2]at this;have e:=OQ x y;simp only[DP]at this;rw[BK (by decide),e]at this;exact this
end
abbrev lets:Str:= "abcdefghijklmnopqrstuvwxyz0123456789"
def OT:lets.cps.toList.length=36:=by decide +kernel
def Zj:lets.cps.toList.Nodup:=by decide +kernel
def sgn(i:Int):Nat:=(eF lets.cps.toList<|i % 36).getD 0
def EA(i:Int):eF lets.cps.toList (i % 36)=some (sgn i):=by
 have h0:0<=i % 36:=Ca _ (by decide);have h1:i % 36 < 36:=Ci _ (by decide);have hj:(i % 36).toNat < lets.cps.toList.length:=by rw[OT];omega
 have q:=rq (xs:=lets.cps.toList) (j:=(i % 36).toNat) (v:=lets.cps.toList[(i % 36).toNat]) (by simp[hj]);rw[show(((i % 36).toNat:Nat):Int)=i % 36 by omega]at q;unfold sgn;rw[q];rfl
def OU{i j:Int}(h:sgn i=sgn j):i % 36=j % 36:=by
 have key:∀ k:Int,lets.cps.toList[(k % 36).toNat]?=some (sgn k):=λk=>by
  have h0:0<=k % 36:=Ca _ (by decide);have h1:k % 36 < 36:=Ci _ (by decide);have hj:(k % 36).toNat < lets.cps.toList.length:=by rw[OT];omega
  have q:=rq (xs:=lets.cps.toList) (j:=(k % 36).toNat) (v:=lets.cps.toList[(k % 36).toNat]) (by simp[hj]);rw[show(((k % 36).toNat:Nat):Int)=k % 36 by omega,EA]at q;rw[Ab hj,Option.some.inj q]
 have hi:=key i;have hj:=key j;rw[h]at hi;obtain⟨l1,e1⟩:=Ac.mp hi;obtain⟨l2,e2⟩:=Ac.mp hj;have:=(Gm (xs:=lets.cps.toList) (h₀:=l1) (h₁:=l2) Zj).mp<|e1.trans e2.symm;have a0:0<=i % 36:=Ca _ (by decide);have b0:0<=j % 36:=Ca _ (by decide);omega
def turn(b:Int)(sp:Int)(v k:Nat):Int:=b / 64+(k:Int) * (b / 7 % 5)+(if(k:Int)=sp then(v:Int)else 0)
def nm(b sp:Int)(v:Nat):Nat->Str
 | 0=>⟨#[]⟩
 | k+1=>nm b sp v k++⟨#[sgn<|turn b sp v k]⟩
def app_list(x y:Str):(x++y).cps.toList=x.cps.toList++y.cps.toList:=by
 show(x.cps++y.cps).toList=_;simp
theorem x9(b sp:Int)(v:Nat):∀ k,(nm b sp v k).cps.toList=(List.range k).map λj=>sgn<|turn b sp v j
 | 0=>rfl
 | k+1=>by
  show(nm b sp v k++⟨#[sgn<|turn b sp v k]⟩).cps.toList=_;rw[app_list,x9 b sp v k,Du,Ag];rfl
def Zk{b sp:Int}{u v k:Nat}(hu:u < 36)(hv:v < 36)(h0:0<=sp)(h1:sp < (k:Int))(h:nm b sp u k=nm b sp v k):u=v:=by
 have e:(nm b sp u k).cps.toList=(nm b sp v k).cps.toList:=by rw[h]
 rw[x9,x9]at e;have hk:sp.toNat < k:=by omega
 have q:((List.range k).map λj=>sgn<|turn b sp u j)[sp.toNat]?=((List.range k).map λj=>sgn<|turn b sp v j)[sp.toNat]?:=by rw[e]
 rw[Aj,Aj,Eh hk]at q;have q2:sgn (turn b sp u sp.toNat)=sgn (turn b sp v sp.toNat):=Option.some.inj q;have q3:=OU q2;unfold turn at q3;rw[show((sp.toNat:Nat):Int)=sp by omega,BL rfl,BL rfl]at q3;omega
theorem fold_list(c:Nat):∀(k:Nat) (acc:Array Nat),((List.replicate k (#[c]:Array Nat)).foldl (·++·) acc).toList=acc.toList++List.replicate k c
 | 0,acc=>by simp
 | k+1,acc=>by
  rw[List.replicate_succ,Dm,fold_list c k,List.replicate_succ];simp
def mul_list(c:Nat){i:Int}(h:1<=i):(Txt.mul ⟨#[c]⟩ i).cps.toList=List.replicate i.toNat c:=by
 unfold Txt.mul;rw[BK<|by omega]
 by_cases e:i=1
 ·subst e;rfl
 ·have e1:(i == 1 || (⟨#[c]⟩:Str).length == 0)=false:=by
   have:(i == 1)=false:=by simpa using e
   rw[this];rfl
  rw[e1];simp only[Bb,CT];have:=fold_list c i.toNat #[]
  simpa using this
def aQ(b:Int)(v:Nat):Str:=if b % 3=2 then Txt.mul ⟨#[sgn<|b / 64+(v:Int) / 8]⟩ (1+(v:Int) % 8)else nm b (b / 8 % (1+b % 8)) v (1+b % 8).toNat
def Zm{b:Int}{u v:Nat}(hu:u < 36)(hv:v < 36)(h:aQ b u=aQ b v):u=v:=by
 have s0:0<=b % 8:=Ca _ (by decide);unfold aQ at h
 by_cases c:b % 3=2
 ·rw[BL c,BL c]at h;have u0:0<=(u:Int) % 8:=Ca _ (by decide);have v0:0<=(v:Int) % 8:=Ca _ (by decide);have e:(Txt.mul ⟨#[sgn<|b / 64+(u:Int) / 8]⟩<|1+(u:Int) % 8).cps.toList=(Txt.mul ⟨#[sgn<|b / 64+(v:Int) / 8]⟩<|1+(v:Int) % 8).cps.toList:=by rw[h]
  rw[mul_list _ (by omega),mul_list _<|by omega]at e;have l:=BZ List.length e;rw[Fg,Fg]at l;have hd:(List.replicate (1+(u:Int) % 8).toNat<|sgn<|b / 64+(u:Int) / 8)[0]?=(List.replicate (1+(v:Int) % 8).toNat<|sgn<|b / 64+(v:Int) / 8)[0]?:=by rw[e]
  rw[Ez,Ez,BL (by omega),BL<|by omega]at hd;have q:=OU<|Option.some.inj hd;omega
 ·rw[BK c,BK c]at h;refine Zk hu hv (Ca _<|by omega) ?_ h;have:=Ci (b / 8) (show 0 < 1+b % 8 by omega);omega
def namesOf(b:Int)(m:Nat):Ñ:=(List.range m).map<|aQ b
def ya{b:Int}{m:Nat}(h:m<=36):(namesOf b m).Nodup:=by
 unfold namesOf;refine QL _ (R:=λi j=>i < j/\j < m) ?_ ?_
 ·rintro i j ⟨h1,h2⟩ e;have:=Zm (by omega) (by omega) e;omega
 ·rw[Bu];intro i j hi hj eR;simp only[Fa];simp at hj;exact⟨eR,hj⟩
def yb(b:Int)(m:Nat):namesOf b (m+1)=namesOf b m++[aQ b m]:=by
 unfold namesOf;rw[Du,Ag];rfl
def EB(b:Int)(m:Nat):(namesOf b m).length=m:=by unfold namesOf;simp
def Zn{b:Int}{m i:Nat}(h:i < m):(namesOf b m)[i]?=some (aQ b i):=by
 unfold namesOf;rw[Aj,Eh h];rfl
end Nt
namespace E7
open PySem L2
def top(i:Nat):Stmt:=PySem.Challenge.pw_threewebs_k52_just_one_kind.main.body.getD i<|.Pass ⟨0,0,0,0⟩
abbrev yc:Stmt:=top 4
abbrev yd:Stmt:=top 5
abbrev EC:Stmt:=top 6
abbrev ED:Stmt:=top 7
abbrev EE:Stmt:=top 8
abbrev ye:Stmt:=top 9
abbrev yf:Stmt:=top 10
abbrev yg:Stmt:=top 11
abbrev yh:Stmt:=top 13
abbrev yi:Stmt:=top 14
abbrev EF:Stmt:=top 15
abbrev EG:Stmt:=top 16
abbrev EH:Stmt:=top 18
abbrev iq:Stmt:=top 19
abbrev yj:Stmt:=top 20
abbrev pT:Stmt:=top 22
abbrev pU:Stmt:=top 23
abbrev uI:Stmt:=top 24
abbrev yk:Stmt:=top 26
abbrev yl:Stmt:=top 28
abbrev EI:Stmt:=top 29
abbrev EJ:Stmt:=top 30
abbrev EK:Stmt:=top 32
abbrev EL:Stmt:=top 34
abbrev pV:Stmt:=top 35
abbrev ER:Stmt:=top 36
abbrev EV:Stmt:=top 37
abbrev EW:Stmt:=top 38
abbrev EX:Stmt:=top 39
abbrev EZ:Stmt:=top 40
abbrev pW:Stmt:=top 41
abbrev pX:Stmt:=top 42
abbrev ym:Stmt:=top 43
abbrev yn:Stmt:=top 44
abbrev uJ:Stmt:=top 45
abbrev uK:Stmt:=top 46
abbrev rZ:Stmt:=top 47
abbrev E1:Stmt:=top 48
abbrev E2:Stmt:=top 49
abbrev E3:Stmt:=top 50
abbrev pY:Stmt:=top 51
structure Txt(mg:Ò):Prop where
 Zo:mg "isinstance" = none
 pZ:mg "tuple" = none
 Zq:mg "str" = none
 uL:mg "int" = none
 OV:mg "bool" = none
 nP:mg "list" = none
 nQ:mg "dict" = none
 p5:mg "set" = none
 enum:mg "enumerate" = none
 zip:mg "zip" = none
 len:mg "len" = none
 range:mg "range" = none
 sorted:mg "sorted" = none
 max:mg "max" = none
 all:mg "all" = none
 Zr:mg "ValueError" = none
open Nt bw
def small{n:Nat}(h:n<=100000):n<=sizeLine:=by rw[DW];omega
def bS{n:Nat}(h:n<=100000):n < sizeLine:=by rw[DW];omega
def aH{H:Hp}{p:Addr}(h:H p=none)(o:HO):ah H (upd H p o):=λb u q=>by rw[ax<|bq q h];exact q
def dX{H1 H2:Hp}{r:Addr}{o:HO}(s:ah H1 H2)(h:H1 r=none):ah H1 (upd H2 r o):=λb u q=>by
 rw[ax<|bq q h];exact s _ _ q
def OW{H:Hp}{l:Addr}{zs:Ñ}{y:Str}:upd H l (.lst<|zs.map V.str++[V.str y])=upd H l (Ls<|zs++[y]):=by
 show _=upd H l (.lst<|(zs++[y]).map V.str);rw[Ag];rfl
def yo(K:PySem.W.Frag):Sp:=λvs H Q _=>∃(a:Addr) (ns:List Int) (k:Int),vs=[.ref a,.int k]/\ak K H a (ns.map V.int)/\0<=k/\∀ i,Q (.int i) H
def E4(K:PySem.W.Frag):Sp:=λvs H Q _=>∃(a:Addr) (ns:List Int) (k:Int),vs=[.ref a,.int k]/\ak K H a (ns.map V.int)/\0<=k/\∀ i H',ah H H'->Q (.int i) H'
def E5:Sp:=λvs H Q _=>∃(b m:Int),vs=[.int b,.int m]/\0<=m/\m<=36/\∀ l H',ah H H'->H l=none->H' l=some (Ls<|namesOf b m.toNat)->Q (.ref l) H'
def E6:Sp:=λvs H Q _=>∃(R:Addr) (as:Ï) (n:Net),vs=[.ref R]/\ai H R as n/\n.length<=1000/\(ag n).length<=1000/\∀ d ks H',ah H H'->H d=none->bR H' d n ks->Q (.ref d) H'
def E8:Sp:=λvs H Q _=>∃(R d t:Addr) (as:Ï) (n:Net) (ks:Ñ) (e:Nt.End),vs=[.ref R,.ref d,.ref t]/\ai H R as n/\bR H d n ks/\av n/\H t=some (Tp e)/\e∈ends n/\∀ u,H u=some (Tp<|other n e)->Q (.ref u) H
def E9:Sp:=λvs H Q _=>∃(R d t:Addr) (as:Ï) (n:Net) (ks:Ñ) (e:Nt.End),vs=[.ref R,.ref d,.ref t,.int 1]/\ai H R as n/\bR H d n ks/\av n/\H t=some (Tp e)/\e∈ends n/\∀ u H',ah H H'->H u=none->H' u=some (Tp<|step n e)->Q (.ref u) H'
def E':Sp:=λvs H Q _=>∃(R d t:Addr) (as:Ï) (n:Net) (ks:Ñ) (e:Nt.End),vs=[.ref R,.ref d,.ref t]/\ai H R as n/\bR H d n ks/\av n/\H t=some (Tp e)/\e∈ends n/\(ends n).length<=1000 /\
 ∀ l ts fs H',ah H H'->H l=none->H' l=some (.lst<|ts.map V.ref)->Pd H' ts fs->fH n e fs->Q (.ref l) H'
section
variable{P:Program}{w:World}{K:PySem.W.Frag}{mg:Ò}{base:Heap}
def Zt:ao ["_law_script","_law_k"] ["_law_script","_law_k"] (aT EL):=⟨rfl,rfl,rfl,by decide +kernel,rfl,by decide +kernel,by decide +kernel⟩
def Zu{ns:List Int}{k:Int}(h0:0<=k)(h1:k < (ns.length:Int)):∃ v:Int,eF (ns.map V.int) k=some (.int v):=by
 have hj:k.toNat < ns.length:=by omega
 have q:=rq (xs:=ns.map V.int) (j:=k.toNat) (v:= .int ns[k.toNat]) (by simp[hj]);rw[show((k.toNat:Nat):Int)=k by omega]at q;exact⟨_,q⟩
def Zv{f:Addr}{fd:FuncData}(F:bv K "_law_cell_at" "_law_cell_at" EL f fd)(T:Txt mg):aE P w K mg base bD 1 f fd ["_law_script","_law_k"] (yo K):=by
 refine F.gb Zt (λvs H Q E h=>?_) λb0 H vs Q E hr h=>?_
 ·obtain⟨a,ns,k,rfl,_⟩:=h;rfl
 obtain⟨a,ns,k,rfl,hS,h0,q⟩:=h;show Run _ _ _ [some<|.ref a,some<|.int k] H;refine hV<|b8 VU<|ae 1<|cF dR T.len DX<|aq<|ae 0<|az ⟨a,_,rfl,.inl hS,_,_,rfl,rfl,_,rfl,?_⟩;refine j9 (λc=>?_) λc=>?_
 ·have c':=BX c;obtain⟨v,hv⟩:=Zu (ns:=ns) h0 (by rw[Aa]at c';exact c');exact bN<|aY dq<|ae 0<|ae 1 ⟨a,_,_,.int v,rfl,rfl,hS,hv,q v⟩
 ·exact bb<|bN<|aC<|q 0
abbrev p7:List V:=[.int 48271,.int 69621,.int 16807,.int 39373,.int 21401,.int 60493,.int 87721,.int 31337]
abbrev gD:List V:=[.int 99991,.int 99989,.int 99971,.int 99961,.int 99929,.int 99923,.int 99907,.int 99901]
def eight{i:Int}(h0:0<=i)(h1:i < 8):i=0\/i=1\/i=2\/i=3\/i=4\/i=5\/i=6\/i=7:=by
 obtain⟨k,rfl⟩:=Int.eq_ofNat_of_zero_le h0;exact(by decide:∀ k:Fin 8,(k.1:Int)=0\/(k.1:Int)=1\/(k.1:Int)=2\/(k.1:Int)=3\/(k.1:Int)=4\/(k.1:Int)=5\/(k.1:Int)=6\/(k.1:Int)=7) ⟨k,Int.ofNat_lt.mp h1⟩
def Zw{i:Int}(h0:0<=i)(h1:i < 8):∃ m:Int,eF p7 i=some (.int m)/\0 < m/\m < 100000:=by
 rcases eight h0 h1 with rfl | rfl | rfl | rfl | rfl | rfl | rfl | rfl <;> exact⟨_,rfl,by decide,by decide⟩
def Zx{i:Int}(h0:0<=i)(h1:i < 8):∃ m:Int,eF gD i=some (.int m)/\0 < m/\m < 100000:=by
 rcases eight h0 h1 with rfl | rfl | rfl | rfl | rfl | rfl | rfl | rfl <;> exact⟨_,rfl,by decide,by decide⟩
def nR:ao ["_law_script","_law_at","_law_by","_law_prime","_law_cell","_law_big_here","_law_k","_law_one"] ["_law_script","_law_at"] (aT pV):=⟨rfl,rfl,rfl,by decide +kernel,rfl,by decide +kernel,by decide +kernel⟩
def Zy{f:Addr}{fd:FuncData}(F:bv K "_law_big" "_law_big" pV f fd)(T:Txt mg)(G:aS P w K mg base 1 "_law_cell_at" ["_law_script","_law_k"]<|yo K) :
  aE P w K mg base bD 2 f fd ["_law_script","_law_at"] (E4 K):=by
 refine F.gb nR (λvs H Q E h=>?_) λb0 H vs Q E hr h=>?_
 ·obtain⟨a,ns,k,rfl,_⟩:=h;rfl
 obtain⟨a,ns,k,rfl,hS,h0,q⟩:=h;have nd:=nR.nd;show Run _ _ _ [some<|.ref a,some<|.int k,none,none,none,none,none,none] H;refine aW 2 nd (dW<|aq<|aC<|aq<|aC<|aq<|aC<|aq<|aC<|aq<|aC<|aq<|aC<|aq<|aC<|aq<|aC<|az ⟨(by show 8<=sizeLine;decide),λp hp=>?_⟩);refine aW 3 nd (dW<|aq<|aC<|aq<|aC<|aq<|aC<|aq<|aC<|aq<|aC<|aq<|aC<|aq<|aC<|aq<|aC<|az ⟨(by show 8<=sizeLine;decide),λp2 ka=>?_⟩);have Zz:p≠p2:=by
  intro e;rw[<- e,aw]at ka;cases ka
 have s1:ah H (upd H p<|.tup p7):=aH hp _;have s2:ah H (upd (upd H p<|.tup p7) p2<|.tup gD):=s1.trans<|aH ka _;have e1:(upd (upd H p<|.tup p7) p2<|.tup gD) p=some (.tup p7):=by rw[ax Zz,aw]
 have e2:(upd (upd H p<|.tup p7) p2<|.tup gD) p2=some (.tup gD):=aw;generalize upd (upd H p<|.tup p7) p2 (.tup gD)=H2 at s2 e1 e2 ⊢;refine aW 4 nd<|bz G hr<|aq<|ae 0<|aq<|ae 1<|az ⟨a,ns,k,rfl,s2.seq hS,h0,λb=>?_⟩;show Run _ _ _ [some<|.ref a,some<|.int k,some<|.ref p,some<|.ref p2,some<|.int b,none,none,none] H2;refine Nm True True (λR qq=>?_) (λ_=>?_) λ_=>bb ?_
 ·refine uq (xI<|b8 i5<|aX cW<|ae 4<|aC ⟨_,_,rfl,rfl,(by show(0:Int) < 2;decide),aC ⟨rfl,_,rfl,?_⟩⟩);refine j9 (λc=>?_) (λc=>qq false (λz=>nomatch z) λ_=>trivial);exact xJ<|b8 Mx<|ae 4<|aX Mr<|aC<|aC ⟨_,_,rfl,rfl,⟨by decide,by decide,by decide⟩,_,_,rfl,rfl,_,rfl,qq _ (λ_=>trivial) λ_=>trivial⟩
 ·exact bN<|aX i4<|ae 4<|aC ⟨_,_,rfl,rfl,⟨by decide,by decide⟩,q _ _ s2⟩
 refine aW 5 nd<|aC ?_;refine nw T.range<|aC ⟨60,rfl,by decide,by decide,nB (n:=60) (λ_ σ H3=>H3=H2/\∃(x:Int) (u v:Option V),σ=[some<|.ref a,some<|.int k,some<|.ref p,some<|.ref p2,some<|.int b,some<|.int x,u,v]) ⟨rfl,0,_,_,rfl⟩ ?_ ?_⟩
 ·rintro i σ H3 hi ⟨rfl,x,u,v,rfl⟩;have i9:0<=(0+(i:Int)) % 9:=Ca _ (by decide);obtain⟨m1,f1,g1,g2⟩:=Zw (i:=(0+(i:Int)) % 8) (Ca _<|by decide) (Ci _<|by decide);obtain⟨m2,f2,g3,g4⟩:=Zx (i:=(0+(i:Int)) % 8) (Ca _<|by decide) (Ci _<|by decide);refine a8 6 nd ?_;refine aW 7 nd<|aX gg<|aX gg<|aX cW<|bz G hr<|aq<|ae 0<|aq<|aX gg<|ae 1<|aX cW<|ae 6<|aC ?_;refine⟨_,_,rfl,rfl,(by show(0:Int) < 9;decide),_,_,rfl,rfl,az ⟨a,ns,_,rfl,s2.seq hS,?_,λc=>?_⟩⟩
  ·show 0<=k+(0+(i:Int)) % 9;omega
  refine aX Mr (aC<|aC ⟨_,_,rfl,rfl,⟨by decide,by decide,by decide⟩,_,_,rfl,rfl,(by show(0:Int) < 10 ^ (18:Int).toNat;decide),aC ⟨_,_,rfl,rfl,?_⟩⟩);refine aX xu<|ae 6<|ae 6 ?_;refine⟨_,_,rfl,rfl,.inl ⟨by omega,by omega⟩,_,_,rfl,rfl,?_⟩;refine aW 5 nd (aX gg<|aX xu<|ae 5<|aC ⟨_,_,rfl,rfl,.inr ⟨by decide,by decide⟩,?_⟩);refine aX cW (aX cW<|aX xu<|ae 7<|aY bK<|ae 2<|aX cW<|ae 6<|aC ⟨_,_,rfl,rfl,(by show(0:Int) < 8;decide),p,_,_,_,rfl,rfl,aP.of e1,f1,_,_,rfl,rfl,.inr ⟨by omega,by omega⟩,?_⟩);refine aY bK (ae 3<|aX cW<|ae 6<|aC ⟨_,_,rfl,rfl,(by show(0:Int) < 8;decide),p2,_,_,_,rfl,rfl,aP.of e2,f2,_,_,rfl,rfl,g3,aC ⟨_,_,rfl,rfl,(by show(0:Int) < 7919;decide),_,_,rfl,rfl,?_⟩⟩);exact bb ⟨rfl,_,_,_,rfl⟩
 ·rintro σ H3 ⟨rfl,x,u,v,rfl⟩;exact bN<|ae 5<|q x _ s2
abbrev NN:Ñ:=["_law_stem","_law_many","_law_signs","_law_size","_law_spot","_law_names_here","_law_v","_law_name","_law_k","_law_turn"]
def iJ:ao NN ["_law_stem","_law_many"] (aT ER):=⟨rfl,rfl,rfl,by decide +kernel,rfl,by decide +kernel,by decide +kernel⟩
def ZA{f:Addr}{fd:FuncData}(F:bv K "_law_names" "_law_names" ER f fd)(T:Txt mg):aE P w K mg base bD 1 f fd ["_law_stem","_law_many"] E5:=by
 refine F.gb iJ (λvs H Q E h=>?_) λb0 H vs Q E hr h=>?_
 ·obtain⟨b,m,rfl,_⟩:=h;rfl
 obtain⟨b,m,rfl,m0,m1,q⟩:=h;have nd:=iJ.nd;have s0:0<=b % 8:=Ca _ (by decide);have s1:b % 8 < 8:=Ci _ (by decide);show Run _ _ _ [some<|.int b,some<|.int m,none,none,none,none,none,none,none,none] H;refine aW 2 nd<|jc ?_;refine aW 3 nd (aX gg<|aC<|aX cW<|ae 0<|aC ⟨_,_,rfl,rfl,(by show(0:Int) < 8;decide),_,_,rfl,rfl,?_⟩);refine aW 4 nd (aX cW<|aX i4<|ae 0<|aC ⟨_,_,rfl,rfl,⟨by decide,by decide⟩,ae 3 ⟨_,_,rfl,rfl,(by show 0 < 1+b % 8;omega),?_⟩⟩);refine aW 5 nd (cC<|az ⟨(by show 0<=sizeLine;decide),λl hl=>?_⟩);show Run _ _ _ [some<|.int b,some<|.int m,some<|.str lets,some<|.int<|1+b % 8,some<|.int<|b / 8 % (1+b % 8),some<|.ref l,none,none,none,none] _;have spE:b / 8 % (1+b % 8)=b / 8 % (1+b % 8):=rfl;refine nw T.range<|ae 1 ⟨m,rfl,by omega,by omega,nB (n:=m.toNat) (λi σ H3=>H3=upd H l (Ls<|namesOf b i)/\∃ u1 u2 u3 u4,σ=[some<|.int b,some<|.int m,some<|.str lets,some<|.int<|1+b % 8,some<|.int<|b / 8 % (1+b % 8),some<|.ref l,u1,u2,u3,u4]) ⟨rfl,_,_,_,_,rfl⟩ ?_ ?_⟩
 ·rintro i σ H3 hi ⟨rfl,u1,u2,u3,u4,rfl⟩;refine a8 6 nd ?_;refine aW 7 nd<|jc ?_;refine nw T.range<|ae 3 ⟨_,rfl,by omega,by omega,nB (n:=(1+b % 8).toNat) (λj σ H4=>H4=upd H l (Ls<|namesOf b i)/\∃(u3 u4:Option V),σ=[some<|.int b,some<|.int m,some<|.str lets,some<|.int<|1+b % 8,some<|.int<|b / 8 % (1+b % 8),some<|.ref l,some<|.int<|0+(i:Int),some<|.str<|nm b (b / 8 % (1+b % 8)) i j,u3,u4]) ⟨rfl,_,_,rfl⟩ ?_ ?_⟩
  ·rintro j σ H4 hj ⟨rfl,v3,v4,rfl⟩;have t0:0<=b / 7 % 5:=Ca _ (by decide);have t1:b / 7 % 5 < 5:=Ci _ (by decide);have nl:(nm b (b / 8 % (1+b % 8)) i j).length=j:=by
    have:=BZ List.length<|x9 b (b / 8 % (1+b % 8)) i j;show(nm b (b / 8 % (1+b % 8)) i j).cps.size=j
    simpa using this
   refine a8 8 nd ?_;refine aW 9 nd (aX gg<|aX i4<|ae 0<|aC ⟨_,_,rfl,rfl,⟨by decide,by decide⟩,aX xu<|ae 8<|aX cW<|aX i4<|ae 0<|aC ⟨_,_,rfl,rfl,⟨by decide,by decide⟩,aC ⟨_,_,rfl,rfl,(by show(0:Int) < 5;decide),?_⟩⟩⟩);refine⟨_,_,rfl,rfl,.inr ⟨by omega,by omega⟩,_,_,rfl,rfl,?_⟩;refine Ow ((0+(j:Int))=b / 8 % (1+b % 8)) (¬(0+(j:Int))=b / 8 % (1+b % 8)) (λσ' H'=>H'=upd H l (Ls<|namesOf b i)/\σ'=[some<|.int b,some<|.int m,some<|.str lets,some<|.int<|1+b % 8,some<|.int<|b / 8 % (1+b % 8),some<|.ref l,some<|.int<|0+(i:Int),some<|.str<|nm b (b / 8 % (1+b % 8)) i j,some<|.int<|0+(j:Int),some<|.int<|turn b (b / 8 % (1+b % 8)) i j]) (λR qq=>?_) (λhc=>?_) (λhc=>bb ⟨rfl,?_⟩) ?_
   ·refine b8 i5<|ae 8<|ae 4 ⟨rfl,_,rfl,?_⟩
    by_cases hc:(0+(j:Int))=b / 8 % (1+b % 8)
    ·rw[BW (show V.int (0+(j:Int))=V.int (b / 8 % (1+b % 8)) by rw[hc])];exact qq true (λ_=>hc) λh=>by cases h
    ·rw[BR λh=>hc<|V.int.inj h];exact qq false (λh=>by cases h) λ_=>hc
   ·refine aW 9 nd<|aX gg<|ae 9<|ae 6 ⟨_,_,rfl,rfl,bb ⟨rfl,?_⟩⟩;have e:b / 64+(0+(j:Int)) * (b / 7 % 5)+(0+(i:Int))=turn b (b / 8 % (1+b % 8)) i j:=by
     unfold turn;rw[BL (by omega),Ek,Ek]
    rw[<- e];rfl
   ·have e:b / 64+(0+(j:Int)) * (b / 7 % 5)=turn b (b / 8 % (1+b % 8)) i j:=by
     unfold turn;rw[BK (by omega),Ek,Int.add_zero]
    rw[<- e];rfl
   ·rintro σ' H' ⟨rfl,rfl⟩;refine aW 7 nd<|aX V1<|ae 7<|aY MQ<|ae 2<|aX cW<|ae 9<|aC ⟨_,_,rfl,rfl,(by show(0:Int) < 36;decide),lets,_,sgn<|turn b (b / 8 % (1+b % 8)) i j,rfl,rfl,by decide +kernel,EA _,_,_,rfl,rfl,small (by show(nm b (b / 8 % (1+b % 8)) i j).length+1<=100000;omega),bb ⟨rfl,_,_,rfl⟩⟩
  ·rintro σ H4 ⟨rfl,v3,v4,rfl⟩;refine Ow (b % 3=2) (¬ b % 3=2) (λσ' H'=>H'=upd H l (Ls<|namesOf b i)/\σ'=[some<|.int b,some<|.int m,some<|.str lets,some<|.int<|1+b % 8,some<|.int<|b / 8 % (1+b % 8),some<|.ref l,some<|.int<|0+(i:Int),some<|.str<|aQ b i,v3,v4]) (λR qq=>?_) (λhc=>?_) (λhc=>bb ⟨rfl,?_⟩) ?_
   ·refine b8 i5<|aX cW<|ae 0<|aC ⟨_,_,rfl,rfl,(by show(0:Int) < 3;decide),aC ⟨rfl,_,rfl,?_⟩⟩
    by_cases hc:b % 3=2
    ·rw[BW (show V.int (b % 3)=V.int 2 by rw[hc])];exact qq true (λ_=>hc) λh=>by cases h
    ·rw[BR λh=>hc<|V.int.inj h];exact qq false (λh=>by cases h) λ_=>hc
   ·have e0:0<=(0+(i:Int)) % 8:=Ca _ (by decide);have e1:(0+(i:Int)) % 8 < 8:=Ci _ (by decide);refine aW 7 nd (aX W4<|aY MQ<|ae 2<|aX cW<|aX gg<|aX i4<|ae 0<|aC ⟨_,_,rfl,rfl,⟨by decide,by decide⟩,aX i4<|ae 6<|aC ⟨_,_,rfl,rfl,⟨by decide,by decide⟩,_,_,rfl,rfl,aC ⟨_,_,rfl,rfl,(by show(0:Int) < 36;decide),lets,_,sgn<|b / 64+(0+(i:Int)) / 8,rfl,rfl,by decide +kernel,EA _,?_⟩⟩⟩);refine aX gg (aC<|aX cW<|ae 6<|aC ⟨_,_,rfl,rfl,(by show(0:Int) < 8;decide),_,_,rfl,rfl,?_⟩);refine⟨_,_,rfl,rfl,by omega,by omega,?_,bb ⟨rfl,?_⟩⟩
    ·show 1 * _<=_;omega
    ·have e:Txt.mul ⟨#[sgn<|b / 64+(0+(i:Int)) / 8]⟩ (1+(0+(i:Int)) % 8)=aQ b i:=by
      unfold aQ;rw[BL hc,Ek]
     rw[<- e];rfl
   ·have e:nm b (b / 8 % (1+b % 8)) i (1+b % 8).toNat=aQ b i:=by
     unfold aQ;rw[BK hc]
    rw[<- e]
   ·rintro σ' H' ⟨rfl,rfl⟩;refine fX<|jj<|ae 5 ⟨l,rfl,⟨_,aw⟩,ae 7 ⟨_,aw,?_,?_⟩⟩
    ·rw[Aa,EB];exact bS<|by omega
    ·rw[zX];refine bb ⟨?_,_,_,_,_,rfl⟩;rw[yb];exact OW
 ·rintro σ H3 ⟨rfl,u1,u2,u3,u4,rfl⟩;exact bN<|ae 5<|q l _ (aH hl _) hl aw
def ZC{H:Hp}{d:Addr}{kvs:List (Key×V)}(h:H d=some (.dK kvs)):o9 K "dict" (.ref d) H:=Or.inr<|Or.inr<|Or.inl ⟨rfl,Or.inl ⟨kvs,h⟩⟩
abbrev NS:Ñ:=["_law_rows","_law_seats_here","_law_r","_law_place"]
def iK:ao NS ["_law_rows"] (aT EV):=⟨rfl,rfl,rfl,by decide +kernel,rfl,by decide +kernel,by decide +kernel⟩
def ZD{f:Addr}{fd:FuncData}(F:bv K "_law_seats" "_law_seats" EV f fd)(T:Txt mg):aE P w K mg base bD 1 f fd ["_law_rows"] E6:=by
 refine F.gb iK (λvs H Q E h=>?_) λb0 H vs Q E hr h=>?_
 ·obtain⟨R,as,n,rfl,_⟩:=h;rfl
 obtain⟨R,as,n,rfl,hR,hn,ht,q⟩:=h;have nd:=iK.nd;have bF:=hR.len;show Run _ _ _ [some<|.ref R,none,none,none] H;refine aW 1 nd<|D6 λd hd=>?_;refine nw T.range (cF dR T.len DX<|aq<|ae 0<|az ⟨R,_,rfl,.inl<|ak.of<|aH hd _ _ _ hR.lst,_,rfl,by omega,by rw[Aa];omega,?_⟩);rw[Aa,bF,Bo];refine nB (λr σ H3=>∃ kvs ks A u1 u2,a9 H H3 d (bp<|n.take r) kvs ks A/\σ=[some<|.ref R,some<|.ref d,u1,u2]) ⟨_,_,_,_,_,a9.start hd,rfl⟩ ?_ ?_
 ·rintro r σ H3 hi ⟨kvs,ks,A',u1,u2,S,rfl⟩;rw[Ek];refine a8 2 nd ?_;obtain⟨a,ea,dY,et,el,er⟩:=(hR.same S.same).at hi;refine nw T.range<|cF dR T.len DX<|aq<|aY bK<|aY dq<|ae 0<|ae 2 ⟨R,_,_,.ref a.1,rfl,rfl,ak.of<|S.same _ _ hR.lst,dY,aC ⟨a.1,_,_,.ref a.2,rfl,rfl,aP.of et,rfl,az ⟨a.2,_,rfl,.inl<|ak.of el,_,rfl,by omega,?_,?_⟩⟩⟩
  ·have:(row n r).length<=1000:=by
    have h1:(row n r).length<=(ag n).length:=by
     exact gB n r
    omega
   rw[Aa];omega
  rw[Aa,Bo];refine nB (λp σ H4=>∃ kvs ks A u2,a9 H H4 d (bp (n.take r)++bu r ((row n r).take p) 0) kvs ks A/\σ=[some<|.ref R,some<|.ref d,some<|.int (r:Int),u2]) ⟨kvs,ks,A',_,by simpa[bu]using S,rfl⟩ ?_ ?_
  ·rintro p σ H4 hp ⟨kvs,ks,A',u2,S,rfl⟩;rw[Ek];refine a8 3 nd ?_;obtain⟨a,ea,dY,et,el,er⟩:=(hR.same S.same).at hi;have hz:(row n r)[p]?=some (row n r)[p]:=Ab hp;generalize (row n r)[p]=z at hz;have next:bp (n.take r)++bu r ((row n r).take<|p+1) 0=(bp (n.take r)++bu r ((row n r).take p) 0)++[(z,(r,p))]:=by
    rw[pS hz,At]
   have hlen:kvs.length < sizeLine:=by
    have h1:ks.length<=1000:=by
     refine Bq (bg (b:=ag n) S.nodup λy hy=>?_) ht;have h2:=(S.mem y).mp hy;cases hA:A' y with
     | none=>rw[hA]at h2;cases h2
     | some pr=>
      obtain⟨a2,lq⟩:=pr;have h3:=S.some' y a2 lq hA;unfold bJ at h3;obtain⟨x,hx⟩:=Fv _ h3;obtain⟨⟨y2,e2⟩,hm,_⟩:=Ap.mp hx;rw[Ba,DQ]at hm;obtain⟨hm,rfl⟩:=hm;have:(y2,e2)∈bp n:=by
       rcases Al.mp hm with hm | hm
       ·have q1:=aV.mp hm;refine aV.mpr ?_;have q2:=cz q1;unfold aK row at q1 ⊢;rw[Bg]at q2;rwa[Ds<|by omega]at q1
       ·have q1:=bI.mp hm;refine aV.mpr ?_;unfold aK;rw[q1.1];have q3:=q1.2.2;rw[RD]at q3;have q4:=(Ac.mp q3).1;rw[Bg]at q4;rwa[Ds<|by omega]at q3
      exact dG<|aV.mp this
    have h2:=BZ List.length S.keys;rw[Aa,Aa]at h2;exact bS<|by omega
   refine fX<|jj<|D5 PySem.F.plainAttrs_dict PySem.F.slot_dict_setdefault PySem.F.type_dict_setdefault YV<|ae 1 ⟨ZC S.dict,aY dq<|aY bK<|aY dq<|ae 0<|ae 2 ⟨R,_,_,.ref a.1,rfl,rfl,ak.of<|S.same _ _ hR.lst,dY,aC ⟨a.1,_,_,.ref a.2,rfl,rfl,aP.of et,rfl,ae 3 ⟨a.2,_,_,.str z,rfl,rfl,ak.of el,xZ hz,?_⟩⟩⟩⟩;refine cC (az ⟨(by show 0<=sizeLine;decide),λl0 lZ=>?_⟩);have iH:d≠l0:=bq S.dict lZ;refine⟨d,kvs,Sum.inr z,.ref l0,rfl,rfl,by rw[ax iH];exact S.dict,hlen,?_⟩;cases hA:A' z with
   | some pr=>
    obtain⟨a2,lq⟩:=pr;obtain⟨q1,q2,q3,q4⟩:=S.at' z a2 lq hA;have x6:a2≠l0:=bq q3 lZ;refine .inl ⟨.ref a2,by rw[S.val z,hA];rfl,a2,rfl,⟨_,by rw[ax x6];exact q3⟩,?_⟩;refine dW (aq<|ae 2<|aq<|ae 3<|az ⟨(by show 2<=sizeLine;decide),λt li=>?_⟩);have x8:a2≠t:=λe=>by rw[<- e,ax x6,q3]at li;cases li
    refine⟨lq.map V.ref,by rw[ax x8,ax x6];exact q3,?_,?_⟩
    ·rw[Aa,q4.length];have h1:(bJ (bp (n.take r)++bu r ((row n r).take p) 0) z).length<=100000:=by
      unfold bJ;rw[Aa];refine Bq (Dj _ _) ?_;rw[Ad];have h2:(bp<|n.take r).length<=1000:=by
       have:=BZ List.length<|ll (n.take r) 0;rw[Aa]at this;unfold bp;rw[this];exact Bq (OO n r) ht
      have h3:(bu r ((row n r).take p) 0).length<=1000:=by
       unfold bu;rw[Aa,List.length_zipIdx,Bg];have h1:(row n r).length<=(ag n).length:=by
        exact gB n r
       omega
      omega
     exact bS h1
    ·refine bb ⟨kvs,ks,(λy=>if y=z then some (a2,lq++[t])else A' y),_,?_,rfl⟩;rw[next];exact S.old (e:=(r,p)) hA lZ li
   | none=>
    refine .inr ⟨by rw[S.val z,hA];rfl,l0,rfl,⟨_,by rw[ax iH.symm];exact aw⟩,?_⟩;refine dW (aq<|ae 2<|aq<|ae 3<|az ⟨(by show 2<=sizeLine;decide),λt li=>?_⟩);have pR:l0≠t:=λe=>by rw[<- e,ax iH.symm,aw]at li;cases li
    refine⟨[],by rw[ax pR,ax iH.symm,aw],by show 0 < sizeLine;decide,?_⟩;refine bb ⟨putK kvs (Sum.inr z)<|.ref l0,ks++[z],(λy=>if y=z then some (l0,[t])else A' y),_,?_,rfl⟩;rw[next];exact S.new (e:=(r,p)) hA lZ li
  ·rintro σ H4 ⟨kvs,ks,A',u2,S,rfl⟩;refine bb ⟨kvs,ks,A',_,_,?_,rfl⟩;rw[rY hi];rwa[Br]at S
 ·rintro σ H3 ⟨kvs,ks,A',u1,u2,S,rfl⟩;rw[Br]at S;exact bN<|ae 1<|q d ks H3 S.same S.free S.whole
abbrev NO:Ñ:=["_law_rows","_law_seats_here","_law_end","_law_pair"]
def iL:ao NO ["_law_rows","_law_seats_here","_law_end"] (aT EW):=⟨rfl,rfl,rfl,by decide +kernel,rfl,by decide +kernel,by decide +kernel⟩
theorem ZE{f:Addr}{fd:FuncData}(F:bv K "_law_other" "_law_other" EW f fd)(T:Txt mg):aE P w K mg base bD 1 f fd ["_law_rows","_law_seats_here","_law_end"] E8:=by
 refine F.gb iL (λvs H Q E h=>?_) λb0 H vs Q E hr h=>?_
 ·obtain⟨R,d,t,as,n,ks,e,rfl,_⟩:=h;rfl
 obtain⟨R,d,t,as,n,ks,e,rfl,hR,hS,hT,ht,he,q⟩:=h;have nd:=iL.nd;have hu:=hr.ig;obtain⟨z,hz⟩:=af.mp he;have bd:=cz hz;obtain⟨a,ea,dY,et,el,er⟩:=hR.at bd;obtain⟨kvs,h1,h2,h3⟩:=hS.dict;obtain⟨pa,ts,v1,v2,v3⟩:=h3 z<|dG hz;obtain⟨x,y,hp,FA,rQ⟩:=pQ hT hz;rw[hp]at v3;cases v3 with
 | cons x1 v3=>
 cases v3 with
 | cons y1 v3=>
 cases v3;rename_i tx ty;show Run _ _ _ [some<|.ref R,some<|.ref d,some<|.ref t,none] H;have jo:=hr.u1;refine aW 3 nd<|jm jo<|ae 1<|aY dq<|aY bK<|aY dq<|ae 0<|aY bK<|ae 2<|aC ⟨t,_,_,.int (e.1:Int),rfl,rfl,aP.of ht,rfl,R,_,_,.ref a.1,rfl,rfl,ak.of hR.lst,dY,aC ⟨a.1,_,_,.ref a.2,rfl,rfl,aP.of et,rfl,?_⟩⟩;refine aY bK (ae 2<|aC ⟨t,_,_,.int (e.2:Int),rfl,rfl,aP.of ht,rfl,a.2,_,_,.str z,rfl,rfl,ak.of el,xZ hz,d,.ref pa,rfl,by rw[<- v1];exact bE.k (k:=Sum.inr z) h1,?_⟩);show Run _ _ _ [some<|.ref R,some<|.ref d,some<|.ref t,some<|.ref pa] H;refine bN<|aY dq<|ae 3<|nr Oz T.uL TX<|aq<|xG (YN hu)<|aY dq<|ae 3<|aC ⟨pa,_,_,.ref tx,rfl,rfl,ak.of v2,rfl,ae 2 ⟨1,_,by decide,Zh x1 ht,?_⟩⟩
 by_cases c:x=e
 ·rw[BW c];refine az ⟨_,rfl,pa,[.ref tx,.ref ty],1,.ref ty,rfl,rfl,ak.of v2,rfl,q ty ?_⟩;have e1:other n e=y:=by unfold other;simp only[hz,hp];simp[c]
  rw[e1];exact y1
 ·rw[BR c];refine az ⟨_,rfl,pa,[.ref tx,.ref ty],0,.ref tx,rfl,rfl,ak.of v2,rfl,q tx ?_⟩;have e1:other n e=x:=by unfold other;simp only[hz,hp];simp[c]
  rw[e1];exact x1
abbrev NT:Ñ:=["_law_rows","_law_seats_here","_law_end","_law_turn","_law_other_here"]
def kj:ao NT ["_law_rows","_law_seats_here","_law_end","_law_turn"] (aT EX):=⟨rfl,rfl,rfl,by decide +kernel,rfl,by decide +kernel,by decide +kernel⟩
def ZF{f:Addr}{fd:FuncData}(F:bv K "_law_step" "_law_step" EX f fd)(T:Txt mg)(G:aS P w K mg base 1 "_law_other" ["_law_rows","_law_seats_here","_law_end"] E8) :
  aE P w K mg base bD 2 f fd ["_law_rows","_law_seats_here","_law_end","_law_turn"] E9:=by
 refine F.gb kj (λvs H Q E h=>?_) λb0 H vs Q E hr h=>?_
 ·obtain⟨R,d,t,as,n,ks,e,rfl,_⟩:=h;rfl
 obtain⟨R,d,t,as,n,ks,e,rfl,hR,hS,hT,ht,he,q⟩:=h;have nd:=kj.nd;have ho:=cX hT he;obtain⟨z,hz⟩:=af.mp ho;have bd:=cz hz;have o7:=f9 hz;obtain⟨a,ea,dY,et,el,er⟩:=hR.at bd;show Run _ _ _ [some<|.ref R,some<|.ref d,some<|.ref t,some<|.int 1,none] H;refine aW 4 nd<|bz G hr<|aq<|ae 0<|aq<|ae 1<|aq<|ae 2<|az ⟨R,d,t,as,n,ks,e,rfl,hR,hS,hT,ht,he,λu hu=>?_⟩;show Run _ _ _ [some<|.ref R,some<|.ref d,some<|.ref t,some<|.int 1,some<|.ref u] H;refine bN<|dW<|aq<|aY bK<|ae 4<|aC ⟨u,_,_,.int ((other n e).1:Int),rfl,rfl,aP.of hu,rfl,?_⟩;refine aq<|aX cW<|aX gg<|aY bK<|ae 4<|aC ⟨u,_,_,.int ((other n e).2:Int),rfl,rfl,aP.of hu,rfl,ae 3 ⟨_,_,rfl,rfl,?_⟩⟩;refine cF dR T.len DX<|aq<|aY bK<|aY dq<|ae 0<|aY bK<|ae 4<|aC ⟨u,_,_,.int ((other n e).1:Int),rfl,rfl,aP.of hu,rfl,R,_,_,.ref a.1,rfl,rfl,ak.of hR.lst,dY,aC ⟨a.1,_,_,.ref a.2,rfl,rfl,aP.of et,rfl,az ⟨a.2,_,rfl,.inl<|ak.of el,?_⟩⟩⟩;rw[Aa];refine⟨_,_,rfl,rfl,by omega,az ⟨(by show 2<=sizeLine;decide),λp hp=>?_⟩⟩;refine q p _ (aH hp _) hp ?_;rw[aw];unfold Nt.step Nt.left;show some (HO.tup [.int ((other n e).1:Int),.int<|(((other n e).2:Int)+1) % ((row n (other n e).1).length:Int)])=some (HO.tup [.int ((other n e).1:Int),.int ((((other n e).2+1) % (row n (other n e).1).length:Nat):Int)]);rw[Int.natCast_emod];rfl
abbrev NF:Ñ:=["_law_rows","_law_seats_here","_law_end","_law_face_here","_law_here"]
def km:ao NF ["_law_rows","_law_seats_here","_law_end"] (aT EZ):=⟨rfl,rfl,rfl,by decide +kernel,rfl,by decide +kernel,by decide +kernel⟩
def gn(n:Net)(e:Nt.End)(j:Nat):List Nt.End:=(List.range j).map λi=>it (step n) i e
def ZG(n:Net)(e:Nt.End)(j:Nat):gn n e (j+1)=gn n e j++[it (step n) j e]:=by
 unfold gn;rw[Du,Ag];rfl
def ZH{f:Addr}{fd:FuncData}(F:bv K "_law_face" "_law_face" EZ f fd)(T:Txt mg)(G:aS P w K mg base 2 "_law_step" ["_law_rows","_law_seats_here","_law_end","_law_turn"] E9) :
  aE P w K mg base bD 3 f fd ["_law_rows","_law_seats_here","_law_end"] E':=by
 refine F.gb km (λvs H Q E h=>?_) λb0 H vs Q E hr h=>?_
 ·obtain⟨R,d,t,as,n,ks,e,rfl,_⟩:=h;rfl
 obtain⟨R,d,t,as,n,ks,e,rfl,hR,hS,hT,ht,he,hb,q⟩:=h;have nd:=km.nd;have hu:=hr.ig;obtain⟨k,k0,k1,k2⟩:=D7 (f:=step n) (S:=ends n) (λa ha=>rX hT ha) (λa ha b hb=>OM hT ha hb) he;show Run _ _ _ [some<|.ref R,some<|.ref d,some<|.ref t,none,none] H;refine aW 3 nd (cC<|aq<|ae 2<|az ⟨(by show 1<=sizeLine;decide),λl hl=>?_⟩);have g1:=aH hl<|.lst [.ref t];refine aW 4 nd<|bz G hr<|aq<|ae 0<|aq<|ae 1<|aq<|ae 2<|aq<|aC<|az ⟨R,d,t,as,n,ks,e,rfl,hR.same g1,hS.same g1,hT,g1 _ _ ht,he,λu H1 s1 nu eu=>?_⟩;show Run _ _ _ [some<|.ref R,some<|.ref d,some<|.ref t,some<|.ref l,some<|.ref u] H1;refine xV (λm σ H2=>∃(j:Nat) (ts:List Addr) (u:Addr),m=k - j/\0 < j/\j<=k/\ah H H2/\H2 l=some (.lst<|ts.map V.ref)/\Pd H2 ts (gn n e j)/\H2 u=some (Tp<|it (step n) j e)/\(∀ i,0 < i->i < j->it (step n) i e≠e)/\σ=[some<|.ref R,some<|.ref d,some<|.ref t,some<|.ref l,some<|.ref u])
  (m0:=k - 1) ⟨1,[t],u,rfl,Fm,k0,g1.trans s1,s1 _ _ aw,.cons (s1 _ _<|g1 _ _ ht) .nil,eu,λi h1 h2=>by omega,rfl⟩ ?_
 rintro m σ H2 ⟨j,ts,u,rfl,j0,j1,sH,el,ep,eu,hf,rfl⟩;refine b8 (nO hu) (ae 4<|ae 2 ⟨1,_,by decide,Zi eu<|sH _ _ ht,_,rfl,?_⟩);have pl:=ep.length;have ol:(gn n e j).length=j:=by unfold gn;simp
 by_cases c:it (step n) j e=e
 ·rw[BW c];refine cO (bN<|ae 3<|q l ts (gn n e j) H2 sH hl el ep ⟨by omega,by omega,λi hi=>?_,by rw[ol];exact c,λi h1 h2=>hf i h1<|by omega⟩);unfold gn;rw[Aj,Eh<|by omega];rfl
 ·rw[BR c];have jk:j < k:=by
   rcases Do j k with h | h
   ·exact h
   ·have:j=k:=by omega
    subst this;exact absurd k2 c
  refine cP (fX<|jj<|ae 3 ⟨l,rfl,⟨_,el⟩,ae 4 ⟨_,el,by rw[Aa];exact bS (by omega),?_⟩⟩);have s2:ah H (upd H2 l<|.lst<|ts.map V.ref++[.ref u]):=dX sH hl;have kt:∀ b f,H2 b=some (Tp f)->(upd H2 l<|.lst<|ts.map V.ref++[.ref u]) b=some (Tp f):=λb f h=>by
   rw[ax<|uH h el];exact h
  have OX:=kt u _ eu;refine aW 4 nd<|bz G hr<|aq<|ae 0<|aq<|ae 1<|aq<|ae 4<|aq<|aC<|az ⟨R,d,u,as,n,ks,it (step n) j e,rfl,hR.same s2,hS.same s2,hT,OX,ki (λa ha=>rX hT ha) he j,λv H3 s3 nv ev=>?_⟩;refine bb ⟨k - (j+1),by omega,j+1,ts++[u],v,rfl,Gf _,jk,s2.trans s3,?_,?_,ev,λi h1 h2=>?_,rfl⟩
  ·rw[Ag];exact s3 _ _ aw
  ·rw[ZG];exact(ep.keep λb f h=>s3 _ _<|kt b f h).append<|.cons (s3 _ _ OX) .nil
  ·rcases Nat.lt_succ_iff_lt_or_eq.mp h2 with h | h
   ·exact hf i h1 h
   ·rw[h];exact c
end
end E7
namespace Nt
open PySem L2
def Full(n:Net):Prop:=(∃ nm,n=[(nm,[])])\/(n≠[]/\∀ i,i < n.length->row n i≠[])
def eS(n:Net)(c:End):Prop:=c.1 < n.length/\c.2 < max 1 (row n c.1).length
def ins(n:Net)(c:End)(z:Str):Net:=n.modify c.1 λr=>(r.1,r.2.take c.2++z :: r.2.drop c.2)
def gT(n:Net)(c:End)(z:Str):(ins n c z).length=n.length:=by unfold ins;rw[List.length_modify]
theorem FC(n:Net)(c:End)(z:Str):(ins n c z).map (·.1)=n.map (·.1):=by
 unfold ins;refine Dz λi=>?_;rw[Aj,Aj,Fn];cases n[i]? with
 | none=>rfl
 | some r=>by_cases h:c.1=i <;> simp[h]
def se(n:Net)(c:End)(z:Str)(i:Nat)(hc:c.1 < n.length):row (ins n c z) i=if c.1=i then(row n i).take c.2++z :: (row n i).drop c.2 else row n i:=by
 unfold row ins;rw[Fn]
 by_cases h:c.1=i
 ·subst h;rw[Ab hc];simp
 ·rw[BK h];cases n[i]? with
  | none=>simp[h]
  | some r=>simp[h]
theorem lv:∀(n:Net) (c:End) (z:Str),c.1 < n.length->(ag<|ins n c z).Perm (z :: ag n)
 | [],c,z,h=>by simp at h
 | a :: n,(0,p),z,h=>by
  unfold ins ag;simp only[List.modify_zero_cons,Cc];have:(a.2.take p++z :: a.2.drop p).Perm (z :: a.2):=by
   refine List.perm_middle.trans ?_;rw[Dk]
  exact this.append_right _
 | a :: n,(i+1,p),z,h=>by
  have ih:=lv n (i,p) z (by simpa using h);unfold ins ag at ih ⊢;simp only[List.modify_succ_cons,Cc];refine(ih.append_left a.2).trans ?_;exact List.perm_middle
def FD{n:Net}{c:End}{z:Str}(F:Full n)(hc:c.1 < n.length):n.length=1\/(∀ i,i < n.length->row n i≠[])->(∀ i,i < (ins n c z).length->row (ins n c z) i≠[])/\ins n c z≠[]:=by
 intro h;have hl:=gT n c z;refine⟨λi hi=>?_,λe=>?_⟩
 ·rw[se n c z i hc]
  by_cases q:c.1=i
  ·rw[BL q];simp
  ·rw[BK q]
   rcases h with h | h
   ·rw[hl]at hi;omega
   ·exact h i<|by omega
 ·rw[e]at hl;simp at hl;omega
def Full.some{n:Net}(F:Full n):n≠[]:=by
 rcases F with ⟨nm,rfl⟩ | h
 ·simp
 ·exact h.1
def Full.either{n:Net}(F:Full n):n.length=1\/(∀ i,i < n.length->row n i≠[]):=by
 rcases F with ⟨nm,rfl⟩ | h
 ·exact .inl rfl
 ·exact .inr h.2
def Full.cI{n:Net}(F:Full n)(h0:row n 0≠[]){c:End}(hc:eS n c):c∈ends n:=by
 rcases F with ⟨nm,rfl⟩ | h
 ·exact absurd rfl h0
 ·have:=h.2 c.1 hc.1;have hp:0 < (row n c.1).length:=Dq.mpr this;have bd:c.2 < (row n c.1).length:=by
   have:=hc.2;omega
  exact af.mpr<|xY bd
def ZI{n:Net}{e:End}(h:e∈ends n):eS n e:=by
 obtain⟨z,h⟩:=af.mp h;have:=f9 h;exact⟨cz h,by omega⟩
def p8(H H':Hp)(bad:List Addr):Prop:=∀ b o,H b=some o->b∉bad->H' b=some o
def OY(zs:Ñ)(i:Nat)(z:Str):insertAt (zs.map V.str) i (.str z)=(zs.take i++z :: zs.drop i).map V.str:=by
 unfold insertAt;rw[Ag,Bj,List.map_take,UW]
theorem ai.ins{H:Hp}{R:Addr}{as:Ï}{n:Net}(h:ai H R as n){c:End}{z:Str}{a:Addr×Addr}(ha:as[c.1]?=some a)(hc:c.1 < n.length) :
  ai (upd H a.2<|Ls<|(row n c.1).take c.2++z :: (row n c.1).drop c.2) R as (Nt.ins n c z):=by
 have q0:=h.tup c.1 a n[c.1] ha<|Ab hc;have ZJ:R≠a.2:=by
  intro e;have h1:=h.lst;rw[e,q0.2]at h1;have h2:=HO.lst.inj<|Option.some.inj h1;have h3:=BZ List.length h2;cases hm:n[c.1].2 with
  | nil=>
   rw[hm]at h2;have:as.map (λa=>V.ref a.1)=[]:=h2.symm;have hl:=BZ List.length this;rw[Aa,h.len]at hl;rw[hl]at hc;exact absurd hc<|Ee _
  | cons y r=>
   rw[hm]at h2;cases as with
   | nil=>simp at h2
   | cons b bs=>
    simp at h2
 have er:row n c.1=n[c.1].2:=by unfold row;rw[Ab hc];rfl
 refine⟨by rw[gT];exact h.len,by rw[ax ZJ];exact h.lst,λi b r hb hr=>?_,h.inj⟩;unfold Nt.ins at hr;rw[Fn]at hr;cases hn:n[i]? with
 | none=>rw[hn]at hr;by_cases q:c.1=i <;> simp[q]at hr
 | some r0=>
  rw[hn]at hr;have q1:=h.tup i b r0 hb hn;have t1:b.1≠a.2:=ce q1.1 q0.2 λe=>nomatch e
  by_cases q:c.1=i
  ·subst q;rw[Ab hc]at hn;cases hn;rw[ha]at hb;cases hb;simp at hr;subst hr;refine⟨by rw[ax t1];exact q1.1,?_⟩;rw[aw,er]
  ·simp[q]at hr;subst hr;have t2:b.2≠a.2:=λe=>by
    have l1:i < as.length:=(Ac.mp hb).1;have l2:c.1 < as.length:=(Ac.mp ha).1;have x1:(as.map (·.2))[i]?=some b.2:=by rw[Aj,hb];rfl
    have x2:(as.map (·.2))[c.1]?=some a.2:=by rw[Aj,ha];rfl
    obtain⟨y1,z1⟩:=Ac.mp x1;obtain⟨y2,z2⟩:=Ac.mp x2;exact q<|(Gm (h₀:=y2) (h₁:=y1) h.inj).mp<|z2.trans<|e.symm.trans z1.symm
   exact⟨by rw[ax t1];exact q1.1,by rw[ax t2];exact q1.2⟩
def ai.more{H:Hp}{R t l:Addr}{as:Ï}{n:Net}{pt:Str}{zs:Ñ}(h:ai H R as n)(ht:H t=some (.tup [.str pt,.ref l]))(hl:H l=some (Ls zs))(hn:l∉as.map (·.2))(hR:l≠R) :
  ai (upd H R<|.lst<|as.map (λa=>V.ref a.1)++[.ref t]) R (as++[(t,l)]) (n++[(pt,zs)]):=by
 have bF:=h.len;refine⟨by rw[Ad,Ad,bF];rfl,by rw[aw,Ag];rfl,λi b r hb hr=>?_,?_⟩
 ·rcases Do i as.length with c | c
  ·rw[An c]at hb;rw[An<|by omega]at hr;have q:=h.tup i b r hb hr;have t1:b.1≠R:=ce q.1 h.lst λe=>nomatch e;have t2:b.2≠R:=by
    intro e;have h1:=h.lst;rw[<- e,q.2]at h1;have h2:=HO.lst.inj<|Option.some.inj h1;cases as with
    | nil=>simp at c
    | cons b' bs=>
     cases hm:r.2 with
     | nil=>rw[hm]at h2;simp at h2
     | cons y r=>rw[hm]at h2;simp at h2
   exact⟨by rw[ax t1];exact q.1,by rw[ax t2];exact q.2⟩
  ·have e:i=as.length:=by
    have:=(Ac.mp hb).1;rw[Ad]at this;simp at this;omega
   subst e;rw[Am<|Ao _]at hb;rw[bF,Am<|Ao _]at hr;simp at hb hr;subst hb hr;have t1:t≠R:=ce ht h.lst λe=>nomatch e;exact⟨by rw[ax t1];exact ht,by rw[ax hR];exact hl⟩
 ·rw[Ag,Bt];exact⟨h.inj,by simp,λx hx y hy e=>by simp at hy;subst hy e;exact hn hx⟩
def ai.lists{H:Hp}{R:Addr}{as:Ï}{n:Net}(h:ai H R as n){x:Addr×Addr}(hx:x∈as):∃ zs,H x.2=some (Ls zs):=by
 obtain⟨i,hi,e⟩:=Dx.mp hx;have hl:=h.len;exact⟨_,(h.tup i x (n[i]'(by omega)) (by rw[<- e];exact Ab hi)<|Ab<|by omega).2⟩
def ai.fresh{H:Hp}{R l:Addr}{as:Ï}{n:Net}(h:ai H R as n)(hl:H l=none){x:Addr×Addr}(hx:x∈as):l≠x.2:=by
 obtain⟨zs,e⟩:=h.lists hx;exact(bq e hl).symm
def jN(n:Net):(ends n).length=(ag n).length:=by
 unfold ends bp;rw[Aa,<- ll n 0,Aa]
def fH.ends{n:Net}(T:av n){e:End}{fs:List End}(h:fH n e fs)(he:e∈ends n):∀ c∈fs,c∈Nt.ends n:=by
 intro c hc;obtain⟨i,hi,e2⟩:=Dx.mp hc;have:=h.at' i hi;rw[Ab hi,e2]at this;rw[Option.some.inj this];exact ki (λa ha=>rX T ha) he i
def yp{n:Net}{c k:End}{z:Str}(hc:eS n c)(hk:k.1 < n.length):eS (ins n k z) c:=by
 refine⟨by rw[gT];exact hc.1,?_⟩;rw[se n k z c.1 hk];have:=hc.2
 split
 ·rw[Ad,Ar,Bg,Cj];omega
 ·exact this
def dbl(zs:Ñ):Ñ:=zs.flatMap λz=>[z,z]
theorem FE(y:Str):∀ zs:Ñ,(dbl zs).count y=2 * zs.count y
 | []=>rfl
 | z :: r=>by
  unfold dbl;rw[Cc];have ih:=FE y r;unfold dbl at ih;rw[Cq,ih,Cz,Cz,Cz,TY];omega
def iM{y:Str}{zs:Ñ}:y∈dbl zs↔y∈zs:=by
 rw[<- Bs,FE,<- Bs];omega
theorem FG:∀ zs:Ñ,(dbl zs).length=2 * zs.length
 | []=>rfl
 | z :: r=>by
  unfold dbl;rw[Cc,Ad];have ih:=FG r;unfold dbl at ih;rw[ih,Ar];simp;omega
def ZK(zs:Ñ)(z:Str):dbl (zs++[z])=dbl zs++[z,z]:=by
 unfold dbl;rw[Cr];rfl
def OZ{n:Net}{zs:Ñ}(hn:zs.Nodup)(p:(ag n).Perm<|dbl zs):av n:=λz hz=>by
 rw[p.count_eq,FE];have h1:z∈zs:=iM.mp<|p.mem_iff.mp hz;rw[hn.count,BL h1]
def NE(n:Net):Prop:=∀ r∈n,r.2≠[]
def ko{n:Net}{i:Nat}(h:i < n.length):row n i=n[i].2:=by unfold row;rw[Ab h];rfl
def ZL{n:Net}(h:NE n)(h0:n≠[]):Full n:= .inr ⟨h0,λi hi=>by rw[ko hi];exact h _<|Bn hi⟩
def Full.ne{n:Net}(h:Full n):(∃ nm,n=[(nm,[])])\/NE n:=by
 rcases h with h | ⟨_,h⟩
 ·exact .inl h
 ·refine .inr λr hr=>?_;obtain⟨i,hi,rfl⟩:=Dx.mp hr;have:=h i hi;rwa[ko hi]at this
theorem O0:∀(n:Net) (k:Nat) (h:k < n.length),(ag n).Perm<|n[k].2++ag (n.eraseIdx k)
 | [],k,h=>by simp at h
 | a :: n,0,h=>by unfold ag;simp
 | a :: n,k+1,h=>by
  have ih:=O0 n k (by simpa using h);unfold ag at ih ⊢;simp only[Cc,List.getElem_cons_succ,List.eraseIdx_cons_succ];refine(ih.append_left a.2).trans ?_;rw[<- At,<- At];exact List.perm_append_comm.append_right _
def ZM(n:Net)(k:Nat)(h:k < n.length):(n.map (·.1)).Perm (n[k].1 :: (n.eraseIdx k).map (·.1)):=by
 have:=(bA.bL n k h).map (·.1);exact this.symm
def FH(zs:Ñ)(i:Nat):(zs.drop i++zs.take i).Perm zs:=by
 refine Cm.trans ?_;rw[Dk]
def ai.upd{H:Hp}{R x:Addr}{as:Ï}{n:Net}(h:ai H R as n){xs:List V}{o:HO}(hx:H x=some (.lst xs))(hR:R≠x)(ha:∀ a∈as,a.2≠x):ai (upd H x o) R as n:=by
 refine⟨h.len,by rw[ax hR];exact h.lst,λi a r h1 h2=>?_,h.inj⟩;have q:=h.tup i a r h1 h2;exact⟨by rw[ax<|ce q.1 hx λe=>nomatch e];exact q.1,by rw[ax<|ha a<|As h1];exact q.2⟩
def FI{α:Type}(l:List α)(k i:Nat):(l.eraseIdx k)[i]?=if i < k then l[i]? else l[i+1]?:=by
 rw[Gh]
def ai.erase{H:Hp}{R:Addr}{as:Ï}{n:Net}(h:ai H R as n){k:Nat}(hk:k < n.length) :
  ai (L2.upd H R<|.lst<|(as.map λa=>V.ref a.1).eraseIdx k) R (as.eraseIdx k) (n.eraseIdx k):=by
 have hl:=h.len;refine⟨by rw[Db,Db,hl],?_,λi a r h1 h2=>?_,?_⟩
 ·rw[aw]
  congr 2
  refine Dz λi=>?_;rw[FI,Aj,Aj,Aj,FI]
  split <;> rfl
 ·rw[FI]at h1 h2;have q:H a.1=some (.tup [.str r.1,.ref a.2])/\H a.2=some (Ls r.2):=by
   by_cases c:i < k
   ·rw[BL c]at h1 h2;exact h.tup i a r h1 h2
   ·rw[BK c]at h1 h2;exact h.tup (i+1) a r h1 h2
  have t2:a.2≠R:=by
   intro e;have h3:=h.lst;rw[<- e,q.2]at h3;have h4:=HO.lst.inj<|Option.some.inj h3;cases as with
   | nil=>simp at hl;simp[<- hl]at hk
   | cons b bs=>
    cases hm:r.2 with
    | nil=>rw[hm]at h4;simp at h4
    | cons y r=>rw[hm]at h4;simp at h4
  exact⟨by rw[ax<|ce q.1 h.lst λe=>nomatch e];exact q.1,by rw[ax t2];exact q.2⟩
 ·have:((as.eraseIdx k).map (·.2)).Sublist (as.map (·.2)):=(List.eraseIdx_sublist as k).map _;exact h.inj.sublist this
def O1(zs:Ñ)(i:Nat):bO (zs.map V.str) (some (i:Int)) none=(zs.drop i).map V.str:=by
 unfold bO;rw[HT.fw,HT.cN,Aa];rw[Bz (by rw[Cj,Aa];omega),UW]
 rcases VB i zs.length with h | h
 ·rw[RX h]
 ·rw[RG h,Fb (by simp),Fb<|by simpa using h]
def O2(zs:Ñ)(i:Nat):bO (zs.map V.str) none (some (i:Int))=(zs.take i).map V.str:=by
 unfold bO;rw[HT.fw,HT.cN,Aa,List.drop_zero,RD,List.map_take]
 rcases VB i zs.length with h | h
 ·rw[RX h]
 ·rw[RG h,Bz (by simp),Bz<|by simpa using h]
end Nt
namespace L2
open PySem PySem.Spec PyProof.Rows
def yq{X:Cx}{e tg iter:Expr}{ifs:Ô}{scope:Scope}{pz:Pos}{gs:List Comprehension}{newAcc:Sem Value}{o0:Obj}{u0:Addr->HO}{inner:Value->Env->Sem Unit}{wi:TI}{σ:St}{H:Hp}{Q:VK}
  (ie:∀(Q:Î) (E:Î) (s:Shared),Q (.ref s.heap.objs.size) {s with heap:=s.heap.push o0}->wpAny (model X.prog X.w) X.A newAcc Q E s) (hU:∀(H:Hp) (h:Heap),sysModules < h.objs.size->aB X.prog X.w H (h.push o0) h.objs.size (u0 h.objs.size))
  (hC:∀ acc env,Clause e 0 tg iter ifs acc env<|inner acc env) (he:eval e X.env=comprehension e scope X.env pz newAcc false (eval iter X.env) none) (jh:clausesOf e=⟨tg,iter,ifs,0⟩ :: gs)
  (sc:Scope) (N N':Ñ) (n:Nat) (hi:PI X tg iter wi)
  (h:wi σ H λJ H1=>∀ D,H1 D=none->∀ cl C s₀ H₀ ex,ic (dS X N' scope cl C s₀ H₀ ex) tg ifs (inner (.ref D)<|compEnvC scope cl C X.env) J (λ_ H'=>Q (.ref D) H') (σ++List.replicate n none)<|upd H1 D<|u0 D)
  (hc:X.calm=true) (kd:X.env.scope=sc) (hN:X.N=N) (hk:nC sc scope N N'=true) (hl:N'.length=N.length+n) (hs:∀ x,foldedSetIterable iter X.env x=pure x):Ev X e σ H Q:=by
 refine⟨λpins s I=>?_⟩;subst kd hN;have ck:=cG.of hk;rw[he];refine wpAny_comprehension_free (use:=none) jh hs (M9 λx hx hf=>I.ok.has x.1<|ck.free x hx hf) ck.kind ck.names<|aU (hi pins s σ H _ I h) λv s1 h1=>aU h1 λoW s2 h2=>?_;obtain⟨it,fp,tn,J,H2,e,I2,T,gN,f2,q⟩:=h2;subst e;refine Nw ie hU (Q:=Q) (RR:=λacc C=>compPost (model X.prog X.w) X.A X.xe none (EP X pins σ Q) acc C) hc ck hl hC I2 T gN f2 q ?_;intro D C H' s' m IX hn hC c1 c2 c3 c4 qq;exact⟨m,hn,λh' l7=>⟨.ref D,H',IX.turned (t':=s'.toks) (λb o hb e=>l7.extBut b o hb e) hC (CK<|CK c1) (.inr c2) c3 c4,rfl,qq⟩⟩
section
variable{X:Cx}{pins:Ð}{σ:St}{H:Hp}{s:Shared}
end
section
variable{X:Cx}{elt tg:Expr}{ifs:Ô}{scope:Scope}{σ:St}{H:Hp}{N':Ñ}{A a d:Addr}{xs:List V}{kvs:List (Key×V)}{after:Hp->Prop}
def mw(Pv:Nat->St->Hp->Prop)(h0:Pv 0 σ H)(hl:∀ i σ' H',i<=xs.length->Pv i σ' H'->ak X.K H' a xs)
  (hs : ∀ i x σ' H', xs[i]? = some x → Pv i σ' H' → CI X N' scope tg x σ' H' λσ2 H3 => CL X N' scope ifs σ2 H3 λb H4 =>
   if b=true then CH X N' scope elt σ2 H4 λv H5=>∃ ys,H5 A=some (.lst ys)/\ys.length < sizeLine/\Pv (i+1) σ2 (upd H5 A<|.lst<|ys++[v])else Pv (i+1) σ2 H4)
  (hd:∀ σ' H',Pv xs.length σ' H'->after H'):py X N' scope tg ifs elt (ng X.K a) A after σ H:=by
 refine⟨λi m σ' H'=>m=xs.length - i/\i<=xs.length/\Pv i σ' H',⟨_,rfl,Cf _,h0⟩,?_⟩;rintro i m σ' H' ⟨rfl,hi,p⟩;have q:=hl i σ' H' hi p
 by_cases bd:i < xs.length
 ·refine .inr ⟨⟨xs,xs[i],q,by simp[bd]⟩,Pv<|i+1,λσ' H' p'=>⟨xs.length - (i+1),by omega,rfl,bd,p'⟩,λx H2 y=>?_⟩;obtain⟨e,y⟩:=y;subst e;exact hs i x σ' _ (y xs q) p
 ·have e:i=xs.length:=by omega
  subst e;exact .inl ⟨⟨xs,q,Ao _⟩,hd σ' H' p⟩
def p9{zs:Ñ}(f:Str->Bool)(hz:zs.length < sizeLine)(ha:H a=some (.lst<|zs.map V.str))(hA:H A=none)
  (hg:∀ cl C s₀ H₀ ex v v0 H' R,R (σ++[some v]) H'->Eg (dS X N' scope cl C s₀ H₀ ex) tg v (σ++[v0]) H' R)
  (hi:∀ cl C s₀ H₀ ex z ys T,T (f z) (upd H A<|.lst ys)->Ei (dS X N' scope cl C s₀ H₀ ex) ifs (σ++[some<|.str z]) (upd H A<|.lst ys) T)
  (he:∀ cl C s₀ H₀ ex z H' R,R (V.str z) H'->Ev (dS X N' scope cl C s₀ H₀ ex) elt (σ++[some<|.str z]) H' R) (q:after<|upd H A<|.lst<|(zs.filter f).map V.str) :
  py X N' scope tg ifs elt (ng X.K a) A after (σ++List.replicate 1 none) (upd H A<|.lst []):=by
 have ne:a≠A:=bq ha hA;refine mw (xs:=zs.map V.str) (λk σ' H'=>(∃ v,σ'=σ++[v])/\H'=upd H A (.lst<|((zs.take k).filter f).map V.str)) ⟨⟨none,rfl⟩,by simp⟩ ?_ ?_ ?_
 ·rintro i σ' H' _ ⟨_,rfl⟩;exact ak.of<|by rw[ax ne];exact ha
 ·rintro i x σ' H' hx ⟨⟨v,rfl⟩,rfl⟩;rw[Aj,Az]at hx;obtain⟨z,ZN,rfl⟩:=hx;intro cl C s₀ H₀ ex;refine hg cl C s₀ H₀ ex _ _ _ _ ?_;intro cl C s₀ H₀ ex;refine hi cl C s₀ H₀ ex z _ _ ?_;have e:(zs.take<|i+1).filter f=(zs.take i).filter f++(if f z=true then [z]else []):=by
   rw[Cb,ZN,Cu]
   congr 1
   cases hf:f z <;> simp[hf]
  have hlen:((zs.take i).filter f).length<=zs.length:=Bq (Dj _ _)<|by rw[Bg];omega
  by_cases hf:f z=true
  ·rw[BL hf];intro cl C s₀ H₀ ex;refine he cl C s₀ H₀ ex z _ _ ⟨_,aw,by rw[Aa];omega,⟨_,rfl⟩,?_⟩;rw[zX,e,BL hf,Ag];rfl
  ·rw[BK hf];refine⟨⟨_,rfl⟩,?_⟩;rw[e,BK hf,Bh]
 ·rintro σ' H' ⟨_,rfl⟩;have e2:zs.take (zs.map V.str).length=zs:=Bz (by simp);rw[e2];exact q
theorem iN(z:Str)(zs:Ñ):j6 (.str z) (zs.map V.str)=zs.contains z:=by
 unfold j6
 induction zs with
 | nil=>rfl
 | cons y r ih=>
  rw[Bj,Fx,ih,List.contains_cons]
  congr 1
  show cK (.str y) (.str z)=(z == y)
  by_cases h:y=z
  ·subst h;simp[cK]
  ·have h':z≠y:=λq=>h q.symm;show(y == z)=(z == y);rw[beq_eq_false_iff_ne.mpr h,beq_eq_false_iff_ne.mpr h']
def iu(zs:Ñ):(zs.map V.str).all j5=true:=by
 rw[Eb];intro x hx;obtain⟨z,_,rfl⟩:=Ap.mp hx;rfl
def jq{e1 e2:Expr}{k:Nat}{pos:Pos}{t:Addr}{x y:V}{R:St->Hp->Prop}(hc:X.calm=true)(ht:aP X.K H t [x,y])(h:Eg X e1 x σ H λσ1 H1=>Eg X e2 y σ1 H1 R)
  (hn:(assignEach [e1,e2] X.env).length=2:=by rfl) (db:(assignEach [e1,e2] X.env).findIdx? (·.1)=none:=by rfl)
  (jM:(assignEach [e1,e2] X.env).map (·.2)=assign e1 X.env :: (assignEach [e2] X.env).map (·.2):=by rfl) (sf:(assignEach [e2] X.env).map (·.2)=assign e2 X.env :: (assignEach [] X.env).map (·.2):=by rfl) :
  Eg X (.Tuple [e1,e2] k pos) (.ref t) σ H R:=
 CB (Mi (t:=rm (λv σ H Q=>Eg X e1 v σ H Q)<|rm (λv σ H Q=>Eg X e2 v σ H Q) oV) hc (tT pv (tT pv Mh sf) jM) hn db) ⟨t,_,rfl,ht,rfl,_,_,rfl,h.mono λσ1 H1 h1=>⟨_,_,rfl,h1.mono λσ2 H2 q=>⟨rfl,q⟩⟩⟩
end
end L2
namespace PySem
def getAttr?_miss_list{prog:Program}{w:World}{A:Around}{E:Î}{s:Shared}{a:Addr}{o:Obj}{xs:Array Value}{k:Nat}{name:Str}{Q:Option Value->Shared->Prop}
  (hx:s.heap.get? a=some o) (hc:o.cls = .type "list") (je:o.data = .seq xs k) (hd:o.dict=none) (uM:typeLookup (.type "list") name=pure none) (uN:(["__module__","__name__","__qualname__","__doc__","__annotations__"]:Ñ).contains name=false) (hA:A.handled=none)
  (h:∀ h' tk e,Heap.NewExcOf s.heap h' e "AttributeError"->Q none {s with heap:=h',toks:=tk}) (hsz:name.length+100<=sizeLine:=by size_fits) :
  wpAny (model prog w) A (getAttr? (.ref a) name) Q E s:=by
 obtain⟨c,dct,dat,sl⟩:=o;simp only at hc je hd;subst hc je hd;obtain⟨hp,g,d,tk,os⟩:=s;have hT:∀ xU,(⟨hp,g,d,xU,os⟩:Shared).TypeIs (.ref a) "list":=λ_=>⟨_,hx,rfl⟩;have f1:=sub_AttributeError;have f3:=F.slot_list_getattribute.lookup;have f4:=F.slot_list_getattribute.bind<|.ref a;have f5:=am_list_getattr_none;unfold getAttr? getAttrBy? getAttrBy
 repeat (any_goals (first | assumption | exact hT _ | ((with_reducible show wpAny _ _ (call (Value.builtin "list.__getattribute__") _ _) _ _ _);refine MN F.slot_list_getattribute (hT _) am_entry_list_getattribute (F.args_list_getattribute_2 _ _) (meets_getattribute_miss_list a xs k sl name _ uM uN hsz) ⟨hx,hA,λh' xU e gk=>?_⟩) | wp_step))
 obtain⟨t',u',he⟩:=gk.there;show wpAny _ _ (getattributeRaised _ _ _ _ _ _ _) _ _ _;unfold getattributeRaised
 repeat (any_goals (first | assumption | wp_step))
 exact h _ _ _ gk.of
namespace F
def bt:entryFor table "dict.update.loop" = some Builtin.«dict.update.loop»:=entryFor_of_tree<|by kernel_rfl
def aN:plainId "dict.update.loop" = true:=by decide +kernel
def fI:typeLookup (.type "list") "keys" = pure none:=by rw[RW,LQ];kernel_rfl
end F
section
variable{prog:Program}{w:World}{K:Type} [DecidableEq K] {knd:KeyKind prog w K} {A:Around} {R:Result->Shared->Prop}
def FK(knd:KeyKind prog w K)(h:Heap)(items:Ó)(gD:List<|K×Value):Prop:=
 items.length=gD.length/\∀(j:Nat) it,items[j]?=some it->∃ T key k v o n,it = .ref T/\gD[j]?=some (k,v)/\knd.is k key=true/\h.get? T=some o/\o.cls = .type "tuple"/\o.data = .seq #[key,v] n
def ZO(kvs:List<|K×Value)(k:K)(v:Value):(stored kvs k v).length<=kvs.length+1:=by
 unfold stored
 split
 ·rw[Aa];omega
 ·rw[Ad];simp
theorem ZP{hB:Heap}{d I l:Addr}{items:Ó}{gD:List (K×Value)}(hd:hB.objs.size<=d)(hI:hB.objs.size<=I)(FL:d≠I)(hl:hB.IsList l items.toArray)(hp:FK knd hB items gD)(hn:items.length < sizeLine)(hh:A.handled=none) :
  ∀(k i:Nat) (s:Shared) (acc:List<|K×Value),items.length - i=k->i<=items.length->(∀ b o,hB.get? b=some o->s.heap.get? b=some o)->s.heap.IsListIter I l i->s.heap.DictOf knd d acc->acc.length<=i ->
   (∀ h' tk,(∀ b o,b≠I->b≠d->s.heap.get? b=some o->h'.get? b=some o)->h'.DictOf knd d ((gD.drop i).foldl (λa p=>stored a p.1 p.2) acc)->R (.ok<|.ret .none) {s with heap:=h',toks:=tk}) ->
   codeAny (model prog w) A (.builtin "dict.update.loop" ⟨[.ref d,.ref I,rawInt i,.none],[]⟩) R s:=by
 have nb:∀ b o,hB.get? b=some o->b≠I/\b≠d:=λb o e=>⟨Bp<|Bi (Au e) hI,Bp<|Bi (Au e) hd⟩;intro k
 induction k with
 | zero=>
  intro i s acc hk hi gE db hD bF hR;have jd:i=items.length:=by omega
  refine FN F.bt ?_;rw[FJ F.aN _];show wpAny _ A.in1 (pyNext (.ref I) >>= _) _ _ s;have nI:s.heap.IsList l items.toArray:=let ⟨o,ho,r⟩:=hl;⟨o,gE _ _ ho,r⟩
  refine BJ (wpAny_pyNext_list_end hh db nI (by simp;omega) λh' eb=>?_);show wpAny _ A.in1 (Builtin.Dict.addKeywords d [] >>= _) _ _ _;refine BJ<|BP<|BP ?_;refine hR h' s.toks (λb o hb _ e=>eb b o hb e) ?_;rw[SN<|by have:=hp.1;omega];exact hD.extBut eb FL
 | succ k ih=>
  intro i s acc hk hi gE db hD bF hR;have bd:i < items.length:=by omega
  have hx:items[i]?=some items[i]:=Ab bd;obtain⟨T,key,kk,v,o,n,e1,e2,e3,e4,e5,e6⟩:=hp.2 i _ hx;rw[e1]at hx;refine FN F.bt ?_;rw[FJ F.aN _];show wpAny _ A.in1 (pyNext (.ref I) >>= _) _ _ s;have nI:s.heap.IsList l items.toArray:=let ⟨o,ho,r⟩:=hl;⟨o,gE _ _ ho,r⟩
  refine BJ (wpAny_pyNext_list_item db nI (x:= .ref T) (by simpa using hx) λh' d9 sb=>?_);have eT:h'.get? T=some o:=(sb.2 T (nb T o e4).1).trans<|gE _ _ e4;refine BJ<|CG<|BJ<|wpAny_tryCatch ?_;unfold Builtin.Dict.pairItems;refine BJ<|JW (T:= "tuple") ⟨o,eT,e5⟩ ?_;rw[BL<|by decide];refine BJ<|wpAny_seqItems (s:={s with heap:=h'}) eT e6<|BP ?_;show wpAny _ _ (holding [key,v]<|dictSet d key v) _ _ _;refine CG (wpAny_dictSet_pairs (knd:=knd) (s:={s with heap:=h'}) (k:=kk) e3 (hD.extBut sb.extBut FL) (λh2 D2 O3=>?_)<|by omega);refine BP ⟨IW F.aN _,?_⟩;have O4:∀ b o,b≠I->b≠d->s.heap.get? b=some o->h2.get? b=some o:=λb o h1 h3 e=>(O3.2 b h3).trans<|(sb.2 b h1).trans e;refine ih (i+1) {s with heap:=h2,toks:=s.toks+1} (stored acc kk v) (by omega) bd (λb o e=>O4 b o (nb b o e).1 (nb b o e).2<|gE _ _ e) (d9.extBut O3.extBut<|CK FL) D2 (by have:=ZO acc kk v;omega) λh3 tk k3 D3=>?_;refine hR h3 tk (λb o h1 pB e=>k3 b o h1 pB<|O4 b o h1 pB e) ?_;have e7:gD.drop i=(kk,v) :: gD.drop (i+1):=by
   obtain⟨hj,e8⟩:=Ac.mp e2;rw[QT hj,e8]
  rw[e7];exact D3
def ZQ{E:Î}{s:Shared}{Q:Î}{l:Addr}{ol:Obj}{nl:Nat}{items:Ó}{gD:List (K×Value)}(ho:s.heap.get? l=some ol)(hc:ol.cls = .type "list")(sg:ol.dict=none)(FO:ol.data = .seq items.toArray nl)(hp:FK knd s.heap items gD)(hn:items.length < sizeLine)(hh:A.handled=none)
  (h:∀ h' tk,(∀ b o,s.heap.get? b=some o->h'.get? b=some o)->h'.DictOf knd s.heap.objs.size (gD.foldl (λa p=>stored a p.1 p.2) [])->Q (.ref s.heap.objs.size) {s with heap:=h',toks:=tk}) :
  wpAny (model prog w) A (call (.type "dict") [.ref l]) Q E s:=by
 refine callType_codes (Q₁:=λobj À=>obj = .ref s.heap.objs.size/\À={s with heap:=s.heap.push {cls:= .type "dict",data:= .dict #[]}}) F.kt_called_dict (F.kt_typeCall_dict_1 _) F.entry_dict_init (kt_code_dict_new _ ⟨rfl,rfl⟩) ?_;rintro obj À ⟨rfl,rfl⟩;have ie:(s.heap.push {cls:= .type "dict",data:= .dict #[]}).DictOf knd s.heap.objs.size []:=Heap.DictOf.new s.heap;have fQ:(s.heap.push {cls:= .type "dict",data:= .dict #[]}).get? l=some ol:=Ai _ ho;refine⟨ie.typeIs,F.args_dict_init_2 _ _,?_⟩;unfold Builtin.«dict.__init__»;refine BJ ?_;unfold Builtin.Dict.selfAndRest;refine BJ<|wpAny_notOrdered_dict ie.typeIs ?_;show wpAny _ _ (pure (s.heap.objs.size,[Value.ref l])) _ _ _;refine BP ?_;show wpAny _ _ (Builtin.Dict.updateFrom "dict.__init__" s.heap.objs.size (.ref l) [] .none) _ _ _;unfold Builtin.Dict.updateFrom;refine BJ<|JW (T:= "list") ⟨ol,fQ,hc⟩ ?_;rw[BL<|by decide];refine BJ (getAttr?_miss_list fQ hc FO sg F.fI (by decide) (by exact hh) λh' tk e ne=>?_);rw[BL (show(none:Option Value).isNone=true from rfl)];have kp:∀ b o,s.heap.get? b=some o->h'.get? b=some o:=λb o e=>ne.keeps b o<|Ai _ e;refine BJ<|HN ?_;have hL:h'.IsList l items.toArray:=⟨ol,kp _ _ ho,hc,nl,FO⟩;refine BJ<|QJ hL ?_;refine BP ⟨IW F.aN _,?_⟩;have O5:h'.DictOf knd s.heap.objs.size []:=let ⟨o,es,ep,ho,r⟩:=ie;⟨o,es,ep,ne.keeps _ _ ho,r⟩
 have bd:s.heap.objs.size < h'.objs.size:=let ⟨o,es,ep,ho,r⟩:=O5;Au ho
 refine ZP (hB:=s.heap) (d:=s.heap.objs.size) (I:=h'.objs.size) (l:=l) (Ao _) (Cs bd) (Bp bd) ⟨ol,ho,hc,nl,FO⟩ hp hn (by exact hh) _ 0 _ [] rfl (Cf _) (λb o e=>Ai _<|kp b o e) ⟨_,Av _ rfl,rfl,rfl⟩ (O5.push _) (Cf _) λh2 ZR k2 D2=>?_;refine⟨rfl,h h2 ZR (λb o e=>k2 b o (Bp<|Au<|kp b o e) (Bp<|Au e)<|Ai _<|kp b o e) D2⟩
end
end PySem
namespace L2
open PySem PySem.Spec PyProof.Rows
section
variable{X:Cx}{pins:Ð}{σ:St}{H:Hp}{s:Shared}
theorem ZS{kvs:List (Key×V)}:∀{ps:List (Key×V)} {acc:List (Key×Value)} {rs:List (Key×Value)},KV ps acc->KV kvs rs->KV (kvs.foldl (λa p=>putK a p.1 p.2) ps) (rs.foldl (λa p=>stored a p.1 p.2) acc):=by
 induction kvs with
 | nil=>intro ps acc rs h g;cases g;exact h
 | cons p r ih=>
  intro ps acc rs h g;cases g with
  | @cons _ q _ r' hq hr=>
   obtain⟨e1,e2⟩:=hq;rw[Dm,Dm];refine ih ?_ hr;rw[<- e1];exact h.put p.1 e2
theorem O6{P:Program}{w:World}{h:Heap}:∀{kvs:List (Key×V)} {ts:List Addr},ts.length=kvs.length->(∀(j:Nat) t kv,ts[j]?=some t->kvs[j]?=some kv->∃ key v o m,(dz P w).is kv.1 key=true/\RelV kv.2 v/\h.get? t=some o/\o.cls = .type "tuple"/\o.data = .seq #[key,v] m) ->
  ∃ rs:List<|Key×Value,KV kvs rs/\∀(j:Nat) t,ts[j]?=some t->∃ key k v o m,rs[j]?=some (k,v)/\(dz P w).is k key=true/\h.get? t=some o/\o.cls = .type "tuple"/\o.data = .seq #[key,v] m
 | [],ts,hl,_=>by
  have:ts=[]:=Bd.mp hl;subst this;exact⟨[],.nil,λj t h=>by simp at h⟩
 | kv :: r,[],hl,_=>by simp at hl
 | kv :: r,t :: ts,hl,hp=>by
  obtain⟨key,v,o,m,q1,q2,q3,q4,q5⟩:=hp 0 t kv rfl rfl;obtain⟨rs,hk,hr⟩:=O6 (kvs:=r) (ts:=ts) (by simpa using hl) λj t kv h1 h2=>hp (j+1) t kv (by simpa using h1) (by simpa using h2);refine⟨(kv.1,v) :: rs,.cons ⟨rfl,q2⟩ hk,λj t' ht=>?_⟩;cases j with
  | zero=>
   cases ht;exact⟨key,kv.1,v,o,m,rfl,q1,q3,q4,q5⟩
  | succ j=>
   obtain⟨key,k,v,o,m,e,z⟩:=hr j t' (by simpa using ht);exact⟨key,k,v,o,m,by simpa using e,z⟩
def O7(hc:X.calm=true):gO X (.type "dict") (λxs H Q=>∃(a:Addr) (ts:List Addr) (kvs:List<|Key×V),xs=[.ref a]/\H a=some (.lst<|ts.map V.ref)/\ts.length=kvs.length/\ts.length < sizeLine/\(∀(j:Nat) t kv,ts[j]?=some t->kvs[j]?=some kv->H t=some (.tup [kV kv.1,kv.2])) /\
  ∀ d,H d=none->Q (.ref d) (upd H d<|.dK<|kvs.foldl (λa p=>putK a p.1 p.2) [])):=by
 intro pins s σ H xs us Q I r h;obtain⟨a,ts,kvs,rfl,hH,hl,hz,ht,q⟩:=h;obtain⟨u,rfl,ru⟩:=vals1 r;cases (show u=Value.ref a from ru);obtain⟨z,its,n,rv,e⟩:=(show aB X.prog X.w H s.heap a (.lst<|ts.map V.ref)from I.aI a _ hH);have fD:=rv.length;rw[Aa]at fD;have qb:∀(j:Nat) t,ts[j]?=some t->its[j]?=some (.ref t):=λj t hj=>by
  obtain⟨u,hu,ru⟩:=rv.get (i:=j) (x:= .ref t) (by rw[Aj,hj];rfl);cases (show u=Value.ref t from ru);exact hu
 have pair:∀(j:Nat) t kv,ts[j]?=some t->kvs[j]?=some kv->∃ key v o m,(dz X.prog X.w).is kv.1 key=true/\RelV kv.2 v/\s.heap.get? t=some o/\o.cls = .type "tuple"/\o.data = .seq #[key,v] m:=λj t kv h1 h2=>by
  obtain⟨z2,dE,gS,o,eo,co,m,dm⟩:=(show aB X.prog X.w H s.heap t (.tup [kV kv.1,kv.2])from I.aI t _<|ht j t kv h1 h2);obtain⟨key,v,e3,r1,r2⟩:=gS.two;refine⟨key,v,o,m,ph r1,r2,eo,co,?_⟩;rw[dm,e3]
 obtain⟨rs,hk,hr⟩:=O6 hl pair;have FR:=hk.length;have hP:FK (dz X.prog X.w) s.heap its rs:=by
  refine⟨by omega,λj it hj=>?_⟩;have kq:j < ts.length:=by have:=(Ac.mp hj).1;omega
  have O8:ts[j]?=some ts[j]:=Ab kq;have e2:=qb j _ O8;rw[hj]at e2;obtain⟨key,k,v,o,m,q1,q2,q3,q4,q5⟩:=hr j _ O8;exact⟨ts[j],key,k,v,o,m,Option.some.inj e2,q1,q2,q3,q4,q5⟩
 refine ZQ (knd:=dz X.prog X.w) e rfl rfl rfl hP (by omega) (I.ok.hd hc) λh' tk kp D=>?_;have hlen:∀(l:List<|Key×V) (a:List<|Key×V),(l.foldl (λa p=>putK a p.1 p.2) a).length<=a.length+l.length:=by
  intro l
  induction l with
  | nil=>intro a;exact Ao _
  | cons p r ih=>
   intro a;rw[Dm,Ar];have h1:=ih<|putK a p.1 p.2;have h2:=iE a p.1 p.2;omega
 have hb:=I.big;refine⟨.ref s.heap.objs.size,_,I.laid (t':=tk) kp (Ao _) (show aB X.prog X.w _ h' _ (.dK<|kvs.foldl (λa p=>putK a p.1 p.2) []) from⟨?_,?_,_,ZS (kvs:=kvs) (ps:=[]) (acc:=[]) .nil hk,D⟩),rfl,q _<|I.aI.fresh<|Ao _⟩
 ·have:=hlen kvs [];rw[Dc]at this;omega
 ·exact beq_eq_false_iff_ne.mpr<|Ct hb
end
section
variable{X:Cx}{pins:Ð}{σ:St}{H:Hp}{s:Shared}{h':Heap}
def Inv.cv{t':Nat}{ch:List Addr}(I:Inv X pins σ H s)(hf:∀ b∈ch,ci X pins H b)(k:∀ b o,b∉ch->s.heap.get? b=some o->h'.get? b=some o):Inv X pins σ H {s with heap:=h',toks:=t'}:=by
 have tQ:∀ b u,H b=some u->b∉ch:=λb u e z=>by rw[(hf b z).1]at e;cases e
 refine I.step (g':=s.gens) (d':=s.drawn) (ch:=ch) (λb hb=>?_) (λb o _ _ hc e _=>k b o hc e) (λb o _ _ hc e _=>⟨o.slots,k b o hc e⟩) (λ_ _ _ _ n=>n)
  (λb o hc e=>⟨o,k b o hc e⟩) (λ_ _ e=>e) (λ_ _ _ e=>e) (λb ps e=>⟨#[],by rw[e];simp⟩) (λm hm=>?_) (λb u e=>?_) I.bare
 ·obtain⟨f0,f1,f2,f3,f4,f5⟩:=hf b hb;exact⟨f3,f1,f4,f5⟩
 ·obtain⟨o,es,ep,ho,r⟩:=hm;exact⟨o,es,ep,k _ o (λz=>(hf _ z).2.1 rfl) ho,r⟩
 ·refine(I.aI b u e).g8 (λc v hc q=>k c v ?_ q) (λ_ q=>q) λ_ _ q=>q
  rcases hc with z | z
  ·rw[z];exact tQ b u e
  ·exact tQ c _ z
def yr(K:PySem.W.Frag)(a b:Addr):It:=
  ⟨λi H => ∃ xs ys x y, ak K H a xs ∧ ak K H b ys ∧ xs[i]? = some x ∧ ys[i]? = some y,
   λi H v H'=>∃ T x y,H T=none/\v = .ref T/\H'=upd H T (.tup [x,y])/\(∀ xs,ak K H a xs->xs[i]?=some x)/\∀ ys,ak K H b ys->ys[i]?=some y,
   λi H=>∃ xs ys,ak K H a xs/\ak K H b ys/\(xs.length<=i\/ys.length<=i)⟩
def O9(m a b:Addr)(i:Nat)(h:Heap):Prop:=
 IsZip h (m+4) (m+2) (m+3) .none/\IsPair h (m+2) (.ref m) (.ref<|m+1)/\(∃ x y,IsPair h (m+3) x y)/\h.IsListIter m a i/\h.IsListIter (m+1) b i
def O'{h:Heap}{m a b:Addr}{i:Nat}{xs ys:Array Value}(z:O9 m a b i h)(ha:h.IsList a xs)(hb:h.IsList b ys):ZipApart (m+4) (m+2) (m+3) m (m+1) a b:=by
  obtain⟨z1,z2,⟨x,y,z3⟩,⟨o4,e4,c4,_⟩,⟨o5,e5,c5,_⟩⟩:=z;have cls:∀{l:Addr} {vs:Array Value} {c:Addr} {o:Obj},h.IsList l vs->h.get? c=some o->o.cls ≠ .type "list"->l≠c:=λhl hc hn e=>by
    obtain⟨ol,uw,jh,_⟩:=hl;rw[e,hc]at uw;cases uw;exact hn jh
  exact { TIz := by simp, TOz := by simp, i1z := by simp, i2z := by simp, TITO := by simp, TIi1 := by simp, TIi2 := by simp, TOi1 := by simp, TOi2 := by simp, i12 := by simp
          l1z:=cls ha z1 (by show Value.type "zip"≠Value.type "list";decide),l1TO:=cls ha z3 (by show Value.type "tuple"≠Value.type "list";decide),l1i1:=cls ha e4 (by rw[c4];decide),l1i2:=cls ha e5<|by rw[c5];decide
          l2z:=cls hb z1 (by show Value.type "zip"≠Value.type "list";decide),l2TO:=cls hb z3 (by show Value.type "tuple"≠Value.type "list";decide),l2i1:=cls hb e4 (by rw[c4];decide),l2i2:=cls hb e5 (by rw[c5];decide)}
def ZT{P:Program}{w:World}{K:PySem.W.Frag}{elts:Ô}{k:Nat}{tp:Pos}(m a b:Addr):Turn P w K (.Tuple elts k tp) (yr K a b) [m,m+1,m+2,m+3,m+4] (m+4) (O9 m a b) where
 mem:=by simp
 obj:=λi h st c hc=>by
  obtain⟨z1,z2,⟨x,y,z3⟩,⟨o4,e4,c4,d4⟩,⟨o5,e5,c5,d5⟩⟩:=st;simp only[Ak,Ck,FZ]at hc
  rcases hc with rfl | rfl | rfl | rfl | rfl
  ·exact⟨_,e4,λv z=>by rw[d4]at z;cases z⟩
  ·exact⟨_,e5,λv z=>by rw[d5]at z;cases z⟩
  ·exact⟨_,z2,λv z=>by cases z⟩
  ·exact⟨_,z3,λv z=>by cases z⟩
  ·exact⟨_,z1,λv z=>by cases z⟩
 keep:=λi h h' st kp=>by
  obtain⟨z1,z2,⟨x,y,z3⟩,⟨o4,e4,r4⟩,⟨o5,e5,r5⟩⟩:=st;exact⟨kp _ (by simp) _ z1,kp _ (by simp) _ z2,⟨x,y,kp _ (by simp) _ z3⟩,⟨o4,kp _ (by simp) _ e4,r4⟩,⟨o5,kp _ (by simp) _ e5,r5⟩⟩
 item:=by
  intro X hP hw hK hc i pins s σ H E I hf st hg;subst hP hw hK;obtain⟨xs,ys,x,y,gU,yt,hx,hy⟩:=hg;obtain⟨uO,yu,p1,si⟩:=I.list gU;obtain⟨dE,gS,p2,sj⟩:=I.list yt;obtain⟨u1,jo,ZU⟩:=yu.get hx;obtain⟨u2,uP,ZV⟩:=gS.get hy;have D:=O' st p1.isList p2.isList;obtain⟨z1,z2,⟨x0,y0,z3⟩,z4,z5⟩:=id st;refine wpAny_pyNext_zip_item D z1 z2 z3 z4 z5 p1.isList p2.isList (x:=u1) (y:=u2) (by simpa using jo) (by simpa using uP) λh' a1 a2 a3 a4 a5 a6 kp=>?_;have hT:H s.heap.objs.size=none:=I.aI.fresh<|Ao _;have nT:∀ c∈[m,m+1,m+2,m+3,m+4],c≠s.heap.objs.size:=λc bY=>by
   have:∃ o,s.heap.get? c=some o:=by
    obtain⟨o4,e4,_⟩:=z4;obtain⟨o5,e5,_⟩:=z5;simp only[Ak,Ck,FZ]at bY
    rcases bY with rfl | rfl | rfl | rfl | rfl
    ·exact⟨_,e4⟩
    ·exact⟨_,e5⟩
    ·exact⟨_,z2⟩
    ·exact⟨_,z3⟩
    ·exact⟨_,z1⟩
   obtain⟨o,e⟩:=this;exact Bp<|Au e
  have I1:Inv X pins σ (upd H s.heap.objs.size<|.tup [x,y]) {s with heap:=s.heap.push {cls:= .type "tuple",data:= .seq #[u1,u2]}}:=
   I.laid (t':=s.toks) (λb o e=>Ai _ e) (Ao _) (show aB X.prog X.w _ _ _ (.tup [x,y]) from⟨(by show 2<=sizeLine;decide),[u1,u2],.cons ZU<|.cons ZV .nil,⟨_,Av _ rfl,rfl,_,rfl⟩⟩)
  have f1:∀ c∈[m,m+1,m+2,m+3,m+4],ci X pins (upd H s.heap.objs.size<|.tup [x,y]) c:=λc bY=>⟨by rw[ax<|nT c bY];exact(hf c bY).1,(hf c bY).2⟩;have uC:∀ c o,c∉[m,m+1,m+2,m+3,m+4]->(s.heap.push {cls:= .type "tuple",data:= .seq #[u1,u2]}).get? c=some o->h'.get? c=some o:=λc o bY e=>by
   rcases Heap.get?_push_cases e with ⟨ec,eo⟩ | e'
   ·rw[ec,eo];exact a5
   ·simp only[Ak,Ck,FZ,not_or]at bY;exact kp c o bY.2.2.2.2 bY.2.2.2.1 bY.1 bY.2.1 e'
  have I2:=Inv.cv (h':=h') (t':=s.toks) I1 f1 uC;refine⟨_,rfl,wpAny_letOwnedTupleGo_zip (s:={s with heap:=h'}) a1 λh2 b1 sb=>?_⟩;have ZW:IsPair h' (m+2) (.ref m) (.ref<|m+1):=kp _ _ (by simp) (by simp) (by simp) (by simp) z2;have ZX:∀ c o,c∉[m+4]->h'.get? c=some o->h2.get? c=some o:=λc o bY e=>(sb.2 c<|by simpa using bY).trans e;have I3:=Inv.cv (h':=h2) (t':=s.toks) I2 (ch:=[m+4]) (λc bY=>f1 c<|by simp at bY;simp[bY]) ZX;refine⟨.ref s.heap.objs.size,_,I3,rfl,⟨_,x,y,hT,rfl,rfl,λzs hz=>by rw[I.dC hz gU];exact hx,λzs hz=>by rw[I.dC hz yt];exact hy⟩,?_,λc bY=>(f1 c bY).1⟩;have sx:∀ c o,c≠m+4->h'.get? c=some o->h2.get? c=some o:=λc o bY e=>(sb.2 c bY).trans e;obtain⟨o3,e3,r3⟩:=a3;obtain⟨o4,e4,r4⟩:=a4;exact⟨b1,sx _ _ (by simp) ZW,⟨u1,u2,sx _ _ (by simp) a2⟩,⟨o3,sx _ _ (by simp) e3,r3⟩,⟨o4,sx _ _ (by simp) e4,r4⟩⟩
 done:=by
  intro X hP hw hK hc i pins s σ H E I hf st hg;subst hP hw hK;obtain⟨xs,ys,gU,yt,FU⟩:=hg;obtain⟨uO,yu,p1,si⟩:=I.list gU;obtain⟨dE,gS,p2,sj⟩:=I.list yt;have l1:=yu.length;have l2:=gS.length;have D:=O' st p1.isList p2.isList;obtain⟨z1,z2,⟨x0,y0,z3⟩,z4,z5⟩:=id st;refine wpAny_pyNext_zip_end (I.ok.hd hc) D z1 z2 z3 z4 z5 p1.isList p2.isList ?_ λh' kp=>⟨rfl,I.cv (t':=s.toks) (ch:=[m,m+1,m+2,m+3,m+4]) hf λc o bY e=>?_⟩
  ·rcases FU with h | h
   ·exact .inl<|by simp;omega
   ·exact .inr<|by simp;omega
  ·simp only[Ak,Ck,FZ,not_or]at bY;exact kp c o bY.2.2.2.2 bY.2.2.2.1 bY.1 bY.2.1 e
 self:=λ_ _ _ _ _ st h=>wpAny_pyIter_zip st.1 h
end
section
variable{X:Cx}
def FV(K:PySem.W.Frag)(ta:TA):TI:=λσ H R=>ta σ H λvs H1=>∃ a b,vs=[.ref a,.ref b]/\(∃ xs,ak K H1 a xs)/\(∃ ys,ak K H1 b ys)/\R (yr K a b) H1
def Pa{elts:Ô}{k:Nat}{tp:Pos}{a b:Expr}{ta:TA}{p pos:Pos}(hg:Gl X "zip")(hm:X.mg "zip" = none)(ha:PA X [a,b] ta)(hs:starEach [a,b] X.env=[(false,eval a X.env),(false,eval b X.env)]:=by rfl)(sf:starEach [b] X.env=[(false,eval b X.env)]:=by rfl) :
  PI X (.Tuple elts k tp) (.Call (.Name "zip" p) [a,b] [] pos) (FV X.K ta):=by
 intro pins s σ H R I h;refine Call_ (oR I hg hm boot_zip<|JK (aU (ha pos pins s σ H _ I h) λus s1 ⟨vs,H1,I1,r1,q1⟩=>?_) (by rw[hs,sf])<|by rw[sf];rfl);obtain⟨x,y,e,⟨xs,hx⟩,⟨ys,hy⟩,q⟩:=q1;subst e;obtain⟨u,v,rfl,ru,rv⟩:=r1.two;cases (show u=Value.ref x from ru);cases (show v=Value.ref y from rv);obtain⟨uO,yu,p1,si⟩:=I1.list hx;obtain⟨dE,gS,p2,sj⟩:=I1.list hy;refine call_zip_2 p1.isList p2.isList λh' a1 a2 a3 a4 a5 a6 kp=>?_;refine wpAny_pyIter_zip (s:={s1 with heap:=h'}) a1 ?_;refine⟨s1.heap.objs.size+4,[s1.heap.objs.size,s1.heap.objs.size+1,s1.heap.objs.size+2,s1.heap.objs.size+3,s1.heap.objs.size+4],_,_,H1,rfl,I1.kept (t':=s1.toks) kp,ZT s1.heap.objs.size x y,⟨a1,a2,⟨_,_,a3⟩,a4,a5⟩,λb hb=>?_,q⟩;have hle:s1.heap.objs.size<=b:=by
  simp only[Ak,Ck,FZ]at hb
  rcases hb with rfl | rfl | rfl | rfl | rfl <;> omega
 exact I1.lK hle<|I1.aI.fresh hle
end
def sk(elt t1 i1:Expr)(f1:Ô)(t2 i2:Expr)(f2:Ô)(scope:Scope)(pos:Pos)(acc:Value)(env:Env):Sem Unit:=do
 let x <- eval i2 env
 standAt i2.pos
 let x <- foldedSetIterable i2 env x
 let _ <- runOwn (.compStart (.ListComp elt [⟨t1,i1,f1,0⟩,⟨t2,i2,f2,0⟩] scope pos) 1 (<- holding [x]<|pyIter x) acc env) env
section
variable{X:Cx}{elt t1 i1 t2 i2:Expr}{f1 f2:Ô}{scope:Scope}{pos:Pos}{σ:St}{H:Hp}{acc:Value}{env:Env}
def ZY:Clause (.ListComp elt [⟨t1,i1,f1,0⟩,⟨t2,i2,f2,0⟩] scope pos) 0 t1 i1 f1 acc env (sk elt t1 i1 f1 t2 i2 f2 scope pos acc env):=⟨rfl,λ_=>rfl,λ_ _ _=>rfl,λ_ _=>rfl,λ_ _ _=>rfl,λ_ _=>rfl,λit=>by
 unfold sk;simp only[bind_assoc,pure_bind];rfl⟩
def ZZ:Clause (.ListComp elt [⟨t1,i1,f1,0⟩,⟨t2,i2,f2,0⟩] scope pos) 1 t2 i2 f2 acc env (emit elt acc env):=⟨rfl,λ_=>rfl,λ_ _ _=>rfl,λ_ _=>rfl,λ_ _ _=>rfl,λ_ _=>rfl,λ_=>rfl⟩
def Z4{wi:TI}{Q:St->Hp->Prop}(jf:X.xe=λ_ _=>False)(hc:X.calm=true)(hi:PI X t2 i2 wi)(h:wi σ H λJ H1=>ic X t2 f2 (emit elt acc X.env) J Q σ H1)
  (hs:∀ x,foldedSetIterable i2 X.env x=pure x:=by intro _;rfl):k8 X (sk elt t1 i1 f1 t2 i2 f2 scope pos acc X.env) σ H Q:=by
 refine⟨λpins s I=>?_⟩;unfold sk;refine BJ<|aU (hi pins s σ H _ I h) λx s1 h1=>?_;refine BJ<|GZ<|BJ<|IK (hs x)<|BJ<|CG<|CV h1 (λoW s2 h2=>?_) λ_ _ e=>e;obtain⟨it,fp,tn,J,H2,e,I2,T,gN,uQ,q⟩:=h2;subst e;refine BJ<|wpAny_runOwn (Q:=λ_ s'=>wpAny (model X.prog X.w) X.A (pure ()) (λ_ s'=>∃ σ' H',Inv X pins σ' H' s'/\Q σ' H') X.xe s') ?_;exact xM jf hc ZZ I2 T gN uQ q λσ' H' s' I' q'=>BP ⟨σ',H',I',q'⟩
def Z5{wi:TI}{Q:VK}(sc:Scope)(N N':Ñ)(n:Nat)(hi:PI X t1 i1 wi)
  (h:wi σ H λJ H1=>∀ D,H1 D=none->∀ cl C s₀ H₀ ex,ic (dS X N' scope cl C s₀ H₀ ex) t1 f1 (sk elt t1 i1 f1 t2 i2 f2 scope pos (.ref D)<|compEnvC scope cl C X.env) J (λ_ H'=>Q (.ref D) H') (σ++List.replicate n none)<|upd H1 D<|.lst [])
  (hc:X.calm=true:=by rfl) (kd:X.env.scope=sc:=by rfl) (hN:X.N=N:=by rfl) (hk:nC sc scope N N'=true:=by decide +kernel) (hl:N'.length=N.length+n:=by rfl)
  (hs:∀ x,foldedSetIterable i1 X.env x=pure x:=by intro _;rfl):Ev X (.ListComp elt [⟨t1,i1,f1,0⟩,⟨t2,i2,f2,0⟩] scope pos) σ H Q:=
 yq (e:= .ListComp elt [⟨t1,i1,f1,0⟩,⟨t2,i2,f2,0⟩] scope pos) (newAcc:=newList []) (o0:={cls:= .type "list",dict:=none,data:= .seq ([]:Ó).toArray}) (u0:=λ_=> .lst []) (λ_ _ _ h=>CZ h<|by show(0:Nat)<=sizeLine;exact Cf _) (λ_ _ _=>⟨Cf _,[],0,.nil,Av _ rfl⟩) (inner:=sk elt t1 i1 f1 t2 i2 f2 scope pos) (λ_ _=>ZY) rfl rfl sc N N' n hi h hc kd hN hk hl hs
end
section
variable{X:Cx}{pins:Ð}{σ:St}{H:Hp}{s:Shared}{a:Addr}{y v:V}{u r:Value}{A:Around}{E:Î}
def Z6{H':Hp}{Q:Unit->Shared->Prop}(hu:A.units+1 < cLine)(I:Inv X pins σ H s)(g:cw H a y v H')(ry:RelV y u)(rv:RelV v r)(h:∀ s',Inv X pins σ H' s'->Q () s') :
  wpAny (model X.prog X.w) A (dictSet a u r) Q E s:=by
 rcases g with ⟨kvs,k,e,ey,l,eH⟩ | ⟨kvs,k,b,e,ey,eb,l,eH⟩
 ·subst ey eH;obtain⟨z,hd,vs,rel,dd⟩:=BU I.aI e;have hz:vs.length<=sizeLine:=by rw[<- rel.length];exact z
  have hl:(putK kvs k v).length<=sizeLine:=by have:=iE kvs k v;omega
  refine wpAny_dictSet_pairs (hsz:=hz) (ph ry) dd λh' jJ hs=>h _ ?_;have he:∃ q,h'.get? a=some q:=let ⟨q,_,_,hq,_⟩:=jJ;⟨q,hq⟩
  exact nj I (by rw[e];exact True.intro) hs he<|B0 hl hd (rel.put k rv) jJ
 ·subst ey eH;cases (show u=Value.ref b from ry);obtain⟨z,hd,xs,rel,dd⟩:=M7 I.aI e;have hz:xs.length<=sizeLine:=by rw[<- Paired.length rel];exact z
  have hl:(putK kvs k v).length<=sizeLine:=by have:=iE kvs k v;omega
  have room:(tupleKind<|dz X.prog X.w).room A:=by first | exact hu | exact Nat.lt_of_succ_lt hu | exact QC (Em _) hu
  refine wpAny_dictSet_heap (hsz:=hz) room (uk I.aI eb) dd λh' jJ hs=>h _ ?_;obtain⟨q,es,ep,hq,h2,h3,h4,_,h5⟩:=jJ;refine nj I (by rw[e];exact True.intro) hs ⟨q,hq⟩ ⟨hl,hd,_,(rel.put k eb rv).keeps λc ys ec=>?_,q,es,ep,hq,h2,h3,h4,h5⟩;rw[ax<|ce ec e λz=>nomatch z];exact ec
end
def my(k v:Expr)(acc:Value)(env:Env):Sem Unit:=do
 let kv <- eval k env
 let vv <- holding [kv]<|eval v env
 match acc with
 | .ref d=>do
  standAt {k.pos with endLine:=v.pos.endLine,endCol:=v.pos.endCol}
  holding [kv,vv] (dictSet d kv vv)
 | _=>unsupported "internal:dictcomp"
def sq(k v t1 i1:Expr)(f1:Ô)(t2 i2:Expr)(f2:Ô)(scope:Scope)(pos:Pos)(acc:Value)(env:Env):Sem Unit:=do
 let x <- eval i2 env
 standAt i2.pos
 let x <- foldedSetIterable i2 env x
 let _ <- runOwn (.compStart (.DictComp k v [⟨t1,i1,f1,0⟩,⟨t2,i2,f2,0⟩] scope pos) 1 (<- holding [x]<|pyIter x) acc env) env
section
variable{X:Cx}{k v t1 i1 t2 i2:Expr}{f1 f2:Ô}{scope:Scope}{pos:Pos}{σ:St}{H:Hp}{acc:Value}{env:Env}
def Z7:Clause (.DictComp k v [⟨t1,i1,f1,0⟩] scope pos) 0 t1 i1 f1 acc env (my k v acc env):=⟨rfl,λ_=>rfl,λ_ _ _=>rfl,λ_ _=>rfl,λ_ _ _=>rfl,λ_ _=>rfl,λit=>by
 unfold my;cases acc <;> first | rfl | (simp only[bind_assoc,pure_bind];rfl)⟩
def Z8:Clause (.DictComp k v [⟨t1,i1,f1,0⟩,⟨t2,i2,f2,0⟩] scope pos) 0 t1 i1 f1 acc env (sq k v t1 i1 f1 t2 i2 f2 scope pos acc env):=⟨rfl,λ_=>rfl,λ_ _ _=>rfl,λ_ _=>rfl,λ_ _ _=>rfl,λ_ _=>rfl,λit=>by
 unfold sq;simp only[bind_assoc,pure_bind];rfl⟩
def Z9:Clause (.DictComp k v [⟨t1,i1,f1,0⟩,⟨t2,i2,f2,0⟩] scope pos) 1 t2 i2 f2 acc env (my k v acc env):=⟨rfl,λ_=>rfl,λ_ _ _=>rfl,λ_ _=>rfl,λ_ _ _=>rfl,λ_ _=>rfl,λit=>by
 unfold my;cases acc <;> first | rfl | (simp only[bind_assoc,pure_bind];rfl)⟩
def FX{D:Addr}{Q:St->Hp->Prop}(hu:X.A.units+1 < cLine)(h:Ev X k σ H λy H1=>Ev X v σ H1 λx H2=>∃ H3,cw H2 D y x H3/\Q σ H3):k8 X (my k v (.ref D) X.env) σ H Q:=by
 refine⟨λpins s I=>?_⟩;unfold my;refine BJ<|aU (h.run pins s I) λkv s1 ⟨y,H1,I1,r1,h1⟩=>?_;refine BJ<|CG<|aU (h1.run pins s1 I1) λvv s2 ⟨x,H2,I2,r2,H3,dp,q⟩=>?_;show wpAny _ _ (standAt _ >>= λ_=>holding [kv,vv]<|dictSet D kv vv) _ _ _;exact BJ<|GZ<|CG<|Z6 hu I2 dp r1 r2 λs' I'=>⟨σ,H3,I',q⟩
def Z'{wi:TI}{Q:St->Hp->Prop}(jf:X.xe=λ_ _=>False)(hc:X.calm=true)(hi:PI X t2 i2 wi)(h:wi σ H λJ H1=>ic X t2 f2 (my k v acc X.env) J Q σ H1)
  (hs:∀ x,foldedSetIterable i2 X.env x=pure x:=by intro _;rfl):k8 X (sq k v t1 i1 f1 t2 i2 f2 scope pos acc X.env) σ H Q:=by
 refine⟨λpins s I=>?_⟩;unfold sq;refine BJ<|aU (hi pins s σ H _ I h) λx s1 h1=>?_;refine BJ<|GZ<|BJ<|IK (hs x)<|BJ<|CG<|CV h1 (λoW s2 h2=>?_) λ_ _ e=>e;obtain⟨it,fp,tn,J,H2,e,I2,T,gN,uQ,q⟩:=h2;subst e;refine BJ<|wpAny_runOwn (Q:=λ_ s'=>wpAny (model X.prog X.w) X.A (pure ()) (λ_ s'=>∃ σ' H',Inv X pins σ' H' s'/\Q σ' H') X.xe s') ?_;exact xM jf hc Z9 I2 T gN uQ q λσ' H' s' I' q'=>BP ⟨σ',H',I',q'⟩
def Pb{wi:TI}{Q:VK}(sc:Scope)(N N':Ñ)(n:Nat)(hi:PI X t1 i1 wi)
  (h:wi σ H λJ H1=>∀ D,H1 D=none->∀ cl C s₀ H₀ ex,ic (dS X N' scope cl C s₀ H₀ ex) t1 f1 (my k v (.ref D)<|compEnvC scope cl C X.env) J (λ_ H'=>Q (.ref D) H') (σ++List.replicate n none)<|upd H1 D<|.dT [])
  (hc:X.calm=true:=by rfl) (kd:X.env.scope=sc:=by rfl) (hN:X.N=N:=by rfl) (hk:nC sc scope N N'=true:=by decide +kernel) (hl:N'.length=N.length+n:=by rfl)
  (hs:∀ x,foldedSetIterable i1 X.env x=pure x:=by intro _;rfl):Ev X (.DictComp k v [⟨t1,i1,f1,0⟩] scope pos) σ H Q:=
 yq (e:= .DictComp k v [⟨t1,i1,f1,0⟩] scope pos) (newAcc:=newDict) (o0:={cls:= .type "dict",data:= .dict #[]}) (u0:=λ_=> .dT []) (λ_ _ _ h=>CZ h) (λ_ h hb=>B2 h hb) (inner:=my k v) (λ_ _=>Z7) rfl rfl sc N N' n hi h hc kd hN hk hl hs
def k5o{wi:TI}{Q:VK}(sc:Scope)(N N':Ñ)(n:Nat)(hi:PI X t1 i1 wi)
  (h:wi σ H λJ H1=>∀ D,H1 D=none->∀ cl C s₀ H₀ ex,ic (dS X N' scope cl C s₀ H₀ ex) t1 f1 (sq k v t1 i1 f1 t2 i2 f2 scope pos (.ref D)<|compEnvC scope cl C X.env) J (λ_ H'=>Q (.ref D) H') (σ++List.replicate n none)<|upd H1 D<|.dT [])
  (hc:X.calm=true:=by rfl) (kd:X.env.scope=sc:=by rfl) (hN:X.N=N:=by rfl) (hk:nC sc scope N N'=true:=by decide +kernel) (hl:N'.length=N.length+n:=by rfl)
  (hs:∀ x,foldedSetIterable i1 X.env x=pure x:=by intro _;rfl):Ev X (.DictComp k v [⟨t1,i1,f1,0⟩,⟨t2,i2,f2,0⟩] scope pos) σ H Q:=
 yq (e:= .DictComp k v [⟨t1,i1,f1,0⟩,⟨t2,i2,f2,0⟩] scope pos) (newAcc:=newDict) (o0:={cls:= .type "dict",data:= .dict #[]}) (u0:=λ_=> .dT []) (λ_ _ _ h=>CZ h) (λ_ h hb=>B2 h hb) (inner:=sq k v t1 i1 f1 t2 i2 f2 scope pos) (λ_ _=>Z8) rfl rfl sc N N' n hi h hc kd hN hk hl hs
end
open bA
def Pg{prog:Program}{w:World}{A:Around}{E:Î}{s:Shared}{a:Addr}{zs:Ñ}{z:Str}{tk:Tok}{Q:Î}(S:ay prog w s.heap a zs)(hb:zs.length+1 < 1000)
  (h:∀ h',Heap.SameBut a s.heap h'->ay prog w h' a (added zs z)->Q .none {s with heap:=h',toks:=s.toks+1}) :
  wpAny (model prog w) A (call (.builtin "set.add") [.ref a,.str z tk]) Q E s:=by
 have hT:s.TypeIs (.ref a) "set":=let ⟨o,_,_,_,ho,hx,_⟩:=S;⟨o,ho,hx.1⟩
 refine DG F.slot_set_add hT F.entry_set_add ?_<|F.args_set_add_2 _ _;unfold Builtin.«set.add» Builtin.Frozenset.oneOther;simp only[Gn,bind_assoc];unfold Builtin.Frozenset.addrOf setAdd;refine BJ<|BP ?_
 try dsimp only
 refine BJ<|BP ?_
 try dsimp only
 refine BJ ?_;refine CG ?_;refine BJ ((PySem.strKind prog w).pyHash (k:=z) (v:= .str z tk) (by simp[PySem.strKind,Value.isStrOf]) ?_);refine DA (s:={s with toks:=s.toks+1}) S hb λb h' sb S'=>?_;show wpAny _ _ (ret Value.none) _ _ _;exact BP ⟨_,rfl,h h' sb S'⟩
def q5a{prog:Program}{w:World}{A:Around}{E:Î}{s:Shared}{Q:Î}(k:Q (.ref s.heap.objs.size) {s with heap:=s.heap.push (gA w)}):wpAny (model prog w) A (newSet<|.type "set") Q E s:=by
 unfold newSet;refine BJ<|wp_text ?_
 dsimp only
 simp only[newObj];exact BJ<|PL<|BP k
def uR(elt:Expr)(acc:Value)(env:Env):Sem Unit:=do let v <- eval elt env;standAt elt.pos;let _ <- call (.builtin "set.add") [acc,v]
def sr(elt t1 i1:Expr)(f1:Ô)(t2 i2:Expr)(f2:Ô)(scope:Scope)(pos:Pos)(acc:Value)(env:Env):Sem Unit:=do
 let x <- eval i2 env
 standAt i2.pos
 let x <- foldedSetIterable i2 env x
 let _ <- runOwn (.compStart (.SetComp elt [⟨t1,i1,f1,0⟩,⟨t2,i2,f2,0⟩] scope pos) 1 (<- holding [x]<|pyIter x) acc env) env
section
variable{X:Cx}{elt t1 i1 t2 i2:Expr}{f1 f2:Ô}{scope:Scope}{pos:Pos}{σ:St}{H:Hp}{acc:Value}{env:Env}
def q1l:Clause (.SetComp elt [⟨t1,i1,f1,0⟩,⟨t2,i2,f2,0⟩] scope pos) 0 t1 i1 f1 acc env (sr elt t1 i1 f1 t2 i2 f2 scope pos acc env):=⟨rfl,λ_=>rfl,λ_ _ _=>rfl,λ_ _=>rfl,λ_ _ _=>rfl,λ_ _=>rfl,λit=>by
 unfold sr;simp only[bind_assoc,pure_bind];rfl⟩
def k99:Clause (.SetComp elt [⟨t1,i1,f1,0⟩,⟨t2,i2,f2,0⟩] scope pos) 1 t2 i2 f2 acc env (uR elt acc env):=⟨rfl,λ_=>rfl,λ_ _ _=>rfl,λ_ _=>rfl,λ_ _ _=>rfl,λ_ _=>rfl,λit=>by
 unfold uR
 first | rfl | (simp only[bind_assoc,pure_bind];rfl)⟩
def k9c{D:Addr}{Q:St->Hp->Prop} (h:Ev X elt σ H λv H1=>∃ z zs,v = .str z/\H1 D=some (bf X.prog X.w D zs)/\zs.length+1 < 1000/\Q σ (upd H1 D<|bf X.prog X.w D<|added zs z)):k8 X (uR elt (.ref D) X.env) σ H Q:=by
 refine⟨λpins s I=>?_⟩;unfold uR;refine BJ<|aU (h.run pins s I) λv s1 ⟨x,H1,I1,r1,z,zs,e,hD,hl,q⟩=>?_;subst e;obtain⟨tk,rfl⟩:=r1;refine BJ (GZ<|BJ<|Pg (I1.set hD) hl λh' sb S'=>BP ⟨σ,_,nj (t':=s1.toks+1) I1 (by rw[hD];exact True.intro) sb ?_<|rR S',q⟩);obtain⟨o,_,_,_,ho,_⟩:=S';exact⟨o,ho⟩
def k63{wi:TI}{Q:St->Hp->Prop}(jf:X.xe=λ_ _=>False)(hc:X.calm=true)(hi:PI X t2 i2 wi)(h:wi σ H λJ H1=>ic X t2 f2 (uR elt acc X.env) J Q σ H1)
  (hs:∀ x,foldedSetIterable i2 X.env x=pure x:=by intro _;rfl):k8 X (sr elt t1 i1 f1 t2 i2 f2 scope pos acc X.env) σ H Q:=by
 refine⟨λpins s I=>?_⟩;unfold sr;refine BJ<|aU (hi pins s σ H _ I h) λx s1 h1=>?_;refine BJ<|GZ<|BJ<|IK (hs x)<|BJ<|CG<|CV h1 (λoW s2 h2=>?_) λ_ _ e=>e;obtain⟨it,fp,tn,J,H2,e,I2,T,gN,uQ,q⟩:=h2;subst e;refine BJ<|wpAny_runOwn (Q:=λ_ s'=>wpAny (model X.prog X.w) X.A (pure ()) (λ_ s'=>∃ σ' H',Inv X pins σ' H' s'/\Q σ' H') X.xe s') ?_;exact xM jf hc k99 I2 T gN uQ q λσ' H' s' I' q'=>BP ⟨σ',H',I',q'⟩
def k73{wi:TI}{Q:VK}(sc:Scope)(N N':Ñ)(n:Nat)(hi:PI X t1 i1 wi)
  (h:wi σ H λJ H1=>∀ D,H1 D=none->∀ cl C s₀ H₀ ex,ic (dS X N' scope cl C s₀ H₀ ex) t1 f1 (sr elt t1 i1 f1 t2 i2 f2 scope pos (.ref D)<|compEnvC scope cl C X.env) J (λ_ H'=>Q (.ref D) H') (σ++List.replicate n none)<|upd H1 D<|bf X.prog X.w D [])
  (hc:X.calm=true:=by rfl) (kd:X.env.scope=sc:=by rfl) (hN:X.N=N:=by rfl) (hk:nC sc scope N N'=true:=by decide +kernel) (hl:N'.length=N.length+n:=by rfl)
  (hs:∀ x,foldedSetIterable i1 X.env x=pure x:=by intro _;rfl):Ev X (.SetComp elt [⟨t1,i1,f1,0⟩,⟨t2,i2,f2,0⟩] scope pos) σ H Q:=
 yq (e:= .SetComp elt [⟨t1,i1,f1,0⟩,⟨t2,i2,f2,0⟩] scope pos) (newAcc:=newSet<|.type "set") (o0:=gA X.w) (u0:=λD=>bf X.prog X.w D []) (λ_ _ _ h=>q5a h) (λ_ h _=>rR<|DM<|Av _ rfl) (inner:=sr elt t1 i1 f1 t2 i2 f2 scope pos) (λ_ _=>q1l) rfl rfl sc N N' n hi h hc kd hN hk hl hs
end
end L2
namespace L2
open PySem PySem.Builtin PySem.Builtin.Str
section
variable{X:Cx}{σ:St}{H:Hp}{Q:VK}
end
end L2
namespace PySem
def Plain(h:Heap)(d:Addr)(es:Array DictEntry)(ep:Nat):Prop:=∃ o,h.get? d=some o/\o.ExactDict/\o.data = .dict es ep
section
variable{P:Program}{w:World}{A:Around}{E:Î}{s:Shared}
def k5g(d:Addr)(hd:(d == sysModules)=false):MeetsIn P w (Builtin.«dict.items» ⟨[.ref d],[]⟩) (λ_ R u=>u.TypeIs (.ref d) "dict" /\
  R (.ok<|.ret<|.ref u.heap.objs.size) {u with heap:=u.heap.push {cls:= .type "dict_items",data:= .fields #[.ref d]}}):=by
 refine .of_wp λB R u ⟨hT,k⟩=>?_;unfold Builtin.«dict.items» Builtin.Dict.noArgs;refine BJ<|BJ<|wpAny_notOrdered_dict hT ?_;show wpAny _ _ (pure d) _ _ u;refine BP ?_;show wpAny _ _ (Builtin.Dict.showsAll d >>= _) _ _ u;unfold Builtin.Dict.showsAll;rw[BK<|by rw[hd];exact Ax];exact BJ<|BP<|BJ<|CZ<|BP ⟨_,rfl,k⟩
def k4u{v d:Addr}{es:Array DictEntry}{ep:Nat}{Q:Î}(hv:s.heap.IsItemsView v d)(hm:Plain s.heap d es ep)
  (k:Q (.ref s.heap.objs.size) {s with heap:=s.heap.push {cls:= .type "dict_itemiterator",data:= .fields #[.none,.bool false,.ref d,.int 0 0,.int es.size 0,.int ep 0,.none,.none]}}) :
  wpAny (model P w) A (pyIter<|.ref v) Q E s:=by
 obtain⟨vo,e1,e2,e3⟩:=id hv;obtain⟨o,f1,f2,f3⟩:=hm;refine KH hv.typeIs F.slot_dict_items_iter<|DG F.slot_dict_items_iter hv.typeIs F.entry_dict_items_iter ?_<|F.args_dict_items_iter_1 _;unfold Builtin.«dict_items.__iter__» Builtin.Dict_items.dictOf Builtin.Dict_items.newIterator;refine BJ<|BP<|BJ<|BJ<|JF e1 e3 (x:= .ref d) rfl (BP ?_);refine BJ<|BJ<|QM f1 f3<|BJ<|RZ f1 f3 ?_;have ow:Builtin.Dict_items.ownsTuple "dict_itemiterator" = true:=by decide
 simp only[ow,DP];refine CZ (BP ⟨_,rfl,"dict_itemiterator",_,⟨_,Av _ rfl,rfl⟩,F.slot_dict_itemiterator_next.lookup,?_⟩) ?_
 ·simpa[rawInt,Builtin.Dict_items.ownedTupleFields]using k
 ·simp only[sizeOk,Builtin.Dict_items.ownedTupleFields,Ay,Ad,Ar,Dc,DW];omega
def k4q{it d:Addr}{i ep:Nat}{es:Array DictEntry}{en:DictEntry}{y z:Value}{Q:Option Value->Shared->Prop}(hit:IsItemIter s.heap it d i es.size ep y z)(hm:Plain s.heap d es ep)(hx:es[i]?=some en)
  (k : ∀ h', IsItemIterOut h' it d (i + 1) es.size ep en.key en.val s.heap.objs.size → h'.get? s.heap.objs.size = some { cls := .type "tuple", data := .seq #[en.key, en.val] } →
   (∀ b o,b≠it->s.heap.get? b=some o->h'.get? b=some o)->Q (some<|.ref s.heap.objs.size) {s with heap:=h'}):wpAny (model P w) A (pyNext<|.ref it) Q E s:=by
 obtain⟨hp,g,dr,tk,os⟩:=s;obtain⟨o,f1,f2,f3⟩:=hm;have ty:Shared.TypeIs ⟨hp,g,dr,tk,os⟩ (.ref it) "dict_itemiterator":=⟨_,hit,rfl⟩;have lt:i < es.size:=by
  rcases Do i es.size with h | h
  ·exact h
  ·rw[Ej h]at hx;cases hx
 have ow:Builtin.Dict_items.ownsTuple "dict_itemiterator" = true:=by decide
 unfold pyNext;refine BJ<|KY<|IV (name:=Str.ofString "__next__") ty HD<|DG HD ty OD ?_<|MJ _;refine BJ<|BP<|BJ<|BJ ?_
 first | refine BJ (GD ty<|BP ?_) | refine BJ<|HY ty<|BP ?_
 refine BJ<|PJ hit rfl ?_;simp only[ow,DP];show wpAny _ _ (if(Value.ref d == Value.none)=true then _ else _) _ _ _;rw[BK (show ¬((Value.ref d == Value.none)=true)from Ax)];refine BJ<|BP<|BJ<|QM f1 f3 ?_;rw[BK<|by simp];refine BJ<|BP<|BJ<|RZ f1 f3 ?_;rw[BK<|by simp];refine BP ?_;have ee:es[i]=en:=Option.some.inj<|(Dp lt).symm.trans hx;simp only[show ¬((i:Int) < 0)from by omega,CT,Bo,hx];refine BJ ?_
 first | refine BJ (GD ty<|BP ?_) | refine BJ<|HY ty<|BP ?_
 refine BJ<|KN ty ?_;show wpAny _ _ (setField (.ref it) 3 (rawInt<|(i:Int)+1) >>= _) _ _ ⟨hp,g,dr,tk,os⟩;refine BJ (JB hit (by simp) λha ea sa=>?_);replace sa:Heap.SameBut it hp ha:=sa;replace ea:IsItemIter ha it d (i+1) es.size ep y z:=by
  have e:((i+1:Nat):Int)=(i:Int)+1:=by omega
  unfold IsItemIter;rw[e]
  simpa[rawInt]using ea
 have Ph:Shared.TypeIs ⟨ha,g,dr,tk,os⟩ (.ref it) "dict_itemiterator":=⟨_,ea,rfl⟩;refine BJ<|CG<|BJ<|KN Ph<|BJ<|KN Ph ?_;show wpAny _ _ (Builtin.Dict_items.pairFromOwner (.ref it) 6 en.key en.val) _ _ ⟨ha,g,dr,tk,os⟩;unfold Builtin.Dict_items.pairFromOwner Builtin.Dict_items.ownedTupleIsFree;refine BJ<|PK ?_;have eb:IsItemIter (ha.push {cls:= .type "tuple",data:= .seq #[en.key,en.val]}) it d (i+1) es.size ep y z:=Ai _ ea;have za:ha.objs.size=hp.objs.size:=sa.1;have il:it < hp.objs.size:=Au hit;have tb:(ha.push {cls:= .type "tuple",data:= .seq #[en.key,en.val]}).get? hp.objs.size=some {cls:= .type "tuple",data:= .seq #[en.key,en.val]}:=by rw[<- za];exact Av _ rfl
 have kb:∀ b u,b≠it->hp.get? b=some u->(ha.push {cls:= .type "tuple",data:= .seq #[en.key,en.val]}).get? b=some u:=λb u hb e=>Ai _<|sa.extBut b u hb e;rw[za];generalize ha.push {cls:= .type "tuple",data:= .seq #[en.key,en.val]}=hb at eb tb kb;refine BJ<|BJ<|JF (s:=⟨hb,g,dr,tk,os⟩) eb rfl (x:= .none) rfl (BP ?_);simp only[DP];refine BJ<|JF (s:=⟨hb,g,dr,tk,os⟩) eb rfl (x:=y) rfl (BJ<|JF (s:=⟨hb,g,dr,tk,os⟩) eb rfl (x:=z) rfl ?_);refine BJ (JB eb (by simp) λh3 e3 s3=>?_);replace s3:Heap.SameBut it hb h3:=s3;replace e3:IsItemIter h3 it d (i+1) es.size ep en.key z:=e3;refine BJ (JB e3 (by simp) λh4 e4 s4=>?_);replace s4:Heap.SameBut it h3 h4:=s4;replace e4:IsItemIter h4 it d (i+1) es.size ep en.key en.val:=e4;refine BJ (JB e4 (by simp) λh5 e5 s5=>?_);replace s5:Heap.SameBut it h4 h5:=s5;replace e5:IsItemIterOut h5 it d (i+1) es.size ep en.key en.val hp.objs.size:=e5;refine BJ (JB e5 (by simp) λh6 e6 s6=>?_);replace s6:Heap.SameBut it h5 h6:=s6;replace e6:IsItemIterOut h6 it d (i+1) es.size ep en.key en.val hp.objs.size:=e6;have all:=((s3.trans s4).trans s5).trans s6;exact BJ<|wpAny_letGo<|BP<|BP ⟨_,rfl,BP<|k h6 e6 (all.extBut _ _ (Ct il) tb) λb u nS e=>all.extBut b u nS<|kb b u nS e⟩
def k9x{it d:Addr}{i ep:Nat}{es:Array DictEntry}{y z:Value}{Q:Option Value->Shared->Prop}(hh:A.handled=none)(hit:IsItemIter s.heap it d i es.size ep y z)(hm:Plain s.heap d es ep)(hx:es.size<=i)
  (k:∀ h',Heap.ExtBut it s.heap h'->Q none {s with heap:=h'}):wpAny (model P w) A (pyNext<|.ref it) Q E s:=by
 obtain⟨o,f1,f2,f3⟩:=hm;have ty:s.TypeIs (.ref it) "dict_itemiterator":=⟨_,hit,rfl⟩;have ow:Builtin.Dict_items.ownsTuple "dict_itemiterator" = true:=by decide
 unfold pyNext;refine BJ<|KY<|IV (name:=Str.ofString "__next__") ty HD<|DG HD ty OD ?_<|MJ _;refine BJ<|BP<|BJ<|BJ ?_
 first | refine BJ (GD ty<|BP ?_) | refine BJ<|HY ty<|BP ?_
 refine BJ<|PJ hit rfl ?_;simp only[ow,DP];show wpAny _ _ (if(Value.ref d == Value.none)=true then _ else _) _ _ s;rw[BK (show ¬((Value.ref d == Value.none)=true)from Ax)];refine BJ<|BP<|BJ<|QM f1 f3 ?_;rw[BK<|by simp];refine BJ<|BP<|BJ<|RZ f1 f3 ?_;rw[BK<|by simp];refine BP ?_;simp only[show ¬((i:Int) < 0)from by omega,CT,Bo,Ej hx];refine BJ ?_
 first | refine BJ (GD ty<|BP ?_) | refine BJ<|HY ty<|BP ?_
 show wpAny _ _ (setField (.ref it) 2 .none >>= _) _ _ s;refine BJ (DR hit rfl (by simp) ?_);show wpAny _ _ (newExc (.type "StopIteration") [] >>= _) _ _ _;refine BJ ?_;simp only[newExc,newTuple];refine BJ (CZ ?_<|by size_fits);refine BJ (m:=firstArgMember _ _) (IK (a:=Value.none) (by first | rfl | (simp only[firstArgMember];rfl)) ?_);refine CZ ?_ (by size_fits);simp only[raiseNew];refine BJ<|wpAny_handled ?_;rw[show A.in1.handled=none from hh];refine BJ<|BP<|wpAny_throw ?_;exact BJ<|JM (T:= "StopIteration") (b:=true) ⟨_,Av _ rfl,rfl⟩ isSubtype_stop<|BP<|k _<|((CQ ..).extBut.push _).push _
def j7z:entryFor table "dict_itemiterator.__iter__" = some Builtin.«dict_keyiterator.__iter__»:=
 PB (id':= "dict_keyiterator.__iter__") (by kernel_rfl) rfl (by decide +kernel) (by kernel_rfl)
def k5l{it d:Addr}{i n ep:Nat}{y z:Value}{Q:Î}(e:IsItemIter s.heap it d i n ep y z)(h:Q (.ref it) s):wpAny (model P w) A (pyIter<|.ref it) Q E s:=by
 have ty:s.TypeIs (.ref it) "dict_itemiterator":=⟨_,e,rfl⟩;refine KH ty OJ<|DG OJ ty j7z ?_<|F.args_dict_itemiterator_iter_1 _;show wpAny _ _ (ret<|.ref it) _ _ s;exact BP ⟨_,rfl,"dict_itemiterator",_,ty,F.slot_dict_itemiterator_next.lookup,h⟩
end
end PySem
namespace L2
open PySem PySem.Spec PyProof.Rows
section
variable{X:Cx}{pins:Ð}{σ:St}{H:Hp}{s:Shared}
def k2v{d:Addr}{kvs:List (List Key×V)}(I:Inv X pins σ H s)(e:H d=some (.dT kvs)):∃ o,s.heap.get? d=some o/\Inv X pins σ (upd H d<|.b7 o<|.dT kvs) s:=by
 obtain⟨z,hd,xs,r,o,es,ep,ho,h2,h3,h4,h5⟩:=(show aB X.prog X.w H s.heap d (.dT kvs)from I.aI d _ e);refine⟨o,ho,?_⟩;have r':KT (upd H d<|.b7 o<|.dT kvs) kvs xs:=KT.keeps r λb ys q=>by
  rw[ax<|ce q e λz=>nomatch z];exact q
 exact nj (t':=s.toks) I (by rw[e];exact True.intro) ⟨rfl,λ_ _=>rfl⟩ ⟨o,ho⟩ (show aB X.prog X.w _ s.heap d (.b7 o<|.dT kvs) from⟨ho,z,hd,xs,r',o,es,ep,ho,h2,h3,h4,h5⟩)
def Itm(d:Addr)(o:Obj)(kvs:List<|List Key×V):It:=
  ⟨λi H => H d = some (.b7 o<|.dT kvs) ∧ i < kvs.length,
   λi H v H'=>∃ T b k x,kvs[i]?=some (k,x)/\H b=some (.tup<|k.map kV)/\H T=none/\v = .ref T/\H'=upd H T (.tup [.ref b,x]),
   λi H=>H d=some (.b7 o<|.dT kvs)/\kvs.length<=i⟩
def Pj{P:Program}{w:World}{h:Heap}{d:Addr}{o:Obj}{es:Array DictEntry}{ep:Nat}{kvs:List (List Key×V)}(aI:b9 P w H h)(e:H d=some (.b7 o<|.dT kvs))(hd:o.data = .dict es ep) :
  Plain h d es ep/\∃ xs,KT H kvs xs/\es.toList=xs.map (entryOfKey<|tupleKind<|dz P w):=by
 obtain⟨ho,z,_,xs,r,o',fT,oQ,fQ,h2,h3,h4,h5⟩:=(show aB P w H h d (.b7 o<|.dT kvs)from aI d _ e);have:o=o':=Option.some.inj<|ho.symm.trans fQ;subst this;rw[hd]at h3
 injection h3 with e1 e2
 subst e1;subst e2;exact⟨⟨o,ho,h2,hd⟩,xs,r,h4⟩
theorem kt_len{H:Hp}:∀{kvs:List (List Key×V)} {xs:List (List Key×Addr×Value)},KT H kvs xs->kvs.length=xs.length:=λr=>by
 induction r with
 | nil=>rfl
 | cons _ _ ih=>simp only[Ar,ih]
theorem kt_at{H:Hp}:∀{kvs:List (List Key×V)} {xs:List (List Key×Addr×Value)},KT H kvs xs->∀{i:Nat} {k:List Key} {x:V},kvs[i]?=some (k,x)->∃ b u,xs[i]?=some (k,b,u)/\H b=some (.tup<|k.map kV)/\RelV x u:=λr=>by
 induction r with
 | nil=>intro i k x h;simp at h
 | @cons p q ps qs hq t ih=>
  intro i k x h;cases i with
  | zero=>
   simp only[List.getElem?_cons_zero,Option.some.injEq]at h;subst h;obtain⟨a,b,c⟩:=q;obtain⟨q1,q2,q3⟩:=hq;have q1:k=a:=q1;subst q1;exact⟨b,c,rfl,q2,q3⟩
  | succ i=>exact ih<|by simpa using h
def k5n{P:Program}{w:World}{K:PySem.W.Frag}{elts:Ô}{kk:Nat}{tp:Pos}(d it:Addr)(o:Obj)(es:Array DictEntry)(ep:Nat)(kvs:List<|List Key×V)(sg:o.data = .dict es ep) :
  Turn P w K (.Tuple elts kk tp) (Itm d o kvs) [it] it (λi h=>∃ y z,IsItemIter h it d i es.size ep y z) where
 mem:=by simp
 obj:=λi h st b hb=>by
  have e:b=it:=by simpa using hb
  subst e;obtain⟨y,z,e⟩:=st;exact⟨_,e,λv z=>by cases z⟩
 keep:=λi h h' st k=>let ⟨y,z,e⟩:=st;⟨y,z,k it (by simp) _ e⟩
 item:=by
  intro X hP hw hK hc i pins s σ H E I hf st hg;subst hP hw hK;obtain⟨f0,f1,f2,f3,f4,f5⟩:=hf it (by simp);obtain⟨hd,hi⟩:=hg;obtain⟨pd,xs,r,uS⟩:=Pj I.aI hd sg;obtain⟨y,z,st⟩:=st;have hx:kvs[i]?=some (kvs[i].1,kvs[i].2):=Ab hi;obtain⟨b,u,gU,hb,ru⟩:=kt_at r hx;have yv:=entry_at uS i;rw[gU]at yv;refine k4q st pd (en:=entryOfKey (tupleKind<|dz X.prog X.w) (kvs[i].1,b,u)) yv λh' q1 q2 kp=>?_;have hT:H s.heap.objs.size=none:=I.aI.fresh<|Ao _;have nT:it≠s.heap.objs.size:=Bp<|Au st;have I1:Inv X pins σ (upd H s.heap.objs.size<|.tup [.ref b,kvs[i].2]) {s with heap:=s.heap.push {cls:= .type "tuple",data:= .seq #[Value.ref b,u]}}:=
   I.laid (t':=s.toks) (λb o e=>Ai _ e) (Ao _) (show aB X.prog X.w _ _ _ (.tup [.ref b,kvs[i].2]) from⟨(by show 2<=sizeLine;decide),[Value.ref b,u],.cons rfl (.cons ru .nil),⟨_,Av _ rfl,rfl,_,rfl⟩⟩)
  have fp:∀ c∈[it],ci X pins (upd H s.heap.objs.size<|.tup [.ref b,kvs[i].2]) c:=λc bY=>by
   have e:c=it:=by simpa using bY
   subst e;exact⟨by rw[ax nT];exact f0,f1,f2,f3,f4,f5⟩
  have I2:=Inv.cv (h':=h') (t':=s.toks) I1 fp λc v bY e=>by
   have nc:c≠it:=by simpa using bY
   rcases Heap.get?_push_cases e with ⟨ec,eo⟩ | e'
   ·rw[ec,eo];exact q2
   ·exact kp c v nc e'
  refine⟨_,rfl,wpAny_letOwnedTupleGo_items (s:={s with heap:=h'}) q1 λh2 b1 sb=>?_⟩;have I3:=Inv.cv (h':=h2) (t':=s.toks) I2 fp λc v bY e=>(sb.2 c<|by simpa using bY).trans e;exact⟨.ref s.heap.objs.size,_,I3,rfl,⟨_,b,kvs[i].1,kvs[i].2,hx,hb,hT,rfl,rfl⟩,⟨_,_,b1⟩,λc bY=>(fp c bY).1⟩
 done:=by
  intro X hP hw hK hc i pins s σ H E I hf st hg;subst hP hw hK;obtain⟨hd,hi⟩:=hg;obtain⟨pd,xs,r,uS⟩:=Pj I.aI hd sg;obtain⟨y,z,st⟩:=st;have hl:es.size=kvs.length:=by rw[kt_len r,<- Bv,uS,Aa]
  exact k9x (I.ok.hd hc) st pd (by omega) λh' eb=>⟨rfl,I.cv (t':=s.toks) hf λc v bY e=>eb c v (by simpa using bY) e⟩
 self:=λ_ _ _ _ _ st h=>let ⟨y,z,e⟩:=st;k5l e h
end
section
variable{X:Cx}
def q8a(to:TE):TI:=λσ H R=>to σ H λx H1=>∃ d kvs,x = .ref d/\H1 d=some (.dT kvs)/\∀ o,R (Itm d o kvs)<|upd H1 d<|.b7 o<|.dT kvs
def Pk{elts:Ô}{kk:Nat}{tp ap cp:Pos}{l:Expr}{to:TE}(ho:PE X l to)(bW:attributeBase l "items" X.env (eval l X.env)=eval l X.env:=by rfl)(hline:(ap.endLine == cp.line)=true:=by rfl) :
  PI X (.Tuple elts kk tp) (.Call (.Attribute l "items" ap) [] [] cp) (q8a to):=by
 intro pins s σ H R I h;refine wpAny_Call_method0_late bW hline<|aU (ho pins s σ H _ I h) λv s1 ⟨x,H1,I1,r1,q1⟩=>?_;obtain⟨d,kvs,e,hd,q⟩:=q1;subst e;cases (show v=Value.ref d from r1);obtain⟨_,hsy,_,_,o,es,ep,e1,e2,e3,_⟩:=(show aB X.prog X.w H1 s1.heap d (.dT kvs)from I1.aI d _ hd);have ty:s1.TypeIs (.ref d) "dict":=⟨o,e1,e2.1⟩;refine⟨"dict","dict.items",F.plainAttrs_dict,F.slot_dict_items,F.type_dict_items,ty,λa ea=>?_,KJ rfl (PySem.evalArgs_none ?_)⟩
 ·cases ea;exact⟨o,e1,e2.2.1⟩
 refine call_meetsIn F.slot_dict_items ty F.entry_dict_items (F.args_dict_items_1 _) (k5g d hsy) ⟨ty,?_⟩;obtain⟨o',eo,I2⟩:=k2v I1 hd;have:o=o':=Option.some.inj<|e1.symm.trans eo;subst this;have I3:=I2.kept (t':=s1.toks) (h':=s1.heap.push {cls:= .type "dict_items",data:= .fields #[.ref d]}) λb u e=>Ai _ e;refine k4u (s:={s1 with heap:=s1.heap.push {cls:= .type "dict_items",data:= .fields #[.ref d]}}) (d:=d) (es:=es) (ep:=ep) ⟨_,Av _ rfl,rfl,rfl⟩ ⟨o,Ai _ e1,e2,e3⟩ ?_;refine⟨_,[(s1.heap.push {cls:= .type "dict_items",data:= .fields #[.ref d]}).objs.size],_,_,_,rfl,I3.kept (t':=s1.toks) λb u e=>Ai _ e,k5n d _ o es ep kvs e3,⟨_,_,Av _ rfl⟩,λb hb=>?_,q o⟩;have e:b=(s1.heap.push {cls:= .type "dict_items",data:= .fields #[.ref d]}).objs.size:=by simpa using hb
 subst e;exact I3.lK (Ao _)<|I3.aI.fresh<|Ao _
end
section
variable{X:Cx}{tg:Expr}{ifs:Ô}{inner:Sem Unit}{σ:St}{H:Hp}{d:Addr}{o:Obj}{kvs:List (List Key×V)}{after:St->Hp->Prop}
def Pn(Pv:Nat->St->Hp->Prop)(h0:Pv 0 σ H)(hl:∀ i σ' H',i<=kvs.length->Pv i σ' H'->H' d=some (.b7 o<|.dT kvs))
  (hs:∀ i k x b T σ' H',kvs[i]?=some (k,x)->Pv i σ' H'->H' b=some (.tup<|k.map kV)->H' T=none->Eg X tg (.ref T) σ' (upd H' T<|.tup [.ref b,x]) λσ2 H3=>Ei X ifs σ2 H3 λc H4=>if c=true then k8 X inner σ2 H4 (Pv<|i+1)else Pv (i+1) σ2 H4)
  (hd:∀ σ' H',Pv kvs.length σ' H'->after σ' H'):ic X tg ifs inner (Itm d o kvs) after σ H:=by
 refine⟨λi m σ' H'=>m=kvs.length - i/\i<=kvs.length/\Pv i σ' H',⟨_,rfl,Cf _,h0⟩,?_⟩;rintro i m σ' H' ⟨rfl,hi,p⟩;have q:=hl i σ' H' hi p
 by_cases bd:i < kvs.length
 ·refine .inr ⟨⟨q,bd⟩,Pv<|i+1,λσ' H' p'=>⟨kvs.length - (i+1),by omega,rfl,bd,p'⟩,λv H2 y=>?_⟩;obtain⟨T,b,k,x,hx,hb,hT,rfl,rfl⟩:=y;exact hs i k x b T σ' _ hx p hb hT
 ·have e:i=kvs.length:=by omega
  subst e;exact .inl ⟨⟨q,Ao _⟩,hd σ' H' p⟩
end
open bA
def au{α:Type}:List α->List α
 | []=>[]
 | [a]=>[a]
 | a :: _ :: r=>a :: au r
theorem qd{α:Type}:∀(xs:List α) (k:Nat),(au xs)[k]?=xs[2 * k]?
 | [],k=>by simp[au]
 | [a],0=>rfl
 | [a],k+1=>by
  show([]:List α)[k]?=[a][2 * (k+1)]?;rw[Be<|Cf _,Be<|by show 1<=_;omega]
 | a :: b :: r,0=>rfl
 | a :: b :: r,k+1=>by
  show(au r)[k]?=(a :: b :: r)[2 * (k+1)]?;rw[qd r k,show 2 * (k+1)=2 * k+1+1 by omega];rfl
theorem uT{α:Type}:∀(xs:List α),(au xs).length=(xs.length+1) / 2
 | []=>by
  show 0=(0+1) / 2;omega
 | [a]=>by
  show 1=(1+1) / 2;omega
 | a :: b :: r=>by
  show(au r).length+1=(r.length+1+1+1) / 2;rw[uT r];omega
def q0a{α:Type}(xs:List α):(au xs).length<=xs.length:=by
 rw[uT];omega
theorem Pp:∀{xs:List V} {us:Ó},aA xs us->aA (au xs) (au us)
 | [],us,r=>by
  have:=r.zero;subst this;exact .nil
 | [a],us,r=>by
  obtain⟨u,rfl,ru⟩:=r.one;exact .cons ru .nil
 | a :: b :: r,us,h=>by
  cases h with
  | cons h1 h2=>
   cases h2 with
   | cons h3 h4=>exact .cons h1<|Pp h4
theorem Pq{α:Type}(g:Nat->Option α):∀(c:Nat),(∀ k,k < c->∃ v,g k=some v)->((List.range c).filterMap g).length=c/\∀ k,k < c->((List.range c).filterMap g)[k]?=g k
 | 0,_=>⟨rfl,λk h=>absurd h<|Ee _⟩
 | c+1,h=>by
  obtain⟨h1,h2⟩:=Pq g c λk hk=>h k (by omega);obtain⟨v,hv⟩:=h c (by omega);have e:(List.range<|c+1).filterMap g=(List.range c).filterMap g++[v]:=by
   rw[Du,List.filterMap_append,Ef,hv];rfl
  rw[e];refine⟨by rw[Ad,h1];rfl,λk hk=>?_⟩
  by_cases lY:k < c
  ·rw[An<|by omega];exact h2 k lY
  ·have:k=c:=by omega
   subst this;rw[Am (by omega),h1,Ed,hv];rfl
def k40(its:Ó):slicePick its.toArray none none (some 2)=(au its).toArray:=by
 unfold slicePick;have hb:sliceBounds none none (some 2) its.toArray.size=(0,(its.length:Int),2):=rfl;rw[hb]
 congr 1
 show((sliceRange 0 (its.length:Int) 2).filterMap (its.toArray[·]?))=au its;have hr:sliceRange 0 (its.length:Int) 2=(List.range<|(its.length+1) / 2).map λk=>2 * k:=by
  unfold sliceRange;have e1:(if(2:Int) > 0 then(if(0:Int) < (its.length:Int) then((its.length:Int) - 0+2 - 1) / 2 else 0) else(if(0:Int) > (its.length:Int) then(0 - (its.length:Int) - 2 - 1) / (-2)else 0)).toNat=(its.length+1) / 2:=by
   rw[BL<|by decide]
   split <;> omega
  show(List.range _).map _=_;rw[e1];exact Aq λk _=>by omega
 rw[hr,List.filterMap_map];obtain⟨h1,h2⟩:=Pq (λk=>its.toArray[2 * k]?) ((its.length+1) / 2) λk hk=>⟨its[2 * k]'(by omega),by rw[<- Cd];exact Ab (l:=its)<|by omega⟩;apply Dz;intro k;show((List.range<|(its.length+1) / 2).filterMap λk=>its.toArray[2 * k]?)[k]?=_
 by_cases hk:k < (its.length+1) / 2
 ·rw[h2 k hk,qd,<- Cd]
 ·rw[Be (by omega),Be<|by rw[uT];omega]
section
variable{X:Cx}{σ:St}{H:Hp}{Q:VK}
def q1y{e:Expr}{j:Nat}{p1 p2 pos:Pos} (h:Ev X e σ H λx H1=>∃ a xs,x = .ref a/\ak X.K H1 a xs/\∀ p,H1 p=none->Q (.ref p) (upd H1 p<|.lst<|au xs)) :
  Ev X (.Subscript e (.Slice none none (some<|.Constant (.int 2) j p1) p2) pos) σ H Q:=by
 refine⟨λpins s I=>Subscript_<|aU (h.run pins s I) λv s1 ⟨x,H1,I1,r1,a,xs,ex,hx,q⟩=>?_⟩;subst ex;cases (show v=Value.ref a from r1);refine wpAny_Slice ?_;rw[evalPart_none];refine BP<|BP ?_;rw[evalPart_some];refine aU ((aC (X:=X) (i:=2) (j:=j) (p:=p1) (σ:=σ) (H:=H1) (Q:=λy H2=>y = .int 2/\H2=H1) ⟨rfl,rfl⟩).run pins s1 I1) λv2 s2 ⟨y,H2,I2,r2,ey,eh⟩=>?_;subst ey eh;obtain⟨t,rfl⟩:=r2;obtain⟨its,r,pl,hz⟩:=I2.list hx;have hlen:=r.length;have I3:Inv X pins σ H2 {s2 with heap:=s2.heap.push {cls:= .type "slice",data:= .fields #[.none,.none,.int 2 t]}}:=I2.kept (t':=s2.toks) λb ob q=>Ai _ q;have Pt:=pl.isList.push {cls:= .type "slice",data:= .fields #[.none,.none,.int 2 t]};show wpAny (model X.prog X.w) X.A (subscriptTail e _ (.ref a)<|.ref s2.heap.objs.size) (EP X pins σ Q) X.xe {s2 with heap:=s2.heap.push {cls:= .type "slice",data:= .fields #[.none,.none,.int 2 t]}};refine tail_any (ops:=[.ref a,.ref s2.heap.objs.size]) (T:= "list") (Heap.IsList.typeIs (s:={s2 with heap:=s2.heap.push {cls:= .type "slice",data:= .fields #[.none,.none,.int 2 t]}}) Pt) slot_list_getitem.lookup ?_ (by with_unfolding_all rfl);refine wpAny_getItem_list_slice (s:={s2 with heap:=s2.heap.push {cls:= .type "slice",data:= .fields #[.none,.none,.int 2 t]}}) Pt (Heap.IsSliceOf.new ..) .none .none (.int 2 t) (by decide) ?_ (by rw[Ay];omega);rw[k40];exact⟨.ref _,_,I3.uf (t':=s2.toks) (Pp r)<|Bq (q0a _) hz,rfl,q _ I3.fresh⟩
end
section
variable{prog:Program}{w:World}{A:Around}{E:Î}{s:Shared}
def k74{Q:Î}(k:Q (.ref s.heap.objs.size) {s with heap:=s.heap.push (gA w)}):codeAny (model prog w) A (.call (.builtin "set.__new__") ⟨[.type "set"],[]⟩) (wants Q E) s:=by
 refine JR ?_;show wpAny _ A.in1 (checkBuiltinCall "set.__new__" ⟨[.type "set"],[]⟩ >>= λ_=>again<|.builtin "set.__new__" ⟨[.type "set"],[]⟩) _ _ s;refine BJ<|IK PySem.F.newCall_set_0<|BP ⟨IW UG _,FN PySem.F.entry_set_new ?_⟩;rw[FJ UG _];unfold Builtin.«set.__new__» Builtin.Frozenset.newClass
 dsimp only
 refine BJ<|BJ<|IK (show isType (.type "set")=pure true from rfl)<|BP ?_;simp only[Ec,Bb,CT];unfold newSet;refine BJ<|BJ<|wp_text ?_
 dsimp only
 simp only[newObj];exact BJ<|PL<|BP<|BP k
theorem k54{Q:Î}(k:Q (.ref s.heap.objs.size) {s with heap:=s.heap.push (gA w)}):wpAny (model prog w) A (call (.type "set") []) Q E s:=by
 obtain⟨c,tl,DS⟩:=PySem.F.called_set.mro;have uv:=PySem.F.called_set.made;have mh:=PySem.F.called_set.sub;refine wpAny_call<|JR ?_;show wpAny _ _ (callAny (.type "set") _) _ _ _;refine BP ⟨Code.quiet_builtin _ (by decide +kernel),FN PySem.F.entry_type_call ?_⟩;rw[Around.under_plain (weight_type_call_type "set" [] []) rfl];have h1:=PySem.F.called_set.notType;have h2:=PySem.F.called_set.canCreate;have h3:=PySem.F.typeCall_set_0
 repeat (any_goals (first | assumption | wp_step))
 refine JH (k74 (E:=E) (Q:=λv u=>v = .ref s.heap.objs.size/\u={s with heap:=s.heap.push (gA w)}) ⟨rfl,rfl⟩) λr u hr=>?_;cases r with
 | error e=>exact hr
 | ok fl=>
  cases fl with
  | ret v=>
   obtain⟨rfl,rfl⟩:=hr;have hT:Shared.TypeIs {s with heap:=s.heap.push (gA w)} (.ref s.heap.objs.size) "set":=⟨_,Av _ rfl,rfl⟩;have rN:=PySem.F.called_set.init.lookup;have DT:=PySem.F.called_set.init.bind<|.ref s.heap.objs.size
   repeat (any_goals (first | assumption | wp_step))
   refine JH (codeAny_call_builtin (R:=wants (λr u=>r = .none/\Q (.ref s.heap.objs.size) u) E) PySem.F.called_set.init.plain PySem.F.entry_set_init<|check_set_init hT ?_) λr2 u2 pJ=>?_
   ·unfold Builtin.«set.__init__» noKeywords
    wp_walk
    exact⟨rfl,k⟩
   ·cases r2 with
    | error e=>exact pJ
    | ok f2=>
     cases f2 with
     | ret r=>
      obtain⟨rfl,hq⟩:=pJ
      repeat (any_goals (first | assumption | wp_step))
     | _=>exact pJ.elim
  | _=>exact hr.elim
def k6z{a:Addr}{zs:Ñ}{z:Str}{tk:Tok}{Q:Î}(S:ay prog w s.heap a zs) (h:Q (.bool<|decide (z∉zs)) {s with toks:=s.toks+1}):wpAny (model prog w) A (compareOp .NotIn (.str z tk)<|.ref a) Q E s:=by
 have hT:=S.typeIs;show wpAny _ _ (do return .bool (!(<- contains (.ref a)<|.str z tk))) Q E s;refine BJ ?_;unfold contains
 try with_reducible refine CG ?_
 refine BJ<|RT hT PySem.F.slot_set_contains.lookup ?_;show wpAny _ _ (if(some (Value.builtin "set.__contains__") == some Value.none)=true then _ else _) _ E s;rw[BK<|by rw[beq_builtin_none];exact Ax];refine BJ<|wpAny_callSpecialUnlessNone?_slot (name:=Str.ofString "__contains__") hT QV<|DG QV hT entry_set_contains ?_<|PySem.F.args_set_contains_2 _ _;unfold Builtin.«frozenset.__contains__» Builtin.Frozenset.oneOther;simp only[Gn,bind_assoc];unfold Builtin.Frozenset.addrOf Builtin.Frozenset.withSetAsKey setContains;refine BJ<|BP ?_
 try dsimp only
 refine BJ<|BP ?_
 try dsimp only
 refine BJ<|wpAny_tryCatch<|CG ?_;refine BJ<|(strKind prog w).pyHash (k:=z) (NK _ _ _ _) ?_;obtain⟨o,es,ep,t,ho,hx,hd,T⟩:=S;refine BJ<|N0 (s:={s with toks:=s.toks+1}) ho hd T (λhz=>?_) λj hj e=>?_
 ·refine BP ?_;show wpAny _ _ (ret<|Value.bool false) _ _ _;rw[BW hz]at h;exact BP ⟨_,rfl,GQ<|BP h⟩
 ·refine BP ?_;show wpAny _ _ (ret<|Value.bool true) _ _ _;have hz:z∈zs:=T.keys.mem_iff.mp (by rw[<- e];exact Ap.mpr ⟨_,Bn hj,rfl⟩);rw[BR<|not_not_intro hz]at h;exact BP ⟨_,rfl,GQ<|BP h⟩
end
section
variable{X:Cx}{σ:St}{H:Hp}{Q:VK}
def q4k{p pos:Pos}(hm:X.mg "set" = none)(h:∀ D,H D=none->Q (.ref D) (upd H D<|bf X.prog X.w D []))(hg:Gl X "set":=by rfl):Ev X (.Call (.Name "set" p) [] [] pos) σ H Q:=by
 refine⟨λpins s I=>Call_<|oR I hg hm LR<|PyProof.Rows.callWith_type0<|k54 ?_⟩;exact⟨.ref s.heap.objs.size,_,I.laid (t':=s.toks) (λb o e=>Ai _ e) (Ao _)<|rR<|DM<|Av _ rfl,rfl,h _ I.fresh⟩
def k09:cV X (compareOp .NotIn) (λx y H Q=>∃ z a zs,x = .str z/\y = .ref a/\H a=some (bf X.prog X.w a zs)/\Q (.bl<|decide (z∉zs)) H):=by
 intro pins s σ H x y v u Q I rx ry h;obtain⟨z,a,zs,rfl,rfl,hA,q⟩:=h;obtain⟨t,rfl⟩:=rx;cases (show u=Value.ref a from ry);exact k6z (I.set hA) ⟨.bl _,H,I.tok _,rfl,q⟩
def q4b{o e:Expr}{ap cp:Pos} (h:Ev X o σ H λx H1=>∃ a,x = .ref a/\(∃ zs,H1 a=some (bf X.prog X.w a zs))/\Ev X e σ H1 λy H2=>∃ z zs,y = .str z/\H2 a=some (bf X.prog X.w a zs)/\zs.length+1 < 1000/\Q .non (upd H2 a<|bf X.prog X.w a<|added zs z))
  (bW:attributeBase o "add" X.env (eval o X.env)=eval o X.env:=by rfl)
  (cm:((backTo cp<|starEach [e] X.env).all (λx=>!x.1) && (backToKw cp<|keywordEach [] X.env).all (λx=>x.1.isSome) && decide ([e].length+([]:List Keyword).length+(if([]:List Keyword).isEmpty then 0 else 1) < 30))=true:=by rfl)
  (hline:(ap.endLine == cp.line)=true:=by rfl) (hs:starEach [e] X.env=(false,eval e X.env) :: starEach [] X.env:=by rfl) (db:isStar e=false:=by rfl):Ev X (.Call (.Attribute o "add" ap) [e] [] cp) σ H Q:=by
 refine⟨λpins s I=>wpAny_Call_method_late bW cm hline rfl (aU (h.run pins s I) λv s1 ⟨x,H1,I1,r1,a,ex,⟨zs,hA⟩,h2⟩=>?_)⟩;subst ex;cases (show v=Value.ref a from r1);have S:=I1.set hA;refine⟨"set","set.add",PySem.F.plainAttrs_set,PySem.F.slot_set_add,PySem.F.type_set_add,S.typeIs,λb eb=>?_,?_⟩
 ·cases eb;obtain⟨o,_,_,_,ho,hx,_⟩:=S;exact⟨o,ho,hx.2.1⟩
 have hE:Ea X [e] σ H1 (λys H2=>∃ z zs,ys=[.str z]/\H2 a=some (bf X.prog X.w a zs)/\zs.length+1 < 1000/\Q .non (upd H2 a<|bf X.prog X.w a<|added zs z)):=aq (h2.mono λy H2 ⟨z,zs,ey,q⟩=>az ⟨z,zs,by rw[ey],q⟩) db;have Pu:=hE.run cp pins s1 I1;rw[hs]at Pu ⊢;refine KJ rfl (MK ?_);refine aU Pu λus s2 ⟨vs,H2,I2,r2,z,ys,ev,Pw,hl,q⟩=>?_;subst ev;obtain⟨u,rfl,ru⟩:=vals1 r2;obtain⟨tk,rfl⟩:=ru;refine Pg (I2.set Pw) hl λh' sb S'=>⟨.non,_,nj (t':=s2.toks+1) I2 (by rw[Pw];exact True.intro) sb ?_<|rR S',rfl,q⟩;obtain⟨o,_,_,_,ho,_⟩:=S';exact⟨o,ho⟩
end
end L2
namespace Nt
open PySem L2
def dH(c:Int)(n:Net)(e:End):End:=(e.1,(((e.2:Int)+c) % ((row n e.1).length:Int)).toNat)
def sv{c:Int}{n:Net}{e:End}(h:e∈ends n):(((dH c n e).2:Nat):Int)=((e.2:Int)+c) % ((row n e.1).length:Int):=by
 obtain⟨z,hz⟩:=af.mp h;have:=f9 hz;exact Int.toNat_of_nonneg<|Ca _<|by omega
def Px{c:Int}{n:Net}{e:End}(h:e∈ends n):dH c n e∈ends n:=by
 obtain⟨z,hz⟩:=af.mp h;have h1:=f9 hz;have h2:=sv (c:=c) h;have h3:((e.2:Int)+c) % ((row n e.1).length:Int) < ((row n e.1).length:Int):=Ci _ (by omega);exact af.mpr<|xY (e:=dH c n e)<|by show(dH c n e).2 < (row n e.1).length;omega
def qe{c:Int}{n:Net}{e:End}(h:e∈ends n):dH (-c) n (dH c n e)=e:=by
 have h2:=sv (c:=c) h;have h3:=sv (c:=-c)<|Px (c:=c) h;obtain⟨z,hz⟩:=af.mp h;have h1:=f9 hz;have hr:(dH c n e).1=e.1:=rfl;rw[hr,h2]at h3;have e1:(((e.2:Int)+c) % ((row n e.1).length:Int)+-c) % ((row n e.1).length:Int)=(e.2:Int):=by
  have:(((e.2:Int)+c) % ((row n e.1).length:Int)+-c) % ((row n e.1).length:Int)=((e.2:Int)+c+-c) % ((row n e.1).length:Int):=by
   rw[Int.add_emod,Int.emod_emod,<- Int.add_emod]
  rw[this,show(e.2:Int)+c+-c=(e.2:Int) by omega];exact Int.emod_eq_of_lt (by omega)<|by omega
 rw[e1]at h3;have h4:(dH (-c) n<|dH c n e).2=e.2:=by omega
 exact HJ rfl h4
def Py{c:Int}{n:Net}{a b:End}(ha:a∈ends n)(hb:b∈ends n)(h:dH c n a=dH c n b):a=b:=by
 rw[<- qe (c:=c) ha,<- qe (c:=c) hb,h]
def Pz{n:Net}{e:End}(h:e∈ends n):left n e=dH 1 n e:=by
 have h2:=sv (c:=1) h;refine HJ rfl ?_;show(e.2+1) % (row n e.1).length=(dH 1 n e).2;have:(((e.2+1) % (row n e.1).length:Nat):Int)=((e.2:Int)+1) % ((row n e.1).length:Int):=by simp
 omega
def go(c:Int)(n:Net)(e:End):End:=dH c n<|other n e
def gF{c:Int}{n:Net}(T:av n){e:End}(h:e∈ends n):go c n e∈ends n:=Px<|cX T h
def go_inj{c:Int}{n:Net}(T:av n){a b:End}(ha:a∈ends n)(hb:b∈ends n)(h:go c n a=go c n b):a=b:=OL T ha hb<|Py (cX T ha) (cX T hb) h
def PD{n:Net}(T:av n){e:End}(h:e∈ends n):step n e=go 1 n e:=Pz<|cX T h
def two(n:Net)(e:End):End:=go (-1) n<|go 1 n e
def mB{n:Net}(T:av n){e:End}(h:e∈ends n):two n e∈ends n:=gF T<|gF T h
def uU{n:Net}(T:av n){a b:End}(ha:a∈ends n)(hb:b∈ends n)(h:two n a=two n b):a=b:=go_inj T ha hb<|go_inj T (gF T ha) (gF T hb) h
def wk(n:Net)(e:End):Nat->List End
 | 0=>[]
 | k+1=>wk n e k++[it (two n) k e,go 1 n<|it (two n) k e]
theorem qf(n:Net)(e:End):∀ k,(wk n e k).length=2 * k
 | 0=>rfl
 | k+1=>by
  show(wk n e k++_).length=_;rw[Ad,qf n e k];show 2 * k+2=_;omega
theorem qg(n:Net)(e:End):∀(k i:Nat),i < k->(wk n e k)[2 * i]?=some (it (two n) i e)
 | 0,i,h=>absurd h<|Ee _
 | k+1,i,h=>by
  show(wk n e k++[it (two n) k e,go 1 n<|it (two n) k e])[2 * i]?=_;have l:=qf n e k
  by_cases hk:i < k
  ·rw[An<|by omega];exact qg n e k i hk
  ·have:i=k:=by omega
   subst this;rw[Am (by omega),l,Ed];rfl
theorem yw(n:Net)(e:End):∀(k i:Nat),i < k->(wk n e k)[2 * i+1]?=some (go 1 n<|it (two n) i e)
 | 0,i,h=>absurd h<|Ee _
 | k+1,i,h=>by
  show(wk n e k++[it (two n) k e,go 1 n<|it (two n) k e])[2 * i+1]?=_;have l:=qf n e k
  by_cases hk:i < k
  ·rw[An<|by omega];exact yw n e k i hk
  ·have:i=k:=by omega
   subst this;rw[Am (by omega),l,show 2 * i+1 - 2 * i=1 by omega];rfl
def q13(n:Net)(e:End)(k:Nat):au (wk n e k)=(List.range k).map λi=>it (two n) i e:=by
 apply Dz;intro i;rw[qd,Aj]
 by_cases h:i < k
 ·rw[qg n e k i h,Eh h];rfl
 ·rw[Be (by rw[qf];omega),Be<|by rw[Fh];omega];rfl
theorem FY{n:Net}(T:av n){e:End}(h:e∈ends n):∀ k,∀ c∈wk n e k,c∈ends n
 | 0,c,hc=>by cases hc
 | k+1,c,hc=>by
  have hk:it (two n) k e∈ends n:=ki (λa ha=>mB T ha) h k
  rcases Al.mp hc with hc | hc
  ·exact FY T h k c hc
  ·rcases Ak.mp hc with rfl | hc
   ·exact hk
   ·rw[Ae.mp hc];exact gF T hk
structure jr(n:Net)(e:End)(k:Nat):Prop where
 pos:0 < k
 back:it (two n) k e=e
 first:∀ i,0 < i->i < k->it (two n) i e≠e
def jr.unique{n:Net}{e:End}{k l:Nat}(a:jr n e k)(b:jr n e l):k=l:=by
 rcases QS k l with h | h | h
 ·exact absurd a.back<|b.first k a.pos h
 ·exact h
 ·exact absurd b.back<|a.first l b.pos h
noncomputable def uV(n:Net)(e:End):Nat:=by classical exact if h:∃ k,jr n e k then h.choose else 0
def uW{n:Net}{e:End}{k:Nat}(h:jr n e k):uV n e=k:=by
 have hx:∃ k,jr n e k:=⟨k,h⟩;unfold uV;rw[dif_pos hx];exact hx.choose_spec.unique h
noncomputable def walker(n:Net)(e:End):List End:=wk n e<|uV n e
structure ku(n:Net)(ws:List End):Prop where
 ends:∀ c∈ws,c∈Nt.ends n
 ne0:0 < ws.length
 even:ws.length % 2=0
 few:ws.length<=2 * (Nt.ends n).length
 at':∀ k,k < ws.length->∃ c,ws[k]?=some c/\ws[(k+1) % ws.length]?=some (go (1 - 2 * ((k:Int) % 2)) n c)
def q72{n:Net}(T:av n){e:End}(h:e∈Nt.ends n){k:Nat}(p:jr n e k)(hk:k<=(Nt.ends n).length):ku n (wk n e k):=by
 have l:=qf n e k;have p0:=p.pos;refine⟨FY T h k,by omega,by omega,by omega,λj hj=>?_⟩;rw[l]at hj ⊢
 rcases QG j with h2 | h2
 ·obtain⟨i,rfl⟩:∃ i,j=2 * i:=⟨j / 2,by omega⟩;refine⟨_,qg n e k i (by omega),?_⟩;rw[Ce (by omega),yw n e k i<|by omega];have:(1:Int) - 2 * (((2 * i:Nat):Int) % 2)=1:=by omega
  rw[this]
 ·obtain⟨i,rfl⟩:∃ i,j=2 * i+1:=⟨j / 2,by omega⟩;refine⟨_,yw n e k i (by omega),?_⟩;have e1:(1:Int) - 2 * (((2 * i+1:Nat):Int) % 2)=-1:=by omega
  rw[e1];show _=some (two n<|it (two n) i e)
  by_cases hl:i+1 < k
  ·rw[Ce (by omega),show 2 * i+1+1=2 * (i+1) by omega];exact qg n e k (i+1) hl
  ·have:i+1=k:=by omega
   rw[show 2 * i+1+1=2 * k by omega,Cy];have e2:two n (it (two n) i e)=it (two n) k e:=by rw[<- this];rfl
   rw[e2,p.back];exact qg n e k 0<|by omega
def aD(n:Net)(e:End):Str:=(aK n e).getD ⟨#[]⟩
def fJ{n:Net}{e:End}{z:Str}(h:aK n e=some z):aD n e=z:=by unfold aD;rw[h];rfl
noncomputable def dI(n:Net):List End->Ñ->List (List End)
 | [],_=>[]
 | e :: r,told=>if aD n e∈told then dI n r told else walker n e :: dI n r (told++(au<|walker n e).map (aD n))
def sw{n:Net}(T:av n){e:End}(h:e∈ends n):∃ k,jr n e k/\k<=(ends n).length:=by
 obtain⟨k,k0,k1,k2⟩:=D7 (f:=two n) (S:=ends n) (λa ha=>mB T ha) (λa ha b hb=>uU T ha hb) h;have aux:∀ m,∀ k,k<=m->0 < k->it (two n) k e=e->∃ j,j<=k/\jr n e j:=by
  intro m
  induction m with
  | zero=>intro k h1 h2;omega
  | succ m ih=>
   intro k h1 h2 h3
   by_cases c:∃ i,0 < i/\i < k/\it (two n) i e=e
   ·obtain⟨i,i1,i2,i3⟩:=c;obtain⟨j,j1,j2⟩:=ih i (by omega) i1 i3;exact⟨j,by omega,j2⟩
   ·exact⟨k,Ao _,h2,h3,λi i1 i2 i3=>c ⟨i,i1,i2,i3⟩⟩
 obtain⟨j,j1,j2⟩:=aux k k (Ao _) k0 k2;exact⟨j,j2,by omega⟩
def k7x{n:Net}(T:av n){e:End}(h:e∈ends n):ku n (walker n e):=by
 obtain⟨k,p,hk⟩:=sw T h;unfold walker;rw[uW p];exact q72 T h p hk
theorem nU{n:Net}(T:av n):∀(es:List End) (told:Ñ),(∀ e∈es,e∈ends n)->∀ w∈dI n es told,ku n w
 | [],_,_,w,hw=>by cases hw
 | e :: r,told,h,w,hw=>by
  unfold dI at hw
  split at hw
  ·exact nU T r told (λa ha=>h a<|Ah _ ha) w hw
  ·rcases Ak.mp hw with rfl | hw
   ·exact k7x T<|h e<|Af ..
   ·exact nU T r _ (λa ha=>h a<|Ah _ ha) w hw
theorem yx(n:Net):∀(es:List End) (told:Ñ),(dI n es told).length<=es.length
 | [],_=>Ao _
 | e :: r,told=>by
  unfold dI
  split
  ·have:=yx n r told;show _<=r.length+1;omega
  ·have:=yx n r<|told++(au<|walker n e).map (aD n);show _+1<=r.length+1;omega
end Nt
namespace Nt
variable{α β:Type}
def gW(f:α->α):List α->α->α->Prop
 | [],a,b=>a=b
 | x :: l,a,b=>x=a/\gW f l (f x) b
theorem b6{f:α->α}:∀{l k:List α} {a b:α},gW f (l++k) a b↔∃ c,gW f l a c/\gW f k c b
 | [],k,a,b=>⟨λh=>⟨a,rfl,h⟩,λ⟨c,e,h⟩=>by cases e;exact h⟩
 | x :: l,k,a,b=>by
  show(x=a/\gW f (l++k) (f x) b)↔∃ c,(x=a/\gW f l (f x) c)/\gW f k c b;rw[b6];exact⟨λ⟨e,c,h1,h2⟩=>⟨c,⟨e,h1⟩,h2⟩,λ⟨c,⟨e,h1⟩,h2⟩=>⟨e,c,h1,h2⟩⟩
theorem F0{f:α->α}{f':β->β}{g:α->β}:∀{l:List α} {a b:α},(∀ x∈l,f' (g x)=g (f x))->gW f l a b->gW f' (l.map g) (g a) (g b)
 | [],_,_,_,h=>BZ g h
 | x :: l,a,b,hg,h=>⟨BZ g h.1,by rw[hg x Af];exact F0 (λy hy=>hg y<|Ah _ hy) h.2⟩
theorem yz{f:α->α}:∀{l:List α} {x a b y:α},gW f (x :: l) a b->y∈x :: l->f y∈l\/f y=b
 | [],x,a,b,y,h,hy=>by
  rw[Ae]at hy;subst hy;exact .inr h.2
 | z :: l,x,a,b,y,h,hy=>by
  rcases Ak.mp hy with rfl | hy
  ·exact .inl<|by rw[<- h.2.1];exact Af
  ·rcases yz h.2 hy with q | q
   ·exact .inl<|Ah _ q
   ·exact .inr q
theorem F1{f:α->α}{l:List α}{a y:α}(h:gW f l a a)(ha:a∈l)(hy:y∈l):f y∈l:=by
 cases l with
 | nil=>cases hy
 | cons x l=>
  rcases yz h hy with q | q
  ·exact Ah _ q
  ·rw[q];exact ha
theorem yA{f:α->α}{f':β->β}{g:α->β}{c:α}{h:β}:∀{l:List α} {x:α},(∀ y∈x :: l,f y=c->f' (g y)=h)->(∀ y∈x :: l,f y≠c->f' (g y)=g (f y))->c∉l->gW f (x :: l) x c->gW f' ((x :: l).map g) (g x) h
 | [],x,h1,_,_,p=>⟨rfl,h1 x Af p.2⟩
 | y :: l,x,h1,h2,hc,p=>by
  have e:y=f x:=p.2.1;have ne:f x≠c:=λq=>hc (by rw[<- q,<- e];exact Af);refine⟨rfl,?_⟩;rw[h2 x Af ne,<- e];refine yA (λz hz=>h1 z<|Ah _ hz) (λz hz=>h2 z<|Ah _ hz) (λq=>hc<|Ah _ q) ?_;exact⟨rfl,p.2.2⟩
structure Dec(f:α->α)(D:List α)(Ls:List<|List α):Prop where
 kz:∀ l∈Ls,∃ a,a∈l/\gW f l a a
 all:Ls.flatten.Perm D
 nd:D.Nodup
def Dec.sub{f:α->α}{D:List α}{Ls:List (List α)}(d:Dec f D Ls){l:List α}(hl:l∈Ls){x:α}(hx:x∈l):x∈D:=
 d.all.mem_iff.mp (Fu.mpr ⟨l,hl,hx⟩)
def Dec.pick{f:α->α}{D:List α}{Ls:List (List α)}(d:Dec f D Ls){c:α}(hc:c∈D):∃ l Ms,Ls.length=Ms.length+1/\Dec f D ((c :: l) :: Ms):=by
 obtain⟨l,hl,jh⟩:=Fu.mp<|d.all.mem_iff.mpr hc;obtain⟨A,B,rfl⟩:=El hl;obtain⟨p,q,rfl⟩:=El jh;obtain⟨a,ha,h⟩:=d.kz _ hl;obtain⟨m,h1,h2⟩:=b6.mp h;have e:c=m:=h2.1;subst e;refine⟨q++p,A++B,by simp[Nat.add_assoc],λk hk=>?_,?_,d.nd⟩
 ·rcases Ak.mp hk with rfl | hk
  ·exact⟨c,Af,b6 (l:=c :: q).mpr ⟨a,h2,h1⟩⟩
  ·refine d.kz k ?_
   rcases Al.mp hk with q | q
   ·exact Bc _ q
   ·exact Aw _<|Ah _ q
 ·refine List.Perm.trans ?_ d.all;simp only[Dl,Fw,Fs];have e1:(c :: (q++p)).Perm (p++c :: q):=by
   rw[<- Fs];exact Cm
  refine((e1.append_right _).trans ?_);rw[<- At,<- At];exact(Cm).append_right _
def Dec.apart{f:α->α}{D:List α}{l:List α}{Ms:List (List α)}(d:Dec f D<|l :: Ms):l.Nodup/\∀ m∈Ms,∀ x∈l,x∉m:=by
 have h:=d.all.nodup_iff.mpr d.nd;rw[Dl,Bt]at h;exact⟨h.1,λm hm x hx F3=>h.2.2 x hx x (Fu.mpr ⟨m,hm,F3⟩) rfl⟩
theorem yB{g:α->β}:∀(Ls:List<|List α),(Ls.map<|List.map g).flatten=Ls.flatten.map g
 | []=>rfl
 | l :: Ls=>by rw[Bj,Dl,yB Ls,Dl,Ag]
def Dec.rest{f:α->α}{f':β->β}{g:α->β}{D:List α}{l:List α}{Ms:List (List α)}(d:Dec f D<|l :: Ms)(ho:∀ x∈D,f x∉l->f' (g x)=g (f x)):∀ m∈Ms.map (List.map g),∃ a,a∈m/\gW f' m a a:=by
 intro m hm;obtain⟨k,hk,rfl⟩:=Ap.mp hm;obtain⟨a,ha,p⟩:=d.kz k<|Ah _ hk;refine⟨g a,Ap.mpr ⟨a,ha,rfl⟩,F0 (λx hx=>ho x (d.sub (Ah _ hk) hx) λq=>?_) p⟩;exact d.apart.2 k hk _ q<|F1 p ha hx
def Dec.grow{f:α->α}{f':β->β}{g:α->β}{D:List α}{c:α}{l:List α}{Ms:List (List α)}(d:Dec f D<|(c :: l) :: Ms){new:List β}{h:β}(hn:gW f' new h<|g c)(hh:∀ x∈D,f x=c->f' (g x)=h)(ho:∀ x∈D,f x≠c->f' (g x)=g (f x))(nd:(D.map g++new).Nodup) :
  Dec f' (D.map g++new) (((c :: l).map g++new) :: Ms.map (List.map g)):=by
 have ap:=d.apart;have jh:c∉l:=(Bf.mp ap.1).1;refine⟨λk hk=>?_,?_,nd⟩
 ·rcases Ak.mp hk with rfl | hk
  ·obtain⟨a,ha,p⟩:=d.kz _ Af;have e:c=a:=p.1;subst e;exact⟨g c,Bc _ Af,b6.mpr ⟨h,yA (λy hy=>hh y<|d.sub Af hy) (λy hy=>ho y<|d.sub Af hy) jh p,hn⟩⟩
  ·exact d.rest (λx hx q=>ho x hx λe=>q<|by rw[e];exact Af) k hk
 ·rw[Dl,yB];have:=d.all.map g;rw[Dl,Ag]at this;refine List.Perm.trans ?_<|this.append_right new;rw[At,At];exact(Cm).append_left _
def Dec.split{f:α->α}{f':β->β}{g:α->β}{D:List α}{c d0:α}{l:List α}{Ms:List (List α)}(d:Dec f D<|(c :: l) :: Ms)(hd:d0∈l){e1 e2:β}(h1:f' e1=g d0)(h2:f' e2=g c)(hc:∀ x∈D,f x=c->f' (g x)=e1)(hc2:∀ x∈D,f x=d0->f' (g x)=e2)(ho:∀ x∈D,f x≠c->f x≠d0->f' (g x)=g (f x))(nd:(D.map g++[e1,e2]).Nodup) :
  ∃ Ls,Ls.length=Ms.length+2/\Dec f' (D.map g++[e1,e2]) Ls/\∃ l∈Ls,e2∈l/\e1∉l:=by
 have ap:=d.apart;obtain⟨p,q,rfl⟩:=El hd;have F4:=Bf.mp ap.1;have PF:=Bt.mp F4.2;have ap3:=Bf.mp PF.2.1;have hdp:d0∉p:=λx=>PF.2.2 d0 x d0 Af rfl;have uX:c∉p:=λx=>F4.1<|Bc _ x;have hcq:c∉q:=λx=>F4.1<|Aw _<|Ah _ x;obtain⟨a,ha,pp⟩:=d.kz _ Af;have e:c=a:=pp.1;subst e;obtain⟨m,p1,p2⟩:=(b6 (l:=c :: p)).mp pp;have e:d0=m:=p2.1;subst e;have inD:∀ y∈c :: p,y∈D:=λy hy=>d.sub Af (by
  rcases Ak.mp hy with rfl | hy
  ·exact Af
  ·exact Ah _<|Bc _ hy)
 have uY:∀ y∈d0 :: q,y∈D:=λy hy=>d.sub Af<|Ah _<|Aw _ hy;have F5:=Bt.mp nd;have e12:e1≠e2:=λe=>by
  have:=F5.2.1;rw[e]at this;simp at this
 refine⟨((c :: p).map g++[e2]) :: ((d0 :: q).map g++[e1]) :: Ms.map (List.map g),by simp,⟨λk hk=>?_,?_,nd⟩,_,Af,Aw _<|Ae.mpr rfl,λh=>?_⟩
 ·rcases Ak.mp hk with rfl | hk
  ·refine⟨g c,Bc _ Af,b6.mpr ⟨e2,yA (λy hy=>hc2 y<|inD y hy) (λy hy ne=>ho y (inD y hy) (λec=>?_) ne) hdp p1,rfl,h2⟩⟩
   rcases yz p1 hy with z | z
   ·exact uX<|by rw[<- ec];exact z
   ·exact ne z
  ·rcases Ak.mp hk with rfl | hk
   ·refine⟨g d0,Bc _ Af,b6.mpr ⟨e1,yA (λy hy=>hc y<|uY y hy) (λy hy ne=>ho y (uY y hy) ne λec=>?_) hcq p2,rfl,h1⟩⟩
    rcases yz p2 hy with z | z
    ·exact ap3.1<|by rw[<- ec];exact z
    ·exact ne z
   ·exact d.rest (λx hx q=>ho x hx (λe=>q<|by rw[e];exact Af) λe=>q<|by rw[e];exact Ah _<|Aw _ Af) k hk
 ·simp only[Dl,yB];have:=d.all.map g;rw[Dl,Ag,<- Fs,Ag]at this;refine List.Perm.trans ?_<|this.append_right [e1,e2];generalize (c :: p).map g=A;generalize (d0 :: q).map g=B;generalize Ms.flatten.map g=C
  letI:DecidableEq β:=λa b=>Classical.propDecidable<|a=b
  rw[List.perm_iff_count];intro z;simp only[Cq,Cz,TY];omega
 ·rcases Al.mp h with h | h
  ·obtain⟨y,hy,e⟩:=Ap.mp h;exact F5.2.2 e1 (Ap.mpr ⟨y,inD y hy,e⟩) e1 Af rfl
  ·exact e12<|Ae.mp h
def Dec.more{f:β->β}{D:List β}{Ls:List (List β)}(d:Dec f D Ls){b:β}(hb:f b=b)(nd:(D++[b]).Nodup):Dec f (D++[b]) (Ls++[[b]]):=by
 refine⟨λl hl=>?_,?_,nd⟩
 ·rcases Al.mp hl with h | h
  ·exact d.kz l h
  ·rw[Ae]at h;subst h;exact⟨b,Af,rfl,hb⟩
 ·rw[Fw];exact d.all.append_right _
def Dec.carry{f:α->α}{f':β->β}{g:α->β}{D:List α}{D':List β}{Ls:List (List α)}(d:Dec f D Ls)(ho:∀ x∈D,f' (g x)=g (f x))(hD:(D.map g).Perm D')(nd:D'.Nodup):Dec f' D' (Ls.map<|List.map g):=by
 refine⟨λm hm=>?_,?_,nd⟩
 ·obtain⟨k,hk,rfl⟩:=Ap.mp hm;obtain⟨a,ha,p⟩:=d.kz k hk;exact⟨g a,Ap.mpr ⟨a,ha,rfl⟩,F0 (λx hx=>ho x<|d.sub hk hx) p⟩
 ·rw[yB];exact(d.all.map g).trans hD
open PySem
theorem uZ{α:Type} [DecidableEq α]:∀{a b:List α},a.Nodup->(∀ z∈a,z∈b)->b.length<=a.length->a.Perm b
 | [],b,_,_,hl=>by
  have:b=[]:=Bd.mp<|Nat.le_zero.mp hl;rw[this]
 | x :: a,b,nd,sub,hl=>by
  have u6:=Bf.mp nd;have hx:=sub x Af;have pb:=List.perm_cons_erase hx;refine List.Perm.trans ((uZ u6.2 (λz hz=>?_) ?_).cons x) pb.symm
  ·exact(Fk λe=>u6.1<|by rw[<- e];exact hz).mpr<|sub z<|Ah _ hz
  ·have:=pb.length_eq;rw[Ar]at this hl;omega
def iO{n:Net}(T:av n){a b:End}{z:Str}(ha:aK n a=some z)(hb:aK n b=some z)(ne:a≠b):other n a=b:=by
 obtain⟨h1,_,h3⟩:=du T ha;obtain⟨p,q,e,_,_⟩:=pQ T ha;have m1:=aM.mpr ha;have m2:=aM.mpr hb;have m3:=aM.mpr h1;rw[e]at m1 m2 m3;simp only[Ak,Ck,FZ]at m1 m2 m3
 rcases m1 with rfl | rfl <;> rcases m2 with rfl | rfl <;> rcases m3 with m3 | m3 <;> first | exact m3 | exact absurd rfl ne | exact absurd m3 h3
def sh(c e:End):End:=if e.1=c.1/\c.2<=e.2 then(e.1,e.2+1)else e
def mD(c e:End):(sh c e).1=e.1:=by unfold sh;split <;> rfl
def nV{c a b:End}(h:sh c a=sh c b):a=b:=by
 have h1:a.1=b.1:=by rw[<- mD c a,h,mD]
 have h2:=BZ Prod.snd h;unfold sh at h2;refine HJ h1 ?_
 by_cases x:a.1=c.1/\c.2<=a.2
 ·rw[BL x]at h2
  by_cases y:b.1=c.1/\c.2<=b.2
  ·rw[BL y]at h2;exact Nat.succ.inj h2
  ·rw[BK y]at h2;have h2:a.2+1=b.2:=h2;exact absurd ⟨h1 ▸ x.1,by omega⟩ y
 ·rw[BK x]at h2
  by_cases y:b.1=c.1/\c.2<=b.2
  ·rw[BL y]at h2;have h2:a.2=b.2+1:=h2;exact absurd ⟨h1 ▸ y.1,by omega⟩ x
  ·rw[BK y]at h2;exact h2
def nW(c e:End):sh c e≠c:=by
 intro h;have h1:e.1=c.1:=by rw[<- mD c e,h]
 have h2:=BZ Prod.snd h;unfold sh at h2
 by_cases x:e.1=c.1/\c.2<=e.2
 ·rw[BL x]at h2;have h2:e.2+1=c.2:=h2;omega
 ·rw[BK x]at h2;exact x ⟨h1,by omega⟩
section
variable{n:Net}{c:End}{z:Str}
def sC(hc:c.1 < n.length)(hp:c.2<=(row n c.1).length)(i:Nat):(row (ins n c z) i).length=if c.1=i then(row n i).length+1 else(row n i).length:=by
 rw[se n c z i hc]
 by_cases h:c.1=i
 ·subst h;rw[BL rfl,BL rfl,Ad,Ar,Bg,Cj];omega
 ·rw[BK h,BK h]
def F6(hc:c.1 < n.length)(hp:c.2<=(row n c.1).length):aK (ins n c z) c=some z:=by
 unfold aK;rw[se n c z c.1 hc,BL rfl,Am (by rw[Bg];omega),Bg,show c.2 - min c.2 (row n c.1).length=0 by omega];rfl
def sD(hc:c.1 < n.length)(hp:c.2<=(row n c.1).length)(e:End):aK (ins n c z) (sh c e)=aK n e:=by
 unfold aK;rw[mD,se n c z e.1 hc];unfold sh
 by_cases h:c.1=e.1
 ·rw[BL h]
  by_cases k:c.2<=e.2
  ·rw[BL ⟨h.symm,k⟩,Am (by rw[Bg];show _<=e.2+1;omega),Bg];show(z :: (row n e.1).drop c.2)[e.2+1 - min c.2 (row n e.1).length]?=_;rw[<- h,show e.2+1 - min c.2 (row n c.1).length=(e.2 - c.2)+1 by omega,Da,Fc,show c.2+(e.2 - c.2)=e.2 by omega]
  ·rw[BK λq=>k q.2,An (by rw[Bg,<- h];omega),Ds<|by omega]
 ·rw[BK h,BK λq=>h q.1.symm]
def nX(hc:c.1 < n.length)(hp:c.2 < (row n c.1).length):left (ins n c z) c=sh c c:=by
 unfold left sh;rw[sC hc<|Cs hp,BL rfl,BL ⟨rfl,Ao _⟩,Ce<|by omega]
def iP(hc:c.1 < n.length)(hp:c.2 < (row n c.1).length){e:End}(he:e.2 < (row n e.1).length):left (ins n c z) (sh c e)=if left n e=c then c else sh c (left n e):=by
 by_cases h:c.1=e.1
 ·have e1:(left n e).1=e.1:=rfl;have e2:(left n e).2=(e.2+1) % (row n e.1).length:=rfl;have q:(left n e=c)↔(e.2+1) % (row n e.1).length=c.2:=⟨λx=>by rw[<- e2,x],λx=>HJ h.symm x⟩;have L:(left (ins n c z) (sh c e))=(e.1,((sh c e).2+1) % ((row n e.1).length+1)):=by
   unfold left;rw[mD,sC hc<|Cs hp,BL h]
  rw[L];rw[h]at hp;have S:(sh c e).2=if c.2<=e.2 then e.2+1 else e.2:=by
   unfold sh
   by_cases k:c.2<=e.2
   ·rw[BL ⟨h.symm,k⟩,BL k]
   ·rw[BK λq=>k q.2,BK k]
  have S2:sh c (left n e)=(e.1,if c.2<=(e.2+1) % (row n e.1).length then(e.2+1) % (row n e.1).length+1 else(e.2+1) % (row n e.1).length):=by
   unfold sh
   by_cases k:c.2<=(e.2+1) % (row n e.1).length
   ·rw[BL ⟨h.symm,k⟩,BL k];rfl
   ·rw[BK λq=>k q.2,BK k];rfl
  rw[S,S2];generalize (row n e.1).length=m at *
  by_cases k:e.2+1 < m
  ·rw[Ce k]at q ⊢
   by_cases j:e.2+1=c.2
   ·rw[BL<|q.mpr j,BK (by omega),Ce<|by omega];exact HJ h.symm j
   ·rw[BK λx=>j<|q.mp x]
    by_cases i:c.2<=e.2
    ·rw[BL i,BL (by omega),Ce<|by omega]
    ·rw[BK i,BK (by omega),Ce<|by omega]
  ·have em:e.2+1=m:=by omega
   rw[em,Cy]at q ⊢;rw[BL (by omega),Cy]
   by_cases j:0=c.2
   ·rw[BL<|q.mpr j];exact HJ h.symm j
   ·rw[BK λx=>j<|q.mp x,BK<|by omega]
 ·have ne:left n e≠c:=λx=>h (by rw[<- x];rfl);rw[BK ne];have s1:sh c e=e:=by unfold sh;rw[BK λq=>h q.1.symm]
  have s2:sh c (left n e)=left n e:=by unfold sh;rw[BK λq=>h q.1.symm]
  rw[s1,s2];unfold left;rw[sC hc<|Cs hp,BK h]
end
def Pl(n:Net):Prop:=(ag n=[]/\n.length=1)\/∃ Ls,Dec (step n) (ends n) Ls/\2 * (n.length+Ls.length)=(ag n).length+4
structure dZ(n m:Net)(g:End->End)(e1 e2:End)(z:Str):Prop where
 cY:∀ e∈ends n,aK m (g e)=aK n e
 t1:aK m e1=some z
 t2:aK m e2=some z
 inj:∀ a b,g a=g b->a=b
 n1:∀ a∈ends n,g a≠e1
 n2:∀ a∈ends n,g a≠e2
 ne:e1≠e2
 len:(ag m).length=(ag n).length+2
section
variable{n m:Net}{g:End->End}{e1 e2:End}{z:Str}
def dZ.nd(p:dZ n m g e1 e2 z):((ends n).map g++[e1,e2]).Nodup:=by
 rw[Bt];refine⟨?_,?_,?_⟩
 ·exact(Eu.mpr<|(rW n).imp λ{a b} h e=>h<|p.inj a b e)
 ·simp[p.ne]
 ·rintro a ha b hb rfl;obtain⟨x,hx,rfl⟩:=Ap.mp ha;simp only[Ak,Ck,FZ]at hb
  rcases hb with h | h
  ·exact p.n1 x hx h
  ·exact p.n2 x hx h
def dZ.perm(p:dZ n m g e1 e2 z):((ends n).map g++[e1,e2]).Perm (ends m):=by
 refine uZ p.nd (λa ha=>?_)<|by rw[jN,p.len,Ad,Aa,jN];exact Ao _
 rcases Al.mp ha with h | h
 ·obtain⟨x,hx,rfl⟩:=Ap.mp h;obtain⟨y,hy⟩:=af.mp hx;exact af.mpr ⟨y,by rw[p.cY x hx];exact hy⟩
 ·simp only[Ak,Ck,FZ]at h
  rcases h with rfl | rfl
  ·exact af.mpr ⟨z,p.t1⟩
  ·exact af.mpr ⟨z,p.t2⟩
def dZ.ii(p:dZ n m g e1 e2 z)(T:av n)(T':av m){e:End}(he:e∈ends n):other m (g e)=g (other n e):=by
 obtain⟨y,hy⟩:=af.mp he;obtain⟨h1,_,h3⟩:=du T hy;exact iO T' (by rw[p.cY e he];exact hy) (by rw[p.cY _<|af.mpr ⟨y,h1⟩];exact h1) λh=>h3 (p.inj _ _ h).symm
def dZ.o1(p:dZ n m g e1 e2 z)(T':av m):other m e1=e2:=iO T' p.t1 p.t2 p.ne
def dZ.o2(p:dZ n m g e1 e2 z)(T':av m):other m e2=e1:=iO T' p.t2 p.t1 p.ne.symm
def Dec.perm{α:Type}{f:α->α}{D D':List α}{Ls:List (List α)}(d:Dec f D Ls)(h:D.Perm D'):Dec f D' Ls:=⟨d.kz,d.all.trans h,h.nodup_iff.mp d.nd⟩
def PH{α:Type}{f:α->α}{l:List α}(h:∀ x∈l,f x∈l){a:α}(ha:a∈l):∀ k,it f k a∈l:=λk=>ki h ha k
def Dec.one{α:Type}{f:α->α}{D:List α}{a b:α}{l:List α}{Ms:List (List α)}(d:Dec f D<|(a :: l) :: Ms)(hb:b∈D)(h:(∃ k,it f k a=b)\/∃ k,it f k b=a)(ne:b≠a):b∈l:=by
 have cl:∀ k∈(a :: l) :: Ms,∀ x∈k,f x∈k:=λk hk x hx=>by
  obtain⟨c,hc,p⟩:=d.kz k hk;exact F1 p hc hx
 have hm:b∈a :: l:=by
  rcases h with ⟨k,rfl⟩ | ⟨k,e⟩
  ·exact PH (cl _ Af) Af k
  ·obtain⟨j,hj,PQ⟩:=Fu.mp<|d.all.mem_iff.mpr hb
   rcases Ak.mp hj with rfl | pE
   ·exact PQ
   ·have:=PH (cl j hj) PQ k;rw[e]at this;exact absurd this<|d.apart.2 j pE a Af
 rcases Ak.mp hm with h | h
 ·exact absurd h ne
 ·exact h
def q0b(p:dZ n m g e1 e2 z)(T:av n)(T':av m)(hl:m.length=n.length){k1 k2:End}(h1:k1∈ends n)(h2:k2∈ends n)(ne:k2≠k1)(same:(∃ k,it (step n) k k1=k2)\/∃ k,it (step n) k k2=k1)
  (l1:left m e1=g k1) (l2:left m e2=g k2) (lf:∀ e∈ends n,left m (g e)=if left n e=k1 then e1 else if left n e=k2 then e2 else g (left n e)) (P:Pl n):Pl m:=by
 have st:∀ x∈ends n,step m (g x)=if step n x=k1 then e1 else if step n x=k2 then e2 else g (step n x):=λx hx=>by
  unfold step;rw[p.ii T T' hx];exact lf _<|cX T hx
 rcases P with ⟨e,_⟩ | ⟨Ls,d,eu⟩
 ·obtain⟨y,hy⟩:=af.mp h1;have:=dG hy;rw[e]at this;cases this
 ·obtain⟨l,Ms,hL,d⟩:=d.pick h1;have hk:=d.one h2 same ne;obtain⟨PR,hL',d',_⟩:=d.split (f':=step m) (g:=g) hk (e1:=e1) (e2:=e2) (by unfold step;rw[p.o1 T'];exact l2) (by unfold step;rw[p.o2 T'];exact l1)
   (λx hx e=>by rw[st x hx,BL e]) (λx hx e=>by rw[st x hx,BK (by rw[e];exact ne),BL e]) (λx hx a b=>by rw[st x hx,BK a,BK b]) p.nd
  refine .inr ⟨PR,d'.perm p.perm,?_⟩;have:=p.len;omega
def q5m(p:dZ n m g e1 e2 z)(T:av n)(T':av m)(hl:m.length=n.length){c:End}(h1:c∈ends n)
  (l1:left m e1=g c) (l2:left m e2=e1) (lf:∀ e∈ends n,left m (g e)=if left n e=c then e2 else g (left n e)) (P:Pl n):Pl m:=by
 have st:∀ x∈ends n,step m (g x)=if step n x=c then e2 else g (step n x):=λx hx=>by
  unfold step;rw[p.ii T T' hx];exact lf _<|cX T hx
 rcases P with ⟨e,_⟩ | ⟨Ls,d,eu⟩
 ·obtain⟨y,hy⟩:=af.mp h1;have:=dG hy;rw[e]at this;cases this
 ·obtain⟨l,Ms,hL,d⟩:=d.pick h1;have nd:=p.nd;have nY:((ends n).map g++[e2]++[e1]).Nodup:=by
   rw[At];exact((List.Perm.swap e1 e2 []).append_left _).nodup_iff.mpr nd
  have d1:=d.grow (f':=step m) (g:=g) (new:=[e2]) (h:=e2) ⟨rfl,by unfold step;rw[p.o2 T'];exact l1⟩ (λx hx e=>by rw[st x hx,BL e]) (λx hx e=>by rw[st x hx,BK e]) (Bt.mp nY).1;have d2:=d1.more (b:=e1) (by unfold step;rw[p.o1 T'];exact l2) nY;have pm:((ends n).map g++[e2]++[e1]).Perm (ends m):=by
   refine List.Perm.trans ?_ p.perm;rw[At];exact(List.Perm.swap e1 e2 []).append_left _
  refine .inr ⟨_,d2.perm pm,?_⟩;have:=p.len;simp only[Ad,Ar,Aa,Dc];omega
def k9a(p:dZ n m g e1 e2 z)(T:av n)(T':av m)(hl:m.length=n.length+1){c:End}(h1:c∈ends n)
  (l1:left m e1=g c) (l2:left m e2=e2) (lf:∀ e∈ends n,left m (g e)=if left n e=c then e1 else g (left n e)) (P:Pl n):Pl m:=by
 have st:∀ x∈ends n,step m (g x)=if step n x=c then e1 else g (step n x):=λx hx=>by
  unfold step;rw[p.ii T T' hx];exact lf _<|cX T hx
 rcases P with ⟨e,_⟩ | ⟨Ls,d,eu⟩
 ·obtain⟨y,hy⟩:=af.mp h1;have:=dG hy;rw[e]at this;cases this
 ·obtain⟨l,Ms,hL,d⟩:=d.pick h1;have s1:step m e1=e2:=by unfold step;rw[p.o1 T'];exact l2
  have s2:step m e2=g c:=by unfold step;rw[p.o2 T'];exact l1
  have d1:=d.grow (f':=step m) (g:=g) (new:=[e1,e2]) (h:=e1) ⟨rfl,by rw[s1];exact⟨rfl,s2⟩⟩ (λx hx e=>by rw[st x hx,BL e]) (λx hx e=>by rw[st x hx,BK e]) p.nd;refine .inr ⟨_,d1.perm p.perm,?_⟩;have:=p.len;simp only[Ar,Aa];omega
end
def fh{n:Net}{e:End}(h:e∈ends n):e.1 < n.length/\e.2 < (row n e.1).length:=by
 obtain⟨z,hz⟩:=af.mp h;exact⟨cz hz,f9 hz⟩
section
variable{n:Net}{z:Str}
def PU{k1 k2:End}(h1:k1.1 < n.length/\k1.2<=(row n k1.1).length)(h2:k2.1 < n.length/\k2.2<=(row n k2.1).length):dZ n (ins (ins n k1 z) k2 z) (λe=>sh k2<|sh k1 e) (sh k2 k1) k2 z:=by
 have c2:k2.1 < (ins n k1 z).length:=by rw[gT];exact h2.1
 have p2:k2.2<=(row (ins n k1 z) k2.1).length:=by
  rw[sC h1.1 h1.2]
  split
  ·have:=h2.2;omega
  ·exact h2.2
 refine⟨λe _=>?_,?_,F6 c2 p2,λa b h=>nV<|nV h,λa _ h=>nW k1 a<|nV h,λa _=>nW k2 _,nW k2 k1,?_⟩
 ·show aK _ (sh k2<|sh k1 e)=_;rw[sD c2 p2,sD h1.1 h1.2]
 ·rw[sD c2 p2];exact F6 h1.1 h1.2
 ·rw[(lv _ k2 z c2).length_eq,Ar,(lv _ k1 z h1.1).length_eq,Ar]
def q80{k1 k2:End}(T:av n)(T':av<|ins (ins n k1 z) k2 z)(h1:k1∈ends n)(h2:k2∈ends n)(ord:k2=k1\/sh k1 k2=k2)(same:(∃ k,it (step n) k k1=k2)\/∃ k,it (step n) k k2=k1)(P:Pl n):Pl (ins (ins n k1 z) k2 z):=by
 have r1:=fh h1;have r2:=fh h2;have p:=PU (z:=z) (k1:=k1) (k2:=k2) ⟨r1.1,Cs r1.2⟩ ⟨r2.1,Cs r2.2⟩;have c2:k2.1 < (ins n k1 z).length:=by rw[gT];exact r2.1
 have rl:∀ i,(row n i).length<=(row (ins n k1 z) i).length:=λi=>by
  rw[sC r1.1<|Cs r1.2]
  split <;> omega
 have p2:k2.2 < (row (ins n k1 z) k2.1).length:=Bi r2.2<|rl _;have p1:k1.2 < (row (ins n k1 z) k1.1).length:=Bi r1.2<|rl _;have hl:(ins (ins n k1 z) k2 z).length=n.length:=by rw[gT,gT]
 have sl:∀ e∈ends n,(sh k1 e).2 < (row (ins n k1 z) (sh k1 e).1).length:=λe he=>by
  obtain⟨y,hy⟩:=af.mp he;exact f9 (z:=y)<|by rw[sD r1.1<|Cs r1.2];exact hy
 have l0:left (ins n k1 z) k1=sh k1 k1:=nX r1.1 r1.2
 by_cases e:k2=k1
 ·subst e;refine q5m p T T' hl h1 ?_ (nX c2 p2) (λe he=>?_) P
  ·rw[iP c2 p2 p1,l0,BK<|nW _ _]
  ·show left _ (sh k2<|sh k2 e)=_;rw[iP c2 p2<|sl e he,iP r1.1 r1.2 (fh he).2]
   by_cases q:left n e=k2
   ·rw[BL q,BL rfl,BL q]
   ·rw[BK q,BK<|nW _ _,BK q]
 ·have hs:sh k1 k2=k2:=ord.resolve_left e;refine q0b p T T' hl h1 h2 e same ?_ ?_ (λe' he=>?_) P
  ·rw[iP c2 p2 p1,l0,BK λq=>e<|nV (c:=k1)<|by rw[hs,q]]
  ·show left _ k2=sh k2 (sh k1 k2);rw[hs];exact nX c2 p2
  ·show left _ (sh k2<|sh k1 e')=if left n e'=k1 then sh k2 k1 else if left n e'=k2 then k2 else sh k2 (sh k1<|left n e');rw[iP c2 p2<|sl e' he,iP r1.1 r1.2 (fh he).2]
   by_cases q:left n e'=k1
   ·rw[BL q,BL q,BK λx=>e x.symm]
   ·rw[BK q,BK q]
    by_cases q2:left n e'=k2
    ·rw[BL q2,q2,hs,BL rfl]
    ·rw[BK q2,BK λx=>q2<|nV (c:=k1)<|by rw[x,hs]]
def nZ{a b:Net}{i:Nat}(h:i < a.length):row (a++b) i=row a i:=by
 unfold row;rw[An h]
def yC{a:Net}{x:Str×List Str}:row (a++[x]) a.length=x.2:=by
 unfold row;rw[Am<|Ao _];simp
def PV{c:End}{pt:Str}(h1:c.1 < n.length/\c.2<=(row n c.1).length):dZ n (ins n c z++[(pt,[z])]) (sh c) c (n.length,0) z:=by
 have la:∀ e:End,e.1 < n.length->aK (ins n c z++[(pt,[z])]) e=aK (ins n c z) e:=λe he=>by
  unfold aK;rw[nZ<|by rw[gT];exact he]
 refine⟨λe he=>?_,?_,?_,λa b h=>nV h,λa _=>nW c a,λa ha h=>?_,λh=>?_,?_⟩
 ·rw[la _ (by rw[mD];exact(fh he).1),sD h1.1 h1.2]
 ·rw[la _ h1.1,F6 h1.1 h1.2]
 ·unfold aK;have:=yC (a:=ins n c z) (x:=(pt,[z]));rw[gT]at this;show(row _ n.length)[0]?=_;rw[this];rfl
 ·have:=(fh ha).1;rw[<- mD c a,h]at this;exact absurd this<|De _
 ·have:=h1.1;rw[h]at this;exact absurd this<|De _
 ·unfold ag;rw[Cr,Ad];have:=(lv _ c z h1.1).length_eq;unfold ag at this;rw[this];rfl
def q0h{c:End}{pt:Str}(T:av n)(T':av<|ins n c z++[(pt,[z])])(h1:c∈ends n)(P:Pl n):Pl (ins n c z++[(pt,[z])]):=by
 have r1:=fh h1;have p:=PV (z:=z) (c:=c) (pt:=pt) ⟨r1.1,Cs r1.2⟩;have la:∀ e:End,e.1 < n.length->left (ins n c z++[(pt,[z])]) e=left (ins n c z) e:=λe he=>by
  unfold left;rw[nZ<|by rw[gT];exact he]
 refine k9a p T T' (by rw[Ad,gT];rfl) h1 ?_ ?_ (λe he=>?_) P
 ·rw[la _ r1.1];exact nX r1.1 r1.2
 ·unfold left;have:=yC (a:=ins n c z) (x:=(pt,[z]));rw[gT]at this;show(n.length,(0+1) % (row _ n.length).length)=_;rw[this];exact BZ (Prod.mk _)<|Cy 1
 ·rw[la _<|by rw[mD];exact(fh he).1];exact iP r1.1 r1.2 (fh he).2
end
def PY{m:Net}{z:Str}{e1 e2:End}(T':av m)(hE:ends m=[e1,e2])(t1:aK m e1=some z)(t2:aK m e2=some z)(ne:e1≠e2)
  (h:(m.length=2/\left m e1=e1/\left m e2=e2)\/(m.length=1/\left m e1=e2/\left m e2=e1)):Pl m:=by
 have o1:=iO T' t1 t2 ne;have o2:=iO T' t2 t1 ne.symm;have hl:(ag m).length=2:=by rw[<- jN,hE];rfl
 have nd:[e1,e2].Nodup:=by simp[ne]
 rcases h with ⟨hm,l1,l2⟩ | ⟨hm,l1,l2⟩
 ·refine .inr ⟨[[e1,e2]],?_,by rw[hm,hl];rfl⟩;rw[hE];refine⟨λl hl=>?_,List.Perm.refl _,nd⟩;rw[Ae]at hl;subst hl;refine⟨e1,Af,rfl,?_⟩;unfold step;rw[o1,l2];exact⟨rfl,by show left m (other m e2)=e1;rw[o2,l1]⟩
 ·refine .inr ⟨[[e1],[e2]],?_,by rw[hm,hl];rfl⟩;rw[hE];refine⟨λl hl=>?_,List.Perm.refl _,nd⟩;simp only[Ak,Ck,FZ]at hl
  rcases hl with rfl | rfl
  ·exact⟨e1,Af,rfl,by show left m (other m e1)=e1;rw[o1,l2]⟩
  ·exact⟨e2,Af,rfl,by show left m (other m e2)=e2;rw[o2,l1]⟩
def k7f{nm pt z:Str}(T':av [(nm,[z]),(pt,[z])]):Pl [(nm,[z]),(pt,[z])]:=
 PY (e1:=(0,0)) (e2:=(1,0)) (z:=z) T' rfl rfl rfl (by decide) (.inl ⟨rfl,by simp[left,row],by simp[left,row]⟩)
def q5d{nm z:Str}(T':av [(nm,[z,z])]):Pl [(nm,[z,z])]:=
 PY (e1:=(0,0)) (e2:=(0,1)) (z:=z) T' rfl rfl rfl (by decide) (.inr ⟨rfl,by simp[left,row],by simp[left,row]⟩)
def k97{n m:Net}{g:End->End}(T:av n)(T':av m)(hl:m.length=n.length)(ht:(ag m).length=(ag n).length)(cY:∀ e∈ends n,aK m (g e)=aK n e)(inj:∀ a∈ends n,∀ b∈ends n,g a=g b->a=b)
  (lf:∀ e∈ends n,left m (g e)=g (left n e)) (P:Pl n):Pl m:=by
 rcases P with ⟨e,h⟩ | ⟨Ls,d,eu⟩
 ·exact .inl ⟨Bd.mp (by rw[ht,e];rfl),by rw[hl,h]⟩
 ·have nd:((ends n).map g).Nodup:=by
   have:∀(l:List End),(∀ x∈l,x∈ends n)->l.Nodup->(l.map g).Nodup:=by
    intro l
    induction l with
    | nil=>intro _ _;exact Ch
    | cons x l ih=>
     intro hs h;have h:=Bf.mp h;rw[Bj];refine Bf.mpr ⟨λhx=>?_,ih (λy hy=>hs y<|Ah _ hy) h.2⟩;obtain⟨y,hy,e⟩:=Ap.mp hx;have:=inj y (hs y<|Ah _ hy) x (hs x Af) e;exact h.1<|this ▸ hy
   exact this _ (λx hx=>hx)<|rW n
  have pm:((ends n).map g).Perm (ends m):=by
   refine uZ nd (λa ha=>?_) (by rw[Aa,jN,jN,ht];exact Ao _);obtain⟨x,hx,rfl⟩:=Ap.mp ha;obtain⟨y,hy⟩:=af.mp hx;exact af.mpr ⟨y,by rw[cY x hx];exact hy⟩
  refine .inr ⟨_,d.carry (f':=step m) (g:=g) (λx hx=>?_) pm<|rW m,by rw[Aa,hl,ht];exact eu⟩;obtain⟨y,hy⟩:=af.mp hx;obtain⟨h1,_,h3⟩:=du T hy;have ho:other n x∈ends n:=af.mpr ⟨y,h1⟩;have:other m (g x)=g (other n x):=iO T' (by rw[cY x hx];exact hy) (by rw[cY _ ho];exact h1) λh=>h3 (inj _ hx _ ho h).symm;unfold step;rw[this];exact lf _ ho
def n8(i len q:Nat):Nat:=if i<=q then q - i else q+len - i
def dJ(N j i len:Nat)(e:End):End:=if e.1 < j then e else if e.1=j then(N - 1,n8 i len e.2) else(e.1 - 1,e.2)
def PZ{a:Net}{j:Nat}{x:Str×List Str}(hj:j < a.length)(r:Nat)(hr:r < a.length):row (a.eraseIdx j++[x]) (if r < j then r else if r=j then a.length - 1 else r - 1)=if r=j then x.2 else row a r:=by
 have le:(a.eraseIdx j).length=a.length - 1:=by rw[Db,BL hj]
 by_cases h1:r < j
 ·rw[BL h1,BK (by omega),nZ<|by rw[le];omega];unfold row;rw[Gh,BL h1]
 ·rw[BK h1]
  by_cases h2:r=j
  ·rw[BL h2,BL h2,<- le,yC]
  ·rw[BK h2,BK h2,nZ<|by rw[le];omega];unfold row;rw[Gh,BK (by omega),show r - 1+1=r by omega]
def q2q{i len q:Nat}(hi:i < len)(hq:q < len):(n8 i len q+1) % len=n8 i len ((q+1) % len):=by
 unfold n8
 by_cases k:q+1 < len
 ·rw[Ce k]
  by_cases h:i<=q
  ·rw[BL h,BL (by omega),Ce<|by omega];omega
  ·rw[BK h]
   by_cases h2:q+1=i
   ·rw[BL (by omega),show q+len - i+1=len by omega,Cy];omega
   ·rw[BK (by omega),Ce<|by omega];omega
 ·have e:q+1=len:=by omega
  rw[e,Cy,BL<|by omega]
  by_cases h:i=0
  ·rw[BL (by omega),show q - i+1=len by omega,Cy];omega
  ·rw[BK (by omega),Ce<|by omega];omega
def q9f{l:Ñ}{i q:Nat}(hi:i < l.length)(hq:q < l.length):(l.drop i++l.take i)[n8 i l.length q]?=l[q]?:=by
 unfold n8
 by_cases h:i<=q
 ·rw[BL h,An (by rw[Cj];omega),Fc,show i+(q - i)=q by omega]
 ·rw[BK h,Am (by rw[Cj];omega),Cj,Ds (by omega),show q+l.length - i - (l.length - i)=q by omega]
def P0{a:Net}{j i:Nat}{x:Str}(hj:j < a.length)(hi:i < max 1 (row a j).length):∃ g:End->End,(∀ e∈ends a,aK (a.eraseIdx j++[(x,(row a j).drop i++(row a j).take i)]) (g e)=aK a e)/\(∀ b∈ends a,∀ c∈ends a,g b=g c->b=c) /\
  ∀ e∈ends a,left (a.eraseIdx j++[(x,(row a j).drop i++(row a j).take i)]) (g e)=g (left a e):=by
 have fst:∀ e:End,(dJ a.length j i (row a j).length e).1=if e.1 < j then e.1 else if e.1=j then a.length - 1 else e.1 - 1:=λe=>by
  unfold dJ
  by_cases h:e.1 < j
  ·rw[BL h,BL h]
  ·rw[BK h,BK h]
   by_cases h2:e.1=j
   ·rw[BL h2,BL h2]
   ·rw[BK h2,BK h2]
 have snd:∀ e:End,(dJ a.length j i (row a j).length e).2=if e.1=j then n8 i (row a j).length e.2 else e.2:=λe=>by
  unfold dJ
  by_cases h:e.1 < j
  ·rw[BL h,BK<|by omega]
  ·rw[BK h]
   by_cases h2:e.1=j
   ·rw[BL h2,BL h2]
   ·rw[BK h2,BK h2]
 have P1:∀ e:End,e.1 < a.length->row (a.eraseIdx j++[(x,(row a j).drop i++(row a j).take i)]) (dJ a.length j i (row a j).length e).1=if e.1=j then(row a j).drop i++(row a j).take i else row a e.1:=λe he=>by
  rw[fst,PZ hj e.1 he]
 refine⟨dJ a.length j i (row a j).length,λe he=>?_,λb hb c hc h=>?_,λe he=>?_⟩
 ·have r:=fh he;unfold aK;rw[P1 e r.1,snd]
  by_cases h:e.1=j
  ·rw[BL h,BL h,<- h,q9f (by have:=hi;rw[<- h]at this;omega) r.2]
  ·rw[BK h,BK h]
 ·have rb:=fh hb;have rc:=fh hc;have h1:=BZ Prod.fst h;have h2:=BZ Prod.snd h;rw[fst,fst]at h1;rw[snd,snd]at h2
  by_cases p:b.1=j
  ·by_cases q:c.1=j
   ·rw[BL p,BL q]at h2;refine HJ (by rw[p,q]) ?_;have rb:=rb.2;have rc:=rc.2;rw[p]at rb;rw[q]at rc;unfold n8 at h2
    by_cases u:i<=b.2
    ·rw[BL u]at h2
     by_cases v:i<=c.2
     ·rw[BL v]at h2;omega
     ·rw[BK v]at h2;omega
    ·rw[BK u]at h2
     by_cases v:i<=c.2
     ·rw[BL v]at h2;omega
     ·rw[BK v]at h2;omega
   ·exfalso
    rw[BK (by omega),BL p]at h1;have:=rc.1
    by_cases u:c.1 < j
    ·rw[BL u]at h1;omega
    ·rw[BK u,BK q]at h1;omega
  ·by_cases q:c.1=j
   ·exfalso
    have:=rb.1;rw[BK (show ¬ c.1 < j by omega),BL q]at h1
    by_cases u:b.1 < j
    ·rw[BL u]at h1;omega
    ·rw[BK u,BK p]at h1;omega
   ·rw[BK p,BK q]at h2;refine HJ ?_ h2;rw[BK p,BK q]at h1
    by_cases u:b.1 < j
    ·rw[BL u]at h1
     by_cases v:c.1 < j
     ·rw[BL v]at h1;exact h1
     ·rw[BK v]at h1;omega
    ·rw[BK u]at h1
     by_cases v:c.1 < j
     ·rw[BL v]at h1;omega
     ·rw[BK v]at h1;omega
 ·have r:=fh he;have L1:(left a e).1=e.1:=rfl;have L2:(left a e).2=(e.2+1) % (row a e.1).length:=rfl;refine HJ ?_ ?_
  ·show(dJ a.length j i (row a j).length e).1=(dJ a.length j i (row a j).length<|left a e).1;rw[fst,fst,L1]
  ·show((dJ a.length j i (row a j).length e).2+1) % (row _ (dJ a.length j i (row a j).length e).1).length=(dJ a.length j i (row a j).length<|left a e).2;rw[P1 e r.1,snd,snd,L1,L2]
   by_cases h:e.1=j
   ·rw[BL h,BL h,BL h,Ad,Cj,Bg];have r2:=r.2;rw[h]at r2 ⊢;rw[show(row a j).length - i+min i (row a j).length=(row a j).length by omega];exact q2q (by omega) r2
   ·rw[BK h,BK h,BK h]
def q7n{a:Net}{j i:Nat}{x:Str}(hj:j < a.length)(hi:i < max 1 (row a j).length)(T:av a) (T':av<|a.eraseIdx j++[(x,(row a j).drop i++(row a j).take i)])
  (ht:(ag<|a.eraseIdx j++[(x,(row a j).drop i++(row a j).take i)]).length=(ag a).length) (P:Pl a):Pl (a.eraseIdx j++[(x,(row a j).drop i++(row a j).take i)]):=by
 obtain⟨g,h1,h2,h3⟩:=P0 (x:=x) hj hi;exact k97 (g:=g) T T' (by rw[Ad,Db,BL hj,Cw];omega) ht h1 h2 h3 P
def yD{n m:Net}{z:Str}(hp:(ag m).Perm<|z :: z :: ag n)(T:av n)(hz:z∉ag n):av m:=by
 intro y hy;rw[hp.count_eq,Cz,Cz]
 by_cases e:z=y
 ·subst e;rw[List.count_eq_zero.mpr hz];simp
 ·have hy:=hp.mem_iff.mp hy
  rcases Ak.mp hy with h | hy
  ·exact absurd h.symm e
  ·rcases Ak.mp hy with h | hy
   ·exact absurd h.symm e
   ·rw[T y hy];have:(z == y)=false:=by simpa using e
    rw[this];rfl
def sE{nm:Str}{c:End}(h:eS [(nm,[])] c):c=(0,0):=by
 obtain⟨h1,h2⟩:=h;have h1:c.1 < 1:=h1;have e:c.1=0:=by omega
 have h2:c.2 < max 1 (row [(nm,[])] c.1).length:=h2;rw[e]at h2;have h2:c.2 < 1:=h2;exact HJ e<|by show c.2=0;omega
def yE{n:Net}(F:Full n):(∃ nm,n=[(nm,[])])\/row n 0≠[]:=by
 rcases F with h | ⟨h1,h2⟩
 ·exact .inl h
 ·exact .inr<|h2 0<|Dq.mpr h1
def k9i{n:Net}{c:End}{z pt:Str}(T:av n)(F:Full n)(hz:z∉ag n)(hc:eS n c) (hp:(ag<|ins n c z++[(pt,[z])]).Perm<|z :: z :: ag n) (P:Pl n):Pl (ins n c z++[(pt,[z])]):=by
 have T':=yD hp T hz
 rcases yE F with ⟨nm,rfl⟩ | h0
 ·have:=sE hc;subst this;exact k7f T'
 ·exact q0h T T' (F.cI h0 hc) P
def q4p{n:Net}{k1 k2:End}{z:Str}(T:av n)(F:Full n)(hz:z∉ag n)(h1:eS n k1)(h2:eS n k2) (hp:(ag<|ins (ins n k1 z) k2 z).Perm<|z :: z :: ag n) (ord:k2=k1\/sh k1 k2=k2) (same:(∃ k,it (step n) k k1=k2)\/∃ k,it (step n) k k2=k1) (P:Pl n):Pl (ins (ins n k1 z) k2 z):=by
 have T':=yD hp T hz
 rcases yE F with ⟨nm,rfl⟩ | h0
 ·have:=sE h1;subst this;have:=sE h2;subst this;exact q5d T'
 ·exact q80 T T' (F.cI h0 h1) (F.cI h0 h2) ord same P
def q1s{a b:End}(h:bw.lexLt ((a.1:Int),(a.2:Int)) ((b.1:Int),(b.2:Int))=true):sh b a=a:=by
 unfold bw.lexLt at h;unfold sh;refine BK λq=>?_;rw[BL<|by rw[q.1]]at h;have:=BX h;have q2:=q.2;omega
def q2d{a b:End}(h:bw.lexLt ((a.1:Int),(a.2:Int)) ((b.1:Int),(b.2:Int))=false):b=a\/sh a b=b:=by
 unfold bw.lexLt at h
 by_cases e:(a.1:Int)=(b.1:Int)
 ·rw[BL e]at h;have h:=FW h
  by_cases e2:a.2=b.2
  ·exact .inl<|HJ (by omega) e2.symm
  ·refine .inr<|BK λq=>?_;have q2:=q.2;have h:¬((a.2:Int) < (b.2:Int)):=h;omega
 ·exact .inr<|BK λq=>e<|by rw[q.1]
def P2(a b:Net):ag (a++b)=ag a++ag b:=by
 unfold ag;rw[Cr]
def q4l{n n2 n0:Net}{j i:Nat}{x:Str}(hj:j < n.length)(hi:i < max 1 (row n j).length)(T0:av n0)(pt:(ag n++ag n2).Perm<|ag n0)
  (gG:(ag (n.eraseIdx j)++ag (n2++[(x,(row n j).drop i++(row n j).take i)])).Perm<|ag n0) (P:Pl<|n++n2):Pl (n.eraseIdx j++(n2++[(x,(row n j).drop i++(row n j).take i)])):=by
 have tw:∀ m:Net,(ag m).Perm (ag n0)->av m:=λm p y hy=>by rw[p.count_eq];exact T0 y<|p.mem_iff.mp hy
 rw[<- P2]at pt gG;have er:row (n++n2) j=row n j:=nZ hj;have ee:n.eraseIdx j++(n2++[(x,(row n j).drop i++(row n j).take i)])=(n++n2).eraseIdx j++[(x,(row (n++n2) j).drop i++(row (n++n2) j).take i)]:=by
  rw[KQ hj,At,er]
 rw[ee]at gG ⊢;exact q7n (by rw[Ad];omega) (by rw[er];exact hi) (tw _ pt) (tw _ gG) (by rw[gG.length_eq,pt.length_eq]) P
end Nt
namespace Nt
def q39{n:Net}{e c:End}{fs:List End}(f:fH n e fs)(h:c∈fs):∃ k,it (step n) k e=c:=by
 obtain⟨i,hi,e1⟩:=Dx.mp h;have:=f.at' i hi;rw[Ab hi,e1]at this;exact⟨i,(Option.some.inj this).symm⟩
open PySem
def aj:List Bool->Bool
 | []=>false
 | b :: l=>b ^^ aj l
theorem gX:∀(a b:List Bool),aj (a++b)=(aj a ^^ aj b)
 | [],b=>by simp[aj]
 | x :: a,b=>by
  show(x ^^ aj (a++b))=((x ^^ aj a) ^^ aj b);rw[gX a b,Bool.xor_assoc]
theorem P4{a b:List Bool}(h:a.Perm b):aj a=aj b:=by
 induction h with
 | nil=>rfl
 | cons x _ ih=>show(x ^^ _)=(x ^^ _);rw[ih]
 | swap x y l=>show(y ^^ (x ^^ aj l))=(x ^^ (y ^^ aj l));cases x <;> cases y <;> simp
 | trans _ _ h1 h2=>exact h1.trans h2
theorem gY{α:Type}(f g:α->Bool):∀ l:List α,aj (l.map λx=>f x ^^ g x)=(aj (l.map f) ^^ aj (l.map g))
 | []=>rfl
 | x :: l=>by
  show((f x ^^ g x) ^^ aj (l.map λx=>f x ^^ g x))=((f x ^^ aj (l.map f)) ^^ (g x ^^ aj (l.map g)));rw[gY f g l];cases f x <;> cases g x <;> cases aj (l.map f) <;> cases aj (l.map g) <;> rfl
def dL(n:Net)(s:Str->Bool):Prop:=∀ r,aj ((row n r).map s)=false
structure aZ(n:Net)(s:Str->Bool)(χ:End->Bool):Prop where
 go:∀ e∈ends n,χ (step n e)=χ e
 cY:∀ e z,aK n e=some z->s z=(χ e ^^ χ (other n e))
def RS(n:Net):Prop:=∀ s:Str->Bool,dL n s->∃ χ,aZ n s χ
def P5(n:Net)(r:Nat)(s:Str->Bool)(g:End->Bool)(h:∀ p z,(row n r)[p]?=some z->s z=g (r,p)):(row n r).map s=(List.range (row n r).length).map λp=>g (r,p):=by
 apply Dz;intro p;rw[Aj,Aj]
 by_cases hp:p < (row n r).length
 ·rw[Ab hp,Eh hp];exact BZ some<|h p _<|Ab hp
 ·rw[Be (by omega),Be<|by simp;omega];rfl
theorem F7(f:Nat->Bool)(m:Nat):aj ((List.range m).map λp=>f<|(p+1) % m)=aj ((List.range m).map f):=by
 cases m with
 | zero=>rfl
 | succ k=>
  have e:(List.range<|k+1).map (λp=>f<|(p+1) % (k+1))=((List.range k).map λp=>f<|p+1)++[f 0]:=by
   rw[Du,Ag]
   congr 1
   ·refine Aq λp hp=>?_;have:=Bw.mp hp;show f ((p+1) % (k+1))=f (p+1);rw[Ce<|by omega]
   ·simp
  rw[e,List.range_succ_eq_map,Bj,Cn,gX];show _=(f 0 ^^ aj ((List.range k).map<|f ∘ Nat.succ));show(aj ((List.range k).map λp=>f<|p+1) ^^ (f 0 ^^ false))=(f 0 ^^ aj ((List.range k).map λp=>f<|p+1));cases f 0 <;> cases aj ((List.range k).map λp=>f<|p+1) <;> rfl
def aZ.even{n:Net}(T:av n){s:Str->Bool}{χ:End->Bool}(h:aZ n s χ):dL n s:=by
 intro r;rw[P5 n r s (λe=>χ e ^^ χ (other n e)) λp z hz=>h.cY (r,p) z hz];rw[gY (λp=>χ (r,p)) λp=>χ<|other n (r,p)];have e:((List.range (row n r).length).map λp=>χ<|other n (r,p))=(List.range (row n r).length).map λp=>χ (r,(p+1) % (row n r).length):=by
  refine Aq λp hp=>?_;have hp:=Bw.mp hp;obtain⟨z,hz⟩:=xY (n:=n) (e:=(r,p)) hp;obtain⟨h1,h2,_⟩:=du T hz;have:=h.go (other n (r,p))<|af.mpr ⟨z,h1⟩;rw[<- this];show χ (left n (other n<|other n (r,p)))=_;rw[h2];rfl
 rw[e,F7 λp=>χ (r,p)];cases aj ((List.range (row n r).length).map λp=>χ (r,p)) <;> rfl
def aZ.xor{n:Net}{s t:Str->Bool}{χ ψ:End->Bool}(h:aZ n s χ)(g:aZ n t ψ):aZ n (λz=>s z ^^ t z) (λe=>χ e ^^ ψ e):=by
 refine⟨λe he=>?_,λe z hz=>?_⟩
 ·rw[h.go e he,g.go e he]
 ·show(s z ^^ t z)=((χ e ^^ ψ e) ^^ (χ (other n e) ^^ ψ (other n e)));rw[h.cY e z hz,g.cY e z hz];cases χ e <;> cases ψ e <;> cases χ (other n e) <;> cases ψ (other n e) <;> rfl
def dL.xor{n:Net}{s t:Str->Bool}(h:dL n s)(g:dL n t):dL n (λz=>s z ^^ t z):=λr=>by
 rw[gY s t,h r,g r];rfl
section
variable{n m:Net}{g:End->End}{e1 e2:End}{z:Str}
def dZ.mark(p:dZ n m g e1 e2 z)(χ:End->Bool)(a:Bool):∃ χ':End->Bool,(∀ e∈ends n,χ' (g e)=χ e)/\χ' e1=a/\χ' e2=a:=by
 refine⟨λx=>if x=e1 then a else if x=e2 then a else match (ends n).find? (λe=>decide (g e=x))with | some e=>χ e | none=>false,λe he=>?_,?_,?_⟩
 ·show(if g e=e1 then a else if g e=e2 then a else match (ends n).find? (λe'=>decide (g e'=g e))with | some e=>χ e | none=>false)=χ e;rw[BK<|p.n1 e he,BK<|p.n2 e he];cases hf:(ends n).find? (λe'=>decide (g e'=g e)) with
  | none=>exact absurd (BW (rfl:g e=g e))<|by simpa using Gc.mp hf e he
  | some e'=>
   have h5:=Gu hf;have h5:g e'=g e:=BX h5;rw[p.inj _ _ h5]
 ·simp
 ·simp
def dZ.kA(p:dZ n m g e1 e2 z)(T:av n)(T':av m){s:Str->Bool}{χ:End->Bool}(h:aZ n s χ)(hz:s z=false){a:Bool}
  (st:∀ x∈ends n,step m (g x)=g (step n x)\/((step m (g x)=e1\/step m (g x)=e2)/\χ (step n x)=a))
  (s1:step m e1=e1\/step m e1=e2\/∃ k∈ends n,step m e1=g k/\χ k=a) (s2:step m e2=e1\/step m e2=e2\/∃ k∈ends n,step m e2=g k/\χ k=a):∃ χ',aZ m s χ':=by
 obtain⟨χ',h1,h2,h3⟩:=p.mark χ a;have kC:∀ x∈ends m,(∃ e∈ends n,x=g e)\/x=e1\/x=e2:=λx hx=>by
  have:=p.perm.mem_iff.mpr hx
  rcases Al.mp this with q | q
  ·obtain⟨e,he,rfl⟩:=Ap.mp q;exact .inl ⟨e,he,rfl⟩
  ·simp only[Ak,Ck,FZ]at q;exact .inr q
 refine⟨χ',λx hx=>?_,λx y hy=>?_⟩
 ·rcases kC x hx with ⟨e,he,rfl⟩ | rfl | rfl
  ·rw[h1 e he]
   rcases st e he with q | ⟨q,qa⟩
   ·rw[q,h1 _<|rX T he,h.go e he]
   ·rw[h.go e he]at qa
    rcases q with q | q
    ·rw[q,h2,qa]
    ·rw[q,h3,qa]
  ·rcases s1 with q | q | ⟨k,hk,q,qa⟩
   ·rw[q]
   ·rw[q,h2,h3]
   ·rw[q,h1 k hk,h2,qa]
  ·rcases s2 with q | q | ⟨k,hk,q,qa⟩
   ·rw[q,h2,h3]
   ·rw[q]
   ·rw[q,h1 k hk,h3,qa]
 ·rcases kC x (af.mpr ⟨y,hy⟩)with ⟨e,he,rfl⟩ | rfl | rfl
  ·rw[p.cY e he]at hy;obtain⟨o1,_,_⟩:=du T hy;rw[p.ii T T' he,h1 e he,h1 _<|af.mpr ⟨y,o1⟩];exact h.cY e y hy
  ·rw[p.t1]at hy;cases hy;rw[p.o1 T',h2,h3,hz];cases a <;> rfl
  ·rw[p.t2]at hy;cases hy;rw[p.o2 T',h2,h3,hz];cases a <;> rfl
def P6(T':av m){ψ:End->Bool}(hψ:∀ e∈ends m,ψ (step m e)=ψ e)(t1:aK m e1=some z)(ho:other m e1=e2)(ne:ψ e1≠ψ e2)(h0:∀ s,dL m s->s z=false->∃ χ,aZ m s χ):RS m:=by
 intro s hs
 by_cases hz:s z=false
 ·exact h0 s hs hz
 ·have hz:s z=true:=by cases h:s z with | true=>rfl | false=>exact absurd h hz
  let t:Str->Bool:=λy=>match (ends m).find? (λe=>decide (aK m e=some y))with | some e=>ψ e ^^ ψ (other m e) | none=>false
  have ht:aZ m t ψ:=by
   refine⟨hψ,λe y hy=>?_⟩;show(match (ends m).find? (λe=>decide (aK m e=some y))with | some e=>ψ e ^^ ψ (other m e) | none=>false)=_;cases hf:(ends m).find? (λe=>decide (aK m e=some y)) with
   | none=>exact absurd (BW hy)<|by simpa using Gc.mp hf e (af.mpr ⟨y,hy⟩)
   | some e'=>
    have h5:=Gu hf;have h':aK m e'=some y:=BX h5
    by_cases q:e'=e
    ·rw[q]
    ·have o1:=iO T' h' hy q;have o2:=iO T' hy h'<|CK q;show(ψ e' ^^ ψ (other m e'))=_;rw[o1,o2];cases ψ e <;> cases ψ e' <;> rfl
  have tz:t z=true:=by
   rw[ht.cY e1 z t1,ho];cases h1:ψ e1 <;> cases h2:ψ e2 <;> simp_all
  obtain⟨χ,hχ⟩:=h0 (λy=>s y ^^ t y) (hs.xor<|ht.even T') (by show(s z ^^ t z)=false;rw[hz,tz];rfl);have:=hχ.xor ht;refine⟨λe=>χ e ^^ ψ e,this.go,λe y hy=>?_⟩;rw[<- this.cY e y hy];show s y=((s y ^^ t y) ^^ t y);cases s y <;> cases t y <;> rfl
def F8{n:Net}{c:End}{z:Str}(hc:c.1 < n.length){s:Str->Bool}(hz:s z=false)(r:Nat):aj ((row (ins n c z) r).map s)=aj ((row n r).map s):=by
 rw[se n c z r hc]
 by_cases h:c.1=r
 ·rw[BL h,Ag,Bj,gX];show(aj (((row n r).take c.2).map s) ^^ (s z ^^ aj (((row n r).drop c.2).map s)))=_;rw[hz,Fo,<- gX,<- Ag,Dk]
 ·rw[BK h]
def Dec.mark{α:Type} [DecidableEq α] {f:α->α} {D:List α} {Ls:List (List α)} (d:Dec f D Ls) {l:List α} (hl:l∈Ls):∀ x∈D,(f x∈l↔x∈l):=by
 intro x hx;obtain⟨A,B,rfl⟩:=El hl;have d':Dec f D (l :: (A++B)):=⟨λk hk=>d.kz k (by
  rcases Ak.mp hk with rfl | hk
  ·exact hl
  ·rcases Al.mp hk with q | q
   ·exact Bc _ q
   ·exact Aw _<|Ah _ q),by
  refine List.Perm.trans ?_ d.all;rw[Dl,Fw,Fw,Dl,<- At,<- At];exact(Cm).append_right _,d.nd⟩
 have cl:∀ k∈l :: (A++B),∀ x∈k,f x∈k:=λk hk x hx=>by
  obtain⟨c,hc,p⟩:=d'.kz k hk;exact F1 p hc hx
 by_cases h:x∈l
 ·exact⟨λ_=>h,λ_=>cl l Af x h⟩
 ·refine⟨λq=>?_,λq=>absurd q h⟩
  exfalso
  obtain⟨k,hk,P7⟩:=Fu.mp<|d'.all.mem_iff.mpr hx
  rcases Ak.mp hk with rfl | lY
  ·exact h P7
  ·exact d'.apart.2 k lY _ q<|cl k hk x P7
theorem F9{s:Str->Bool}{χ:End->Bool}(T:av n)(h:aZ n s χ){a:End}(ha:a∈ends n):∀ k,χ (it (step n) k a)=χ a
 | 0=>rfl
 | k+1=>by
  show χ (step n<|it (step n) k a)=_;rw[h.go _<|ki (λx hx=>rX T hx) ha k,F9 T h ha k]
def q1q(p:dZ n m g e1 e2 z)(T:av n)(T':av m){k1 k2:End}(h1:k1∈ends n)(h2:k2∈ends n)(ne:k2≠k1)(same:(∃ k,it (step n) k k1=k2)\/∃ k,it (step n) k k2=k1)
  (l1:left m e1=g k1) (l2:left m e2=g k2) (lf:∀ e∈ends n,left m (g e)=if left n e=k1 then e1 else if left n e=k2 then e2 else g (left n e))
  {Ls:List (List End)} (d:Dec (step n) (ends n) Ls) (ev:∀ s,dL m s->s z=false->dL n s) (R:RS n):RS m:=by
 have st:∀ x∈ends n,step m (g x)=if step n x=k1 then e1 else if step n x=k2 then e2 else g (step n x):=λx hx=>by
  unfold step;rw[p.ii T T' hx];exact lf _<|cX T hx
 have s1:step m e1=g k2:=by unfold step;rw[p.o1 T'];exact l2
 have s2:step m e2=g k1:=by unfold step;rw[p.o2 T'];exact l1
 obtain⟨l,Ms,hL,d⟩:=d.pick h1;have hk:=d.one h2 same ne;obtain⟨PR,hL',d',w,hw,w2,w1⟩:=d.split (f':=step m) (g:=g) hk (e1:=e1) (e2:=e2) s1 s2
  (λx hx e=>by rw[st x hx,BL e]) (λx hx e=>by rw[st x hx,BK (by rw[e];exact ne),BL e]) (λx hx a b=>by rw[st x hx,BK a,BK b]) p.nd
 have dm:=d'.perm p.perm;refine P6 T' (ψ:=λx=>decide (x∈w)) (λx hx=>decide_eq_decide.mpr<|dm.mark hw x hx) p.t1 (p.o1 T') (by show decide (e1∈w)≠decide (e2∈w);rw[BR w1,BW w2];decide) λs hs hz=>?_;obtain⟨χ,hχ⟩:=R s<|ev s hs hz;have ek:χ k2=χ k1:=by
  rcases same with ⟨k,e⟩ | ⟨k,e⟩
  ·rw[<- e];exact F9 T hχ h1 k
  ·rw[<- e];exact(F9 T hχ h2 k).symm
 refine p.kA T T' hχ hz (a:=χ k1) (λx hx=>?_) (.inr<|.inr ⟨k2,h2,s1,ek⟩)<|.inr<|.inr ⟨k1,h1,s2,rfl⟩;rw[st x hx]
 by_cases c1:step n x=k1
 ·rw[BL c1];exact .inr ⟨.inl rfl,by rw[c1]⟩
 ·rw[BK c1]
  by_cases c2:step n x=k2
  ·rw[BL c2];exact .inr ⟨.inr rfl,by rw[c2,ek]⟩
  ·rw[BK c2];exact .inl rfl
def q3y(p:dZ n m g e1 e2 z)(T:av n)(T':av m){c:End}(h1:c∈ends n)(l1:left m e1=g c)(l2:left m e2=e1)(lf:∀ e∈ends n,left m (g e)=if left n e=c then e2 else g (left n e))
  (ev:∀ s,dL m s->s z=false->dL n s) (R:RS n):RS m:=by
 have st:∀ x∈ends n,step m (g x)=if step n x=c then e2 else g (step n x):=λx hx=>by
  unfold step;rw[p.ii T T' hx];exact lf _<|cX T hx
 have s1:step m e1=e1:=by unfold step;rw[p.o1 T'];exact l2
 have s2:step m e2=g c:=by unfold step;rw[p.o2 T'];exact l1
 have yF:e1∈ends m:=af.mpr ⟨z,p.t1⟩;refine P6 T' (ψ:=λx=>decide (x=e1)) (λx hx=>?_) p.t1 (p.o1 T') (by show decide (e1=e1)≠decide (e2=e1);rw[BW rfl,BR p.ne.symm];decide) λs hs hz=>?_
 ·by_cases q:x=e1
  ·rw[q,s1]
  ·show decide (step m x=e1)=decide (x=e1);rw[BR q];exact BR λe=>q<|OM T' hx yF<|by rw[e,s1]
 obtain⟨χ,hχ⟩:=R s<|ev s hs hz;refine p.kA T T' hχ hz (a:=χ c) (λx hx=>?_) (.inl s1)<|.inr<|.inr ⟨c,h1,s2,rfl⟩;rw[st x hx]
 by_cases c1:step n x=c
 ·rw[BL c1];exact .inr ⟨.inr rfl,by rw[c1]⟩
 ·rw[BK c1];exact .inl rfl
def k93(p:dZ n m g e1 e2 z)(T:av n)(T':av m){c:End}(h1:c∈ends n)(l1:left m e1=g c)(l2:left m e2=e2)(lf:∀ e∈ends n,left m (g e)=if left n e=c then e1 else g (left n e))
  (hz:∀ s,dL m s->s z=false) (ev:∀ s,dL m s->s z=false->dL n s) (R:RS n):RS m:=by
 have st:∀ x∈ends n,step m (g x)=if step n x=c then e1 else g (step n x):=λx hx=>by
  unfold step;rw[p.ii T T' hx];exact lf _<|cX T hx
 have s1:step m e1=e2:=by unfold step;rw[p.o1 T'];exact l2
 have s2:step m e2=g c:=by unfold step;rw[p.o2 T'];exact l1
 intro s hs;have hz:=hz s hs;obtain⟨χ,hχ⟩:=R s<|ev s hs hz;refine p.kA T T' hχ hz (a:=χ c) (λx hx=>?_) (.inr<|.inl s1)<|.inr<|.inr ⟨c,h1,s2,rfl⟩;rw[st x hx]
 by_cases c1:step n x=c
 ·rw[BL c1];exact .inr ⟨.inl rfl,by rw[c1]⟩
 ·rw[BK c1];exact .inl rfl
end
section
variable{n:Net}{z:Str}
def q73{k1 k2:End}(T:av n)(T':av<|ins (ins n k1 z) k2 z)(h1:k1∈ends n)(h2:k2∈ends n)(ord:k2=k1\/sh k1 k2=k2)(same:(∃ k,it (step n) k k1=k2)\/∃ k,it (step n) k k2=k1)(P:Pl n)(R:RS n):RS (ins (ins n k1 z) k2 z):=by
 have r1:=fh h1;have r2:=fh h2;have p:=PU (z:=z) (k1:=k1) (k2:=k2) ⟨r1.1,Cs r1.2⟩ ⟨r2.1,Cs r2.2⟩;have c2:k2.1 < (ins n k1 z).length:=by rw[gT];exact r2.1
 have rl:∀ i,(row n i).length<=(row (ins n k1 z) i).length:=λi=>by
  rw[sC r1.1<|Cs r1.2]
  split <;> omega
 have p2:k2.2 < (row (ins n k1 z) k2.1).length:=Bi r2.2<|rl _;have p1:k1.2 < (row (ins n k1 z) k1.1).length:=Bi r1.2<|rl _;have sl:∀ e∈ends n,(sh k1 e).2 < (row (ins n k1 z) (sh k1 e).1).length:=λe he=>by
  obtain⟨y,hy⟩:=af.mp he;exact f9 (z:=y)<|by rw[sD r1.1<|Cs r1.2];exact hy
 have l0:left (ins n k1 z) k1=sh k1 k1:=nX r1.1 r1.2;have ev:∀ s,dL (ins (ins n k1 z) k2 z) s->s z=false->dL n s:=λs hs hz r=>by
  rw[<- F8 r1.1 hz r,<- F8 c2 hz r];exact hs r
 by_cases e:k2=k1
 ·subst e;refine q3y p T T' h1 ?_ (nX c2 p2) (λe he=>?_) ev R
  ·rw[iP c2 p2 p1,l0,BK<|nW _ _]
  ·show left _ (sh k2<|sh k2 e)=_;rw[iP c2 p2<|sl e he,iP r1.1 r1.2 (fh he).2]
   by_cases q:left n e=k2
   ·rw[BL q,BL rfl,BL q]
   ·rw[BK q,BK<|nW _ _,BK q]
 ·have hs:sh k1 k2=k2:=ord.resolve_left e
  rcases P with ⟨t0,_⟩ | ⟨Ls,d,_⟩
  ·obtain⟨y,hy⟩:=af.mp h1;have:=dG hy;rw[t0]at this;cases this
  refine q1q p T T' h1 h2 e same ?_ ?_ (λe' he=>?_) d ev R
  ·rw[iP c2 p2 p1,l0,BK λq=>e<|nV (c:=k1)<|by rw[hs,q]]
  ·show left _ k2=sh k2 (sh k1 k2);rw[hs];exact nX c2 p2
  ·show left _ (sh k2<|sh k1 e')=if left n e'=k1 then sh k2 k1 else if left n e'=k2 then k2 else sh k2 (sh k1<|left n e');rw[iP c2 p2<|sl e' he,iP r1.1 r1.2 (fh he).2]
   by_cases q:left n e'=k1
   ·rw[BL q,BL q,BK λx=>e x.symm]
   ·rw[BK q,BK q]
    by_cases q2:left n e'=k2
    ·rw[BL q2,q2,hs,BL rfl]
    ·rw[BK q2,BK λx=>q2<|nV (c:=k1)<|by rw[x,hs]]
def k61{c:End}{pt:Str}(T:av n)(T':av<|ins n c z++[(pt,[z])])(h1:c∈ends n)(R:RS n):RS (ins n c z++[(pt,[z])]):=by
 have r1:=fh h1;have p:=PV (z:=z) (c:=c) (pt:=pt) ⟨r1.1,Cs r1.2⟩;have la:∀ e:End,e.1 < n.length->left (ins n c z++[(pt,[z])]) e=left (ins n c z) e:=λe he=>by
  unfold left;rw[nZ<|by rw[gT];exact he]
 have kD:=yC (a:=ins n c z) (x:=(pt,[z]));rw[gT]at kD;refine k93 p T T' h1 ?_ ?_ (λe he=>?_) (λs hs=>?_) (λs hs hz r=>?_) R
 ·rw[la _ r1.1];exact nX r1.1 r1.2
 ·unfold left;show(n.length,(0+1) % (row _ n.length).length)=_;rw[kD];exact BZ (Prod.mk _)<|Cy 1
 ·rw[la _<|by rw[mD];exact(fh he).1];exact iP r1.1 r1.2 (fh he).2
 ·have:=hs n.length;rw[kD]at this;have:(s z ^^ false)=false:=this
  simpa using this
 ·by_cases h:r < n.length
  ·have:=hs r;rw[nZ (by rw[gT];exact h),F8 r1.1 hz r]at this;exact this
  ·have:row n r=[]:=by
    unfold row;rw[Be<|by omega];rfl
   rw[this];rfl
end
def q8q{nm:Str}:RS [(nm,[])]:=λs _=>⟨λ_=>false,λe he=>rfl,λe y hy=>by
 have:=dG hy;cases this⟩
def k53{nm pt z:Str}(T':av [(nm,[z]),(pt,[z])]):RS [(nm,[z]),(pt,[z])]:=λs hs=>⟨λ_=>false,λe he=>rfl,λe y hy=>by
 have h:=dG hy;have:y=z:=by simpa[ag]using h
 rw[this];have:=hs 0;have:(s z ^^ false)=false:=this
 simpa using this⟩
def q4g{nm z:Str}(T':av [(nm,[z,z])]):RS [(nm,[z,z])]:=λs _=>by
 have t1:aK [(nm,[z,z])] (0,0)=some z:=rfl;have t2:aK [(nm,[z,z])] (0,1)=some z:=rfl;have o1:=iO T' t1 t2 (by decide);have o2:=iO T' t2 t1 (by decide);have hE:ends [(nm,[z,z])]=[(0,0),(0,1)]:=rfl;refine⟨λe=>decide (e=(0,0)) && s z,λe he=>?_,λe y hy=>?_⟩
 ·rw[hE]at he;simp only[Ak,Ck,FZ]at he
  rcases he with rfl | rfl
  ·show(decide (left [(nm,[z,z])] (other [(nm,[z,z])] (0,0))=(0,0)) && s z)=_;rw[o1];simp[left,row]
  ·show(decide (left [(nm,[z,z])] (other [(nm,[z,z])] (0,1))=(0,0)) && s z)=_;rw[o2];simp[left,row]
 ·have h:=dG hy;have e1:y=z:=by simpa[ag]using h
  have he:=af.mpr ⟨y,hy⟩;rw[hE]at he;simp only[Ak,Ck,FZ]at he;rw[e1]
  rcases he with rfl | rfl
  ·rw[o1];simp
  ·rw[o2];simp
def Fl(n:Net):Prop:=Pl n/\RS n
def q8t{nm:Str}:Fl [(nm,[])]:=⟨.inl ⟨rfl,rfl⟩,q8q⟩
def k75{n:Net}{c:End}{z pt:Str}(T:av n)(F:Full n)(hz:z∉ag n)(hc:eS n c) (hp:(ag<|ins n c z++[(pt,[z])]).Perm<|z :: z :: ag n) (P:Fl n):Fl (ins n c z++[(pt,[z])]):=by
 refine⟨k9i T F hz hc hp P.1,?_⟩;have T':=yD hp T hz
 rcases yE F with ⟨nm,rfl⟩ | h0
 ·have:=sE hc;subst this;exact k53 T'
 ·exact k61 T T' (F.cI h0 hc) P.2
def q5p{n:Net}{k1 k2:End}{z:Str}(T:av n)(F:Full n)(hz:z∉ag n)(h1:eS n k1)(h2:eS n k2) (hp:(ag<|ins (ins n k1 z) k2 z).Perm<|z :: z :: ag n) (ord:k2=k1\/sh k1 k2=k2) (same:(∃ k,it (step n) k k1=k2)\/∃ k,it (step n) k k2=k1) (P:Fl n):Fl (ins (ins n k1 z) k2 z):=by
 refine⟨q4p T F hz h1 h2 hp ord same P.1,?_⟩;have T':=yD hp T hz
 rcases yE F with ⟨nm,rfl⟩ | h0
 ·have:=sE h1;subst this;have:=sE h2;subst this;exact q4g T'
 ·exact q73 T T' (F.cI h0 h1) (F.cI h0 h2) ord same P.1 P.2
def q01{n m:Net}{g:End->End}(T:av n)(T':av m)(ht:(ag m).length=(ag n).length)(cY:∀ e∈ends n,aK m (g e)=aK n e)(inj:∀ a∈ends n,∀ b∈ends n,g a=g b->a=b)
  (lf:∀ e∈ends n,left m (g e)=g (left n e)) (ev:∀ s,dL m s->dL n s) (R:RS n):RS m:=by
 have u7:∀ x∈ends m,∃ e∈ends n,x=g e:=by
  have nd:((ends n).map g).Nodup:=by
   have:∀(l:List End),(∀ x∈l,x∈ends n)->l.Nodup->(l.map g).Nodup:=by
    intro l
    induction l with
    | nil=>intro _ _;exact Ch
    | cons x l ih=>
     intro hs h;have h:=Bf.mp h;rw[Bj];refine Bf.mpr ⟨λhx=>?_,ih (λy hy=>hs y<|Ah _ hy) h.2⟩;obtain⟨y,hy,e⟩:=Ap.mp hx;have:=inj y (hs y<|Ah _ hy) x (hs x Af) e;exact h.1<|this ▸ hy
   exact this _ (λx hx=>hx)<|rW n
  have pm:((ends n).map g).Perm (ends m):=by
   refine uZ nd (λa ha=>?_) (by rw[Aa,jN,jN,ht];exact Ao _);obtain⟨x,hx,rfl⟩:=Ap.mp ha;obtain⟨y,hy⟩:=af.mp hx;exact af.mpr ⟨y,by rw[cY x hx];exact hy⟩
  intro x hx;obtain⟨e,he,q⟩:=Ap.mp<|pm.mem_iff.mpr hx;exact⟨e,he,q.symm⟩
 intro s hs;obtain⟨χ,hχ⟩:=R s<|ev s hs
 let χ':End->Bool:=λx=>match (ends n).find? (λe=>decide (g e=x))with | some e=>χ e | none=>false
 have h1:∀ e∈ends n,χ' (g e)=χ e:=λe he=>by
  show(match (ends n).find? (λe'=>decide (g e'=g e))with | some e=>χ e | none=>false)=χ e;cases hf:(ends n).find? (λe'=>decide (g e'=g e)) with
  | none=>exact absurd (BW (rfl:g e=g e))<|by simpa using Gc.mp hf e he
  | some e'=>
   have h5:=Gu hf;have h5:g e'=g e:=BX h5;rw[inj _ (List.mem_of_find?_eq_some hf) _ he h5]
 have ii:∀ e∈ends n,other m (g e)=g (other n e):=λe he=>by
  obtain⟨y,hy⟩:=af.mp he;obtain⟨h1,_,h3⟩:=du T hy;have ho:other n e∈ends n:=af.mpr ⟨y,h1⟩;exact iO T' (by rw[cY e he];exact hy) (by rw[cY _ ho];exact h1) λh=>h3 (inj _ he _ ho h).symm
 refine⟨χ',λx hx=>?_,λx y hy=>?_⟩
 ·obtain⟨e,he,rfl⟩:=u7 x hx;have:step m (g e)=g (step n e):=by
   unfold step;rw[ii e he];exact lf _<|cX T he
  rw[this,h1 _<|rX T he,h1 e he,hχ.go e he]
 ·obtain⟨e,he,rfl⟩:=u7 x<|af.mpr ⟨y,hy⟩;rw[cY e he]at hy;rw[ii e he,h1 e he,h1 _<|cX T he];exact hχ.cY e y hy
def q91{a:Net}{j i:Nat}{x:Str}(hj:j < a.length)(hi:i < max 1 (row a j).length)(T:av a) (T':av<|a.eraseIdx j++[(x,(row a j).drop i++(row a j).take i)])
  (ht:(ag<|a.eraseIdx j++[(x,(row a j).drop i++(row a j).take i)]).length=(ag a).length) (R:RS a):RS (a.eraseIdx j++[(x,(row a j).drop i++(row a j).take i)]):=by
 obtain⟨g,h1,h2,h3⟩:=P0 (x:=x) hj hi;refine q01 T T' ht h1 h2 h3 (λs hs r=>?_) R
 by_cases hr:r < a.length
 ·have:=hs (if r < j then r else if r=j then a.length - 1 else r - 1);rw[PZ hj r hr]at this
  by_cases e:r=j
  ·rw[BL e]at this;rw[<- this,e];refine P4<|List.Perm.map s ?_;show(row a j).Perm ((row a j).drop i++(row a j).take i);refine List.Perm.trans ?_ Cm;rw[Dk]
  ·rw[BK e]at this;exact this
 ·have:row a r=[]:=by
   unfold row;rw[Be<|by omega];rfl
  rw[this];rfl
def q5o{n n2 n0:Net}{j i:Nat}{x:Str}(hj:j < n.length)(hi:i < max 1 (row n j).length)(T0:av n0)(pt:(ag n++ag n2).Perm<|ag n0)
  (gG:(ag (n.eraseIdx j)++ag (n2++[(x,(row n j).drop i++(row n j).take i)])).Perm<|ag n0) (P:Fl<|n++n2):Fl (n.eraseIdx j++(n2++[(x,(row n j).drop i++(row n j).take i)])):=by
 refine⟨q4l hj hi T0 pt gG P.1,?_⟩;have tw:∀ m:Net,(ag m).Perm (ag n0)->av m:=λm p y hy=>by rw[p.count_eq];exact T0 y<|p.mem_iff.mp hy
 rw[<- P2]at pt gG;have er:row (n++n2) j=row n j:=nZ hj;have ee:n.eraseIdx j++(n2++[(x,(row n j).drop i++(row n j).take i)])=(n++n2).eraseIdx j++[(x,(row (n++n2) j).drop i++(row (n++n2) j).take i)]:=by
  rw[KQ hj,At,er]
 rw[ee]at gG ⊢;exact q91 (by rw[Ad];omega) (by rw[er];exact hi) (tw _ pt) (tw _ gG) (by rw[gG.length_eq,pt.length_eq]) P.2
open L2
def aF(n:Net)(r:Nat):Str:=((n[r]?).map (·.1)).getD ⟨#[]⟩
def n9{n:Net}{r:Nat}(h:r < n.length):aF n r=n[r].1:=by unfold aF;rw[Ab h];rfl
abbrev Lk:=Str×Str×Str
def oa(n:Net)(x:Lk):Prop:=∃ a b,pos n x.1=[a,b]/\x.2.1=aF n a.1/\x.2.2=aF n b.1
structure iQ(n:Net)(done:List<|Str×End)(kM:List<|Key×V)(ls:List Lk):Prop where
 m0:∀ z,bJ done z=[]->aJ kM (Sum.inr z)=none
 m1:∀ z a rest,bJ done z=a :: rest->aJ kM (Sum.inr z)=some (.str<|aF n a.1)
 mem:∀ x:Lk,x∈ls↔∃ a b rest,bJ done x.1=a :: b :: rest/\x.2.1=aF n a.1/\x.2.2=aF n b.1
 qh:(ls.map (·.1)).Nodup
 dM:kM.length<=done.length
 mE:ls.length<=done.length
def iQ.start(n:Net):iQ n [] [] []:=⟨λ_ _=>rfl,λz a rest h=>(by cases h),λx=>⟨λh=>(by cases h),λ⟨a,b,rest,h,_⟩=>(by cases h)⟩,Ch,Ao _,Ao _⟩
def iQ.new{n:Net}{done:List (Str×End)}{kM:List (Key×V)}{ls:List Lk}(I:iQ n done kM ls){z:Str}{e:End}(h0:bJ done z=[]):iQ n (done++[(z,e)]) (putK kM (Sum.inr z)<|.str<|aF n e.1) ls:=by
 refine⟨λy hy=>?_,λy a rest hy=>?_,λx=>?_,I.qh,?_,?_⟩
 ·rw[df]at hy;obtain⟨h1,h2⟩:=Fd.mp hy;have bn:¬ z=y:=λq=>by rw[BL q]at h2;cases h2
  rw[fb,BK λq=>bn (Sum.inr.inj q).symm];exact I.m0 y h1
 ·rw[df]at hy
  by_cases q:z=y
  ·subst q;rw[h0,BL rfl]at hy;cases hy;rw[fb,BL rfl]
  ·rw[BK q,Bh]at hy;rw[fb,BK λp=>q (Sum.inr.inj p).symm];exact I.m1 y a rest hy
 ·rw[I.mem x]
  by_cases q:z=x.1
  ·constructor
   ·rintro ⟨a,b,rest,h,_⟩;rw[<- q,h0]at h;cases h
   ·rintro ⟨a,b,rest,h,_⟩;rw[df,<- q,h0,BL rfl]at h;cases h
  ·constructor
   ·rintro ⟨a,b,rest,h,r⟩;exact⟨a,b,rest,by rw[df,BK q,Bh];exact h,r⟩
   ·rintro ⟨a,b,rest,h,r⟩;rw[df,BK q,Bh]at h;exact⟨a,b,rest,h,r⟩
 ·have:=iE kM (Sum.inr z)<|.str<|aF n e.1;have:=I.dM;rw[Ad,Cw];omega
 ·have:=I.mE;rw[Ad,Cw];omega
def iQ.old{n:Net}{done:List (Str×End)}{kM:List (Key×V)}{ls:List Lk}(I:iQ n done kM ls){z:Str}{a e:End}(h1:bJ done z=[a]):iQ n (done++[(z,e)]) kM (ls++[(z,aF n a.1,aF n e.1)]):=by
 have hz:bJ (done++[(z,e)]) z=[a,e]:=by rw[df,h1,BL rfl];rfl
 have hnz:z∉ls.map (·.1):=λh=>by
  obtain⟨x,hx,ex⟩:=Ap.mp h;obtain⟨b,c,rest,hp,_⟩:=(I.mem x).mp hx;have ex:x.1=z:=ex;rw[ex,h1]at hp;cases hp
 refine⟨λy hy=>?_,λy b rest hy=>?_,λx=>?_,?_,?_,?_⟩
 ·rw[df]at hy;exact I.m0 y (Fd.mp hy).1
 ·by_cases q:z=y
  ·subst q;rw[hz]at hy;cases hy;exact I.m1 z a [] h1
  ·rw[df,BK q,Bh]at hy;exact I.m1 y b rest hy
 ·rw[Al,Ae,I.mem x]
  by_cases q:z=x.1
  ·constructor
   ·rintro (⟨b,c,rest,h,_⟩ | h)
    ·rw[<- q,h1]at h;cases h
    ·subst h;exact⟨a,e,[],hz,rfl,rfl⟩
   ·rintro ⟨b,c,rest,h,r1,r2⟩;rw[<- q,hz]at h;cases h;obtain⟨x1,x2,x3⟩:=x;have q:z=x1:=q;have r1:x2=aF n a.1:=r1;have r2:x3=aF n e.1:=r2;subst q r1 r2;exact .inr rfl
  ·constructor
   ·rintro (⟨b,c,rest,h,r⟩ | h)
    ·exact⟨b,c,rest,by rw[df,BK q,Bh];exact h,r⟩
    ·subst h;exact absurd rfl q
   ·rintro ⟨b,c,rest,h,r⟩;rw[df,BK q,Bh]at h;exact .inl ⟨b,c,rest,h,r⟩
 ·rw[Ag];exact pk I.qh hnz
 ·have:=I.dM;rw[Ad,Cw];omega
 ·have:=I.mE;rw[Ad,Ad];show _+1<=_+1;omega
def iQ.whole{n:Net}(T:av n){kM:List (Key×V)}{ls:List Lk}(I:iQ n (bp n) kM ls)(x:Lk):x∈ls↔oa n x:=by
 rw[I.mem x]
 constructor
 ·rintro ⟨a,b,rest,h,r⟩;have hp:pos n x.1=a :: b :: rest:=h;have ha:aK n a=some x.1:=aM.mp (by rw[hp];exact Af ..);have hl:=pP n x.1;rw[hp,T x.1<|dG ha]at hl;have:rest=[]:=by
   have:rest.length+1+1=2:=hl;exact Bd.mp<|by omega
  rw[this]at hp;exact⟨a,b,hp,r⟩
 ·rintro ⟨a,b,h,r⟩;exact⟨a,b,[],h,r⟩
inductive Way (ls:List<|Str×Str×Bool) (f:Str):Str->Bool->Prop where
 | here:Way ls f f false
 | there {x y:Str} {b o:Bool}:Way ls f x b->(x,y,o)∈ls->Way ls f y (b != o)
 | back {x y:Str} {b o:Bool}:Way ls f x b->(y,x,o)∈ls->Way ls f y (b != o)
def bV(n:Net)(ss:Ñ):Bool:=n.all λr=>(r.2.filter λz=>ss.contains z).length % 2 == 0
def mF{n:Net}(T:av n){e x:End}{z:Str}(h:aK n e=some z):aK n x=some z↔x=e\/x=other n e:=by
 obtain⟨o1,o2,o3⟩:=du T h;refine⟨λhx=>?_,λhx=>?_⟩
 ·obtain⟨a,b,hp,gy,he⟩:=pQ T h;have mx:x∈pos n z:=aM.mpr hx;have mo:other n e∈pos n z:=aM.mpr o1;rw[hp]at mx mo;simp only[Ak,Ck,FZ]at mx mo
  rcases he with he | he
  ·rcases mx with m | m
   ·exact .inl<|m.trans he.symm
   ·rcases mo with m2 | m2
    ·exact absurd (m2.trans he.symm) o3
    ·exact .inr<|m.trans m2.symm
  ·rcases mx with m | m
   ·rcases mo with m2 | m2
    ·exact .inr<|m.trans m2.symm
    ·exact absurd (m2.trans he.symm) o3
   ·exact .inl<|m.trans he.symm
 ·rcases hx with rfl | rfl
  ·exact h
  ·exact o1
abbrev Bl:=Str×Str×Bool
def x1a(ls:List Bl)(x y:Str)(o:Bool):Prop:=(x,y,o)∈ls\/(y,x,o)∈ls
open PyProof.Rows (sortedS)
def c9(n:Net):Prop:=∀ P:Str->Prop,(∃ r∈n,P r.1)->(∀ r∈n,∀ s∈n,∀ t,t∈r.2->t∈s.2->P r.1->P s.1)->∀ r∈n,P r.1
def P8{n m:Net}(h1:∀ r∈n,∃ s∈m,s.1=r.1/\∀ t∈r.2,t∈s.2)(h2:∀ s∈m,∃ r∈n,r.1=s.1)(h:c9 n):c9 m:=by
 rintro P ⟨s,hs,ps⟩ cl s' l7;obtain⟨r,hr,er⟩:=h2 s hs;obtain⟨r',qi,er'⟩:=h2 s' l7;rw[<- er'];refine h P ⟨r,hr,by rw[er];exact ps⟩ (λa ha b hb t ta tb pa=>?_) r' qi;obtain⟨a',yG,ea,sa⟩:=h1 a ha;obtain⟨b',nS,eb,sb⟩:=h1 b hb;rw[<- eb];exact cl a' yG b' nS t (sa t ta) (sb t tb)<|by rw[ea];exact pa
def q2e(r:Str×List Str):c9 [r]:=by
 rintro P ⟨s,hs,ps⟩ _ x hx;rw[Ae]at hs hx;rw[hx,<- hs];exact ps
def F'(n:Net)(c:End)(z:Str)(i:Nat):(ins n c z)[i]?=(n[i]?).map λr=>if c.1=i then(r.1,r.2.take c.2++z :: r.2.drop c.2)else r:=by
 unfold ins;rw[Fn]
 by_cases h:c.1=i
 ·simp[h]
 ·simp[h]
def GA{n:Net}{c:End}{z:Str}(h:c9 n):c9 (ins n c z):=by
 refine P8 (λr hr=>?_) (λs hs=>?_) h
 ·obtain⟨i,hi⟩:=Bm hr;have e:=F' n c z i;rw[hi]at e;refine⟨_,As e,?_,λt ht=>?_⟩
  ·split <;> rfl
  ·split
   ·show t∈r.2.take c.2++z :: r.2.drop c.2;rw[<- Dk c.2 r.2]at ht
    rcases Al.mp ht with q | q
    ·exact Bc _ q
    ·exact Aw _<|Ah _ q
   ·exact ht
 ·obtain⟨i,hi⟩:=Bm hs;rw[F',Az]at hi;obtain⟨r,hr,e⟩:=hi;refine⟨r,As hr,?_⟩;rw[<- e]
  split <;> rfl
def q5h{n:Net}{c:End}{z:Str}(hc:c.1 < n.length):∃ r∈ins n c z,z∈r.2:=by
 have e:=F' n c z c.1;rw[Ab hc]at e;refine⟨_,As e,?_⟩;show z∈(if c.1=c.1 then((n[c.1].1,n[c.1].2.take c.2++z :: n[c.1].2.drop c.2):Str×List Str)else n[c.1]).2;rw[BL rfl];exact Aw _<|Af ..
def k9j{n:Net}{z pt:Str}(h:c9 n)(hz:∃ r∈n,z∈r.2):c9 (n++[(pt,[z])]):=by
 obtain⟨r,hr,zr⟩:=hz;rintro P ⟨s,hs,ps⟩ cl x hx;have mn:((pt,[z]):Str×List Str)∈n++[(pt,[z])]:=Aw _<|Ae.mpr rfl;have ml:∀{y},y∈n->y∈n++[(pt,[z])]:=λhy=>Bc _ hy;have all:∀ y∈n,P y.1:=by
  refine h P ?_ λa ha b hb t ta tb pa=>cl a (ml ha) b (ml hb) t ta tb pa
  rcases Al.mp hs with q | q
  ·exact⟨s,q,ps⟩
  ·rw[Ae]at q;subst q;exact⟨r,hr,cl _ mn r (ml hr) z (Ae.mpr rfl) zr ps⟩
 rcases Al.mp hx with q | q
 ·exact all x q
 ·rw[Ae]at q;subst q;exact cl r (ml hr) _ mn z zr (Ae.mpr rfl)<|all r hr
def bP(zs:Ñ):Prop:=zs.Pairwise λa b=>a.cps.toList < b.cps.toList
theorem yH:∀{zs:Ñ},sortedS zs=true->zs.Nodup->bP zs
 | [],_,_=>List.Pairwise.nil
 | z :: r,h,hn=>by
  rw[Bf]at hn;refine List.Pairwise.cons (λx hx=>?_)<|yH (bA.eQ h) hn.2;have h1:=bA.dF r z h x hx
  rcases Gp.mp h1 with q | q
  ·exact q
  ·exact absurd hx<|by rw[<- bA.fE q];exact hn.1
def ga{zs:Ñ}(h:bP zs):zs.Nodup:=h.imp λq e=>by rw[e]at q;exact Gi _ q
theorem va:∀{a b:Ñ},bP a->bP b->(∀ x,x∈a↔x∈b)->a=b
 | [],[],_,_,_=>rfl
 | [],y :: b,_,_,h=>by have:=(h y).mpr<|Af ..;cases this
 | x :: a,[],_,_,h=>by have:=(h x).mp<|Af ..;cases this
 | x :: a,y :: b,ha,hb,h=>by
  unfold bP at ha hb;rw[Cv]at ha hb;have exy:x=y:=by
   rcases Ak.mp ((h x).mp<|Af ..)with e | e
   ·exact e
   ·rcases Ak.mp ((h y).mpr<|Af ..)with e2 | e2
    ·exact e2.symm
    ·exact absurd (Go (ha.1 y e2)<|hb.1 x e)<|Gi _
  subst exy;have nx:∀(l:Ñ),(∀ z∈l,x.cps.toList < z.cps.toList)->x∉l:=λl hl hm=>Gi _<|hl x hm;have:a=b:=va ha.2 hb.2 λz=>by
   constructor
   ·intro hz
    rcases Ak.mp ((h z).mp<|Ah _ hz)with e | e
    ·exact absurd (e ▸ hz)<|nx a ha.1
    ·exact e
   ·intro hz
    rcases Ak.mp ((h z).mpr<|Ah _ hz)with e | e
    ·exact absurd (e ▸ hz)<|nx b hb.1
    ·exact e
  rw[this]
def dv(n:Net)(ps:Ñ)(z:Str):Prop:=∃ e,aK n e=some z/\aF n e.1∈ps/\aF n (other n e).1∉ps
def lz{n:Net}{ps:Ñ}{z:Str}(h:dv n ps z):z∈ag n:=by
 obtain⟨e,he,_⟩:=h;exact dG he
def lB{n:Net}(T:av n){ps:Ñ}{z:Str}{e:End}(he:aK n e=some z):dv n ps z↔(decide (aF n e.1∈ps) != decide (aF n (other n e).1∈ps))=true:=by
 have o:=du T he
 constructor
 ·rintro ⟨x,hx,h1,h2⟩
  rcases (mF T he).mp hx with q | q
  ·subst q;simp[h1,h2]
  ·subst q;rw[o.2.1]at h2;simp[h1,h2]
 ·intro h
  by_cases h1:aF n e.1∈ps
  ·by_cases h2:aF n (other n e).1∈ps
   ·simp[h1,h2]at h
   ·exact⟨e,he,h1,h2⟩
  ·by_cases h2:aF n (other n e).1∈ps
   ·exact⟨other n e,o.1,h2,by rw[o.2.1];exact h1⟩
   ·simp[h1,h2]at h
def q2u{n:Net}(T:av n){x:Lk}(h:oa n x):∃ e,aK n e=some x.1/\x.2.1=aF n e.1/\x.2.2=aF n (other n e).1:=by
 obtain⟨a,b,hp,h1,h2⟩:=h;have ha:aK n a=some x.1:=aM.mp (by rw[hp];exact Af ..);have hb:aK n b=some x.1:=aM.mp (by rw[hp];simp);have qj:=OI n x.1;rw[hp]at qj;have gy:b≠a:=λq=>by rw[q]at qj;simp at qj
 rcases (mF T ha).mp hb with q | q
 ·exact absurd q gy
 ·exact⟨a,ha,h1,by rw[h2,q]⟩
def q0v{n:Net}(T:av n){e:End}{z:Str}(h:aK n e=some z):oa n (z,aF n e.1,aF n (other n e).1)\/oa n (z,aF n (other n e).1,aF n e.1):=by
 obtain⟨a,b,hp,gy,hh⟩:=pQ T h;have ha:aK n a=some z:=aM.mp (by rw[hp];exact Af ..);have hb:aK n b=some z:=aM.mp<|by rw[hp];simp
 rcases hh with q | q
 ·subst q;refine .inl ⟨e,b,hp,rfl,?_⟩
  rcases (mF T h).mp hb with q | q
  ·exact absurd q.symm gy
  ·show aF n (other n e).1=aF n b.1;rw[q]
 ·subst q;refine .inr ⟨a,e,hp,?_,rfl⟩
  rcases (mF T h).mp ha with q | q
  ·exact absurd q gy
  ·show aF n (other n e).1=aF n a.1;rw[q]
def yI{n:Net}(T:av n){ps:Ñ}{x:Lk}(h:oa n x):dv n ps x.1↔(decide (x.2.1∈ps) != decide (x.2.2∈ps))=true:=by
 obtain⟨e,he,h1,h2⟩:=q2u T h;rw[h1,h2];exact lB T he
def bX(n:Net):Str:=aF n 0
structure a7(n:Net)(ss sd:Ñ):Prop where
 og:bP sd
 mem:∀ x∈sd,x∈n.map (·.1)
 fst:bX n∉sd
 cut:∀ z,z∈ss↔dv n sd z
structure Tells(n:Net)(ss:Ñ)(ls:List Bl):Prop where
 to:∀ e z,aK n e=some z->x1a ls (aF n e.1) (aF n (other n e).1) (decide (z∈ss))
 fro:∀ l∈ls,∃ e z,aK n e=some z/\l=(aF n e.1,aF n (other n e).1,decide (z∈ss))
def js{n:Net}{i:Nat}(h:i < n.length):aF n i∈n.map (·.1):=by
 rw[n9 h];exact Ap.mpr ⟨_,Bn h,rfl⟩
noncomputable def dN(n:Net)(ss:Ñ):List Bl:=(ends n).map λe=>(aF n e.1,aF n (other n e).1,decide ((aK n e).getD ⟨#[]⟩∈ss))
def P9{n:Net}{ss:Ñ}:Tells n ss (dN n ss):=by
 refine⟨λe z h=> .inl (Ap.mpr ⟨e,af.mpr ⟨z,h⟩,by rw[h];rfl⟩),λl hl=>?_⟩;obtain⟨e,he,q⟩:=Ap.mp hl;obtain⟨z,hz⟩:=af.mp he;exact⟨e,z,hz,by rw[<- q,hz];rfl⟩
def sF{n:Net}(T:av n){e:End}{z:Str}(h:aK n e=some z):(other n e).1 < n.length:=cz (du T h).1
def k83{n:Net}(T:av n){ps qs:Ñ}(h:∀ x∈n.map (·.1),x∈qs↔x∉ps)(z:Str):dv n ps z↔dv n qs z:=by
 have k:∀{e:End},aK n e=some z->(dv n ps z↔dv n qs z):=λ{e} he=>by
  rw[lB T he,lB T he];have a1:=h _<|js<|cz he;have a2:=h _<|js<|sF T he
  by_cases h1:aF n e.1∈ps <;> by_cases h2:aF n (other n e).1∈ps <;> simp[a1,a2,h1,h2]
 constructor
 ·intro hc;obtain⟨e,he,_⟩:=hc;exact(k he).mp ⟨e,he,by assumption⟩
 ·intro hc;obtain⟨e,he,_⟩:=hc;exact(k he).mpr ⟨e,he,by assumption⟩
open PyProof.Rows (sortedS)
def P'{n:Net}(hn:(n.map (·.1)).Nodup){i j:Nat}(hi:i < n.length)(hj:j < n.length)(h:aF n i=aF n j):i=j:=by
 rw[n9 hi,n9 hj]at h;have:=(Co.mp hn);rw[Bu]at this
 rcases QS i j with q | q | q
 ·exact absurd (by rw[Dw,Dw];exact h)<|this i j (by simpa using hi) (by simpa using hj) q
 ·exact q
 ·exact absurd (by rw[Dw,Dw];exact h.symm)<|this j i (by simpa using hj) (by simpa using hi) q
open PyProof.Rows (sortedS)
theorem Qa(a b c:Ñ)(h:∀ z,z∈c↔(if z∈a then z∉b else z∈b)):∀ zs:Ñ,(zs.filter λz=>c.contains z).length % 2=((zs.filter λz=>a.contains z).length+(zs.filter λz=>b.contains z).length) % 2
 | []=>rfl
 | z :: r=>by
  have ih:=Qa a b c h r;have hz:=h z;have ca:=λ(l:Ñ)=>(Bk (as:=l) (a:=z));simp only[Dg]
  by_cases ha:z∈a <;> by_cases hb:z∈b
  ·have hc:z∉c:=λq=>by have:=hz.mp q;rw[BL ha]at this;exact this hb
   rw[BL<|(ca a).mpr ha,BL<|(ca b).mpr hb,BK λq=>hc<|(ca c).mp q,Ar,Ar];omega
  ·have hc:z∈c:=hz.mpr (by rw[BL ha];exact hb);rw[BL<|(ca a).mpr ha,BK λq=>hb<|(ca b).mp q,BL<|(ca c).mpr hc,Ar,Ar];omega
  ·have hc:z∈c:=hz.mpr (by rw[BK ha];exact hb);rw[BK λq=>ha<|(ca a).mp q,BL<|(ca b).mpr hb,BL<|(ca c).mpr hc,Ar,Ar];omega
  ·have hc:z∉c:=λq=>by have:=hz.mp q;rw[BK ha]at this;exact hb this
   rw[BK λq=>ha<|(ca a).mp q,BK λq=>hb<|(ca b).mp q,BK λq=>hc<|(ca c).mp q];exact ih
def cR{n:Net}{ss:Ñ}:bV n ss=true↔∀ r∈n,(r.2.filter λz=>ss.contains z).length % 2=0:=by
 unfold bV;rw[Eb];exact⟨λh r hr=>by simpa using h r hr,λh r hr=>by simpa using h r hr⟩
def q0x{n:Net}{a b c:Ñ}(ha:bV n a=true)(hb:bV n b=true)(h:∀ z,z∈c↔(if z∈a then z∉b else z∈b)):bV n c=true:=by
 rw[cR]at ha hb ⊢;intro r hr;have h1:=ha r hr;have h2:=hb r hr;rw[Qa a b c h];omega
theorem Qb(k:Nat)(z:Str):∀(ts:Ñ) (p:Nat),(bJ (bu k ts p) z).length=ts.count z
 | [],p=>rfl
 | t :: r,p=>by
  have ih:=Qb k z r<|p+1;have e:bu k (t :: r) p=(t,(k,p)) :: bu k r (p+1):=by unfold bu;rfl
  rw[e];unfold bJ at ih ⊢;rw[Dg,Cz]
  by_cases h:t=z
  ·rw[BL<|BW h,Bj,Ar,ih,BL<|by simpa using h]
  ·rw[BK λq=>h<|BX q,ih,BK<|by simpa using h];rfl
def k7s(a b:List<|Str×End)(z:Str):bJ (a++b) z=bJ a z++bJ b z:=by
 unfold bJ;rw[Cu,Ag]
def Qc{k:Nat}{ts:Ñ}{p:Nat}{z:Str}{e:End}(h:e∈bJ (bu k ts p) z):e.1=k:=by
 unfold bJ at h;obtain⟨x,hx,rfl⟩:=Ap.mp h;obtain⟨y,e⟩:=x;exact(bI.mp (Ba.mp hx).1).1
theorem Qd(ps:Ñ)(f:Nat->Str)(z:Str):∀(m:Net) (k:Nat),(∀(i:Nat) r,m[i]?=some r->f (k+i)=r.1)->((bJ (fG k m) z).filter λe=>decide (f e.1∈ps)).length=(ag<|m.filter λr=>decide (r.1∈ps)).count z
 | [],k,_=>rfl
 | r :: m,k,h=>by
  have ih:=Qd ps f z m (k+1) λi s hs=>by
   have:=h (i+1) s (by simpa using hs);rw[<- this]
   congr 1
   omega
  have e:fG k (r :: m)=bu k r.2 0++fG (k+1) m:=rfl;have hk:f k=r.1:=h 0 r rfl;rw[e,k7s,Cu,Ad,ih,Dg]
  by_cases hr:r.1∈ps
  ·rw[BL<|BW hr];have:ag (r :: m.filter λr=>decide (r.1∈ps))=r.2++ag (m.filter λr=>decide (r.1∈ps)):=by unfold ag;rfl
   rw[this,Cq,List.filter_eq_self.mpr (λe he=>by rw[Qc he,hk];exact BW hr),Qb]
  ·rw[BK λq=>hr<|BX q];have:(bJ (bu k r.2 0) z).filter (λe=>decide (f e.1∈ps))=[]:=Gj.mpr λe he q=>by
    rw[Qc he,hk]at q;exact hr<|BX q
   rw[this];simp
def Qe{n:Net}(T:av n)(ps:Ñ)(z:Str):dv n ps z↔(ag<|n.filter λr=>decide (r.1∈ps)).count z % 2=1:=by
 have e:=Qd ps (aF n) z n 0 λi r h=>by
  rw[Er];unfold aF;rw[h];rfl
 rw[<- e];show dv n ps z↔((pos n z).filter λe=>decide (aF n e.1∈ps)).length % 2=1
 by_cases hz:z∈ag n
 ·obtain⟨a,ha⟩:∃ a,a∈pos n z:=by
   cases hp:pos n z with
   | nil=>exact absurd hp<|cQ.mp hz
   | cons a r=>exact⟨a,Af ..⟩
  obtain⟨x,y,hp,FA,hh⟩:=pQ T<|aM.mp ha;have hl:oa n (z,aF n x.1,aF n y.1):=⟨x,y,hp,rfl,rfl⟩;rw[show dv n ps z↔_ from yI (ps:=ps) T hl,hp]
  by_cases h1:aF n x.1∈ps <;> by_cases h2:aF n y.1∈ps <;> simp[h1,h2]
 ·have hp:pos n z=[]:=DN λh=>hz<|cQ.mpr h;rw[hp];exact⟨λh=>absurd (lz h) hz,λh=>by cases h⟩
theorem GH{a:Ñ}(hn:a.Nodup):∀ l:Ñ,(l.filter λz=>a.contains z).length=(a.map λz=>l.count z).sum
 | []=>by
  have:∀ a:Ñ,(a.map λz=>([]:Ñ).count z).sum=0:=λa=>by
   induction a with
   | nil=>rfl
   | cons x r ih=>rw[Bj,Fz,ih];rfl
  rw[this];rfl
 | y :: l=>by
  have ih:=GH hn l;have key:∀ a:Ñ,(a.map λz=>(y :: l).count z).sum=(a.map λz=>l.count z).sum+a.count y:=λa=>by
   induction a with
   | nil=>rfl
   | cons x r ih=>
    rw[Bj,Fz,ih,Bj,Fz,Cz,Cz]
    by_cases h:y=x
    ·rw[BL (by simp[h]),BL<|by simp[h]];omega
    ·rw[BK (by simpa using h),BK<|by simpa using λq=>h<|Eq.symm q];omega
  rw[key,Dg,<- ih,hn.count]
  by_cases h:y∈a
  ·rw[BL<|Bk.mpr h,BL h,Ar]
  ·rw[BK λq=>h<|Bk.mp q,BK h];rfl
theorem Qf{a:Ñ}:∀ m:Net,(∀ r∈m,(r.2.filter λz=>a.contains z).length % 2=0)->((ag m).filter λz=>a.contains z).length % 2=0
 | [],_=>rfl
 | r :: m,h=>by
  have ih:=Qf m λs hs=>h s<|Ah _ hs;have h1:=h r<|Af ..;have:ag (r :: m)=r.2++ag m:=by unfold ag;rfl
  rw[this,Cu,Ad];omega
theorem Qg(cs:Ñ)(g:Str->Nat)(h:∀ z,z∈cs↔g z % 2=1):∀ a:Ñ,(a.filter λz=>cs.contains z).length % 2=(a.map g).sum % 2
 | []=>rfl
 | z :: r=>by
  have ih:=Qg cs g h r;rw[Dg,Bj,Fz]
  by_cases hz:z∈cs
  ·rw[BL<|Bk.mpr hz,Ar];have:=(h z).mp hz;omega
  ·rw[BK λq=>hz<|Bk.mp q];have:¬ g z % 2=1:=λq=>hz<|(h z).mpr q;omega
def k62{n:Net}(T:av n){a cs ps:Ñ}(ha:bV n a=true)(hn:a.Nodup)(hc:∀ z,z∈cs↔dv n ps z):(a.filter λz=>cs.contains z).length % 2=0:=by
 rw[Qg cs (λz=>(ag<|n.filter λr=>decide (r.1∈ps)).count z) (λz=>(hc z).trans<|Qe T ps z) a,<- GH hn];exact Qf _ λr hr=>cR.mp ha r (Ba.mp hr).1
def q09{a b:Ñ}(ha:a.Nodup)(hb:b.Nodup):(a.filter λz=>b.contains z).length=(b.filter λz=>a.contains z).length:=by
 refine((Fj (ha.filter _)<|hb.filter _).mpr λz=>?_).length_eq;rw[Ba,Ba,Bk,Bk];exact⟨λh=>⟨h.2,h.1⟩,λh=>⟨h.2,h.1⟩⟩
def sG{n:Net}(T:av n){ss:Ñ}(hn:ss.Nodup)(hm:∀ z∈ss,z∈ag n):2 * ss.length<=(ag n).length:=by
 have h:=GH hn<|ag n;have e:∀ l:Ñ,(∀ z∈l,z∈ag n)->(l.map λz=>(ag n).count z).sum=2 * l.length:=λl=>by
  induction l with
  | nil=>intro _;rfl
  | cons x r ih=>
   intro hl;rw[Bj,Fz,ih λz hz=>hl z<|Ah _ hz,T x<|hl x<|Af ..,Ar];omega
 rw[e ss hm]at h;rw[<- h];exact Dj _ _
structure kE(n:Net)(cs:Ñ):Prop where
 og:bP cs
 cut:∃ ps,∀ z,z∈cs↔dv n ps z
def q60{n:Net}(T:av n){a b c:Ñ}(ha:kE n a)(hb:kE n b)(hs:bP c)(h:∀ z,z∈c↔(if z∈a then z∉b else z∈b)):kE n c:=by
 obtain⟨pa,ca⟩:=ha.cut;obtain⟨pb,cb⟩:=hb.cut;have hm:∀ x,x∈n.map (·.1)->(decide (x∈(n.map (·.1)).filter λx=>decide (x∈pa) != decide (x∈pb))=(decide (x∈pa) != decide (x∈pb))):=λx hx=>by
  rw[Cp,CN,Ba];exact⟨λq=>q.2,λq=>⟨hx,q⟩⟩
 refine⟨hs,(n.map (·.1)).filter λx=>decide (x∈pa) != decide (x∈pb),λz=>?_⟩;rw[h z]
 by_cases hz:z∈ag n
 ·obtain⟨e,he⟩:∃ e,e∈pos n z:=by
   cases hp:pos n z with
   | nil=>exact absurd hp<|cQ.mp hz
   | cons a r=>exact⟨a,Af ..⟩
  have he:=aM.mp he;rw[lB T he,hm _<|js<|cz he,hm _<|js<|sF T he];have h1:=(ca z).trans<|lB T he;have h2:=(cb z).trans<|lB T he
  by_cases q1:z∈a <;> by_cases q2:z∈b
  ·have h1:=h1.mp q1;have h2:=h2.mp q2;rw[BL q1];refine⟨λq=>absurd q2 q,λq=>?_⟩
   revert h1 h2 q
   cases decide (aF n e.1∈pa) <;> cases decide (aF n e.1∈pb) <;> cases decide (aF n (other n e).1∈pa) <;> cases decide (aF n (other n e).1∈pb) <;> simp
  ·have h1:=h1.mp q1;have h2:¬ _:=λq=>q2<|h2.mpr q;rw[BL q1];refine⟨λ_=>?_,λ_=>q2⟩
   revert h1 h2
   cases decide (aF n e.1∈pa) <;> cases decide (aF n e.1∈pb) <;> cases decide (aF n (other n e).1∈pa) <;> cases decide (aF n (other n e).1∈pb) <;> simp
  ·have h1:¬ _:=λq=>q1<|h1.mpr q;have h2:=h2.mp q2;rw[BK q1];refine⟨λ_=>?_,λ_=>q2⟩
   revert h1 h2
   cases decide (aF n e.1∈pa) <;> cases decide (aF n e.1∈pb) <;> cases decide (aF n (other n e).1∈pa) <;> cases decide (aF n (other n e).1∈pb) <;> simp
  ·have h1:¬ _:=λq=>q1<|h1.mpr q;have h2:¬ _:=λq=>q2<|h2.mpr q;rw[BK q1];refine⟨λq=>absurd q q2,λq=>?_⟩
   revert h1 h2 q
   cases decide (aF n e.1∈pa) <;> cases decide (aF n e.1∈pb) <;> cases decide (aF n (other n e).1∈pa) <;> cases decide (aF n (other n e).1∈pb) <;> simp
 ·have n1:z∉a:=λq=>hz<|lz<|(ca z).mp q;have n2:z∉b:=λq=>hz<|lz<|(cb z).mp q;rw[BK n1];exact⟨λq=>absurd q n2,λq=>absurd (lz q) hz⟩
def q79{x y:Str}(h:x≠y):x.cps.toList < y.cps.toList\/y.cps.toList < x.cps.toList:=by
 by_cases q:x.cps.toList < y.cps.toList
 ·exact .inl q
 ·rcases Gp.mp (List.not_lt.mp q)with q | q
  ·exact .inr q
  ·exact absurd (bA.fE q).symm h
theorem Qh(x:Str):∀ sd:Ñ,bP sd->∃ jt,bP jt/\∀ y,y∈jt↔y=x\/y∈sd
 | [],_=>⟨[x],Ge _ _,λy=>by simp⟩
 | z :: r,h=>by
  have h:=Cv.mp h
  by_cases e:x=z
  ·subst e;exact⟨x :: r,Cv.mpr h,λy=>by simp⟩
  ·rcases q79 e with q | q
   ·refine⟨x :: z :: r,Cv.mpr ⟨λy hy=>?_,Cv.mpr h⟩,λy=>Ak⟩
    rcases Ak.mp hy with rfl | hy
    ·exact q
    ·exact Go q<|h.1 y hy
   ·obtain⟨jt,hs,hm⟩:=Qh x r h.2;refine⟨z :: jt,Cv.mpr ⟨λy hy=>?_,hs⟩,λy=>?_⟩
    ·rcases (hm y).mp hy with rfl | hy
     ·exact q
     ·exact h.1 y hy
    ·rw[Ak,hm y,Ak];exact⟨λk=>by rcases k with k | k | k <;> simp[k],λk=>by rcases k with k | k | k <;> simp[k]⟩
theorem oh:∀ l:Ñ,∃ sd,bP sd/\∀ x,x∈sd↔x∈l
 | []=>⟨[],List.Pairwise.nil,λ_=>Iff.rfl⟩
 | x :: r=>by
  obtain⟨sd,hs,hm⟩:=oh r;obtain⟨jt,l7,hm'⟩:=Qh x sd hs;exact⟨jt,l7,λy=>by rw[hm' y,hm y,Ak]⟩
def yJ{n:Net}(T:av n)(h0:0 < n.length){cs:Ñ}(h:kE n cs):∃ sd,a7 n cs sd:=by
 obtain⟨ps,hc⟩:=h.cut
 by_cases hf:bX n∈ps
 ·obtain⟨sd,hs,hm⟩:=oh ((n.map (·.1)).filter λx=>!decide (x∈ps));have hm:∀ x,x∈sd↔x∈n.map (·.1)/\x∉ps:=λx=>by
   rw[hm x,Ba,JG,FQ]
  refine⟨sd,hs,λx hx=>((hm x).mp hx).1,λq=>((hm _).mp q).2 hf,λz=>(hc z).trans<|k83 T (λx hx=>?_) z⟩;rw[hm x];exact⟨λq=>q.2,λq=>⟨hx,q⟩⟩
 ·obtain⟨sd,hs,hm⟩:=oh ((n.map (·.1)).filter λx=>decide (x∈ps));have hm:∀ x,x∈sd↔x∈n.map (·.1)/\x∈ps:=λx=>by
   rw[hm x,Ba,CN]
  refine⟨sd,hs,λx hx=>((hm x).mp hx).1,λq=>hf ((hm _).mp q).2,λz=>(hc z).trans ?_⟩;have k:∀{e:End},aK n e=some z->(dv n ps z↔dv n sd z):=λ{e} he=>by
   rw[lB T he,lB T he];have a1:=hm<|aF n e.1;have a2:=hm<|aF n (other n e).1;have b1:=js<|cz he;have b2:=js<|sF T he;have c1:decide (aF n e.1∈sd)=decide (aF n e.1∈ps):=by rw[Cp,CN,CN,a1];exact⟨λq=>q.2,λq=>⟨b1,q⟩⟩
   have c2:decide (aF n (other n e).1∈sd)=decide (aF n (other n e).1∈ps):=by rw[Cp,CN,CN,a2];exact⟨λq=>q.2,λq=>⟨b2,q⟩⟩
   rw[c1,c2]
  constructor
  ·intro q;obtain⟨e,he,_⟩:=id q;exact(k he).mp q
  ·intro q;obtain⟨e,he,_⟩:=id q;exact(k he).mpr q
def HF(n:Net):Prop:=c9 n/\Fl n
def q8r{nm:Str}:HF [(nm,[])]:=⟨q2e _,q8t⟩
def k6h{n:Net}{c:End}{z pt:Str}(T:av n)(F:Full n)(hz:z∉ag n)(hc:eS n c) (hp:(ag<|ins n c z++[(pt,[z])]).Perm<|z :: z :: ag n) (P:HF n):HF (ins n c z++[(pt,[z])]):=
 ⟨k9j (GA P.1)<|q5h hc.1,k75 T F hz hc hp P.2⟩
def q5n{n:Net}{k1 k2:End}{z:Str}(T:av n)(F:Full n)(hz:z∉ag n)(h1:eS n k1)(h2:eS n k2) (hp:(ag<|ins (ins n k1 z) k2 z).Perm<|z :: z :: ag n) (ord:k2=k1\/sh k1 k2=k2) (same:(∃ k,it (step n) k k1=k2)\/∃ k,it (step n) k k2=k1) (P:HF n):HF (ins (ins n k1 z) k2 z):=
 ⟨GA<|GA P.1,q5p T F hz h1 h2 hp ord same P.2⟩
def q5k{n n2 n0:Net}{j i:Nat}(hj:j < n.length)(hi:i < max 1 (row n j).length)(T0:av n0)(pt:(ag n++ag n2).Perm<|ag n0)
  (gG:(ag (n.eraseIdx j)++ag (n2++[(n[j].1,(row n j).drop i++(row n j).take i)])).Perm<|ag n0) (P:HF<|n++n2):HF (n.eraseIdx j++(n2++[(n[j].1,(row n j).drop i++(row n j).take i)])):=by
 refine⟨P8 (λr hr=>?_) (λx hx=>?_) P.1,q5o hj hi T0 pt gG P.2⟩
 ·rcases Al.mp hr with hx | hx
  ·rcases (bA.bL n j hj).symm.mem_iff.mp hx |> Ak.mp with q | q
   ·refine⟨(n[j].1,(row n j).drop i++(row n j).take i),Aw _<|Aw _<|Ae.mpr rfl,by rw[q],λt ht=>?_⟩;refine(FH (row n j) i).mem_iff.mpr ?_;rw[ko hj,<- q];exact ht
   ·exact⟨r,Bc _ q,rfl,λt h=>h⟩
  ·exact⟨r,Aw _<|Bc _ hx,rfl,λt h=>h⟩
 ·rcases Al.mp hx with hx | hx
  ·exact⟨x,Bc _<|Ey hx,rfl⟩
  ·rcases Al.mp hx with hx | hx
   ·exact⟨x,Aw _ hx,rfl⟩
   ·rw[Ae]at hx;exact⟨n[j],Bc _<|Bn hj,by rw[hx]⟩
theorem sI(s:Str->Bool):∀ l:Ñ,aj (l.map s)=decide ((l.filter s).length % 2=1)
 | []=>rfl
 | x :: l=>by
  show(s x ^^ aj (l.map s))=_;rw[sI s l,Dg];cases h:s x
  ·rw[BK (by decide),Fo]
  ·rw[BL rfl,Ar,Bool.true_xor,<- decide_not];exact decide_eq_decide.mpr<|by omega
def k7u{n:Net}{s:Str->Bool}{ss:Ñ}(h:dL n s)(hs:∀ z∈ag n,ss.contains z=s z):bV n ss=true:=cR.mpr λr hr=>by
 obtain⟨i,hi,rfl⟩:=Dx.mp hr;have:=h i;rw[sI,ko hi]at this;have e:(n[i].2.filter λz=>ss.contains z)=n[i].2.filter s:=List.filter_congr λz hz=>hs z<|Dh.mpr ⟨n[i],hr,hz⟩;rw[e];have:=FW this;omega
theorem iR{α:Type}:∀ l:List α,aj (l.map λ_=>false)=false
 | []=>rfl
 | _ :: l=>by show(false ^^ aj _)=false;rw[iR l];rfl
theorem GV(x:Nat)(e:End):∀ m,aj ((List.range m).map λp=>decide ((x,p)=e))=decide (x=e.1/\e.2 < m)
 | 0=>by simp[aj]
 | m+1=>by
  rw[Du,Ag,gX,GV x e m];show(decide (x=e.1/\e.2 < m) ^^ (decide ((x,m)=e) ^^ false))=_;rw[Fp];obtain⟨a,b⟩:=e
  by_cases h:x=a
  ·by_cases h2:b=m
   ·subst h;subst h2;simp
   ·have e1:((x,m)=(a,b))=False:=by simp[h];omega
    rw[BR (p:=(x,m)=(a,b)) (by rw[e1];exact id),Fp];exact decide_eq_decide.mpr ⟨λq=>⟨q.1,by have:=q.2;omega⟩,λq=>⟨q.1,by have:=q.2;show b < m;omega⟩⟩
  ·rw[BR λq=>h q.1,BR λq=>h<|BZ Prod.fst q,BR λq=>h q.1];rfl
def Qi{n:Net}(T:av n){e:End}{t:Str}(h:aK n e=some t)(x:Nat):aj ((row n x).map λy=>decide (y=t))=(decide (x=e.1) ^^ decide (x=(other n e).1)):=by
 have o:=du T h;rw[P5 n x (λy=>decide (y=t)) (λa=>decide (a=e) ^^ decide (a=other n e)) λp z hz=>?_]
 ·rw[gY (λp=>decide ((x,p)=e)) λp=>decide ((x,p)=other n e),GV,GV];have l1:=f9 h;have l2:=f9 o.1
  congr 1
  ·exact decide_eq_decide.mpr ⟨λq=>q.1,λq=>⟨q,by rw[q];exact l1⟩⟩
  ·exact decide_eq_decide.mpr ⟨λq=>q.1,λq=>⟨q,by rw[q];exact l2⟩⟩
 ·have hz:aK n (x,p)=some z:=hz
  by_cases q:z=t
  ·subst q
   rcases (mF T h).mp hz with k | k
   ·rw[k,BW rfl,BW rfl,BR<|CK o.2.2];rfl
   ·rw[k,BW rfl,BW rfl,BR o.2.2];rfl
  ·have h1:((x,p):End)≠e:=λk=>by rw[k,h]at hz;exact q (Option.some.inj hz).symm
   have h2:((x,p):End)≠other n e:=λk=>by rw[k,o.1]at hz;exact q (Option.some.inj hz).symm
   rw[BR q,BR h1,BR h2];rfl
end Nt
namespace E7
open PySem L2 Nt bw
def G0:Sp:=λvs H Q _=>∃(R:Addr) (as:Ï) (n:Net) (b:Int) (z pt:Str),vs=[.ref R,.int b,.str z,.str pt]/\ai H R as n/\av n/\Full n/\z∉ag n/\n.length<=100/\(ag n).length<=100 /\
 ∀ i dw n' H',ai H' R dw n'->p8 H H' (R :: as.map (·.2))->(∀ a∈dw,a∈as\/H a.2=none)->(ag n').Perm (z :: z :: ag n)->(n'.map (·.1)=n.map (·.1)\/n'.map (·.1)=n.map (·.1)++[pt])->Full n'->(HF n->HF n')->Q (.int i) H'
section
variable{P:Program}{w:World}{K:PySem.W.Frag}{mg:Ò}{base:Heap}
abbrev NP:Ñ:=["_law_rows","_law_big_here","_law_tie","_law_point","_law_corners","_law_r","_law_place","_law_one","_law_kind","_law_face_here","_law_other_here","_law_spot"]
def oj:ao NP ["_law_rows","_law_big_here","_law_tie","_law_point"] (aT pW):=⟨rfl,rfl,rfl,by decide +kernel,rfl,by decide +kernel,by decide +kernel⟩
def Qj{ts:List Addr}{j:Nat}{t:Addr}(h:ts[j]?=some t):eF (ts.map V.ref) (j:Int)=some (.ref t):=rq<|by rw[Aj,h];rfl
def q88{f:Addr}{fd:FuncData}(F:bv K "_law_put" "_law_put" pW f fd)(T:Txt mg)
  (GS:aS P w K mg base 3 "_law_seats" ["_law_rows"] E6)
  (GF:aS P w K mg base 3 "_law_face" ["_law_rows","_law_seats_here","_law_end"] E') :
  aE P w K mg base bD 4 f fd ["_law_rows","_law_big_here","_law_tie","_law_point"] G0:=by
 refine F.gb oj (λvs H Q E h=>?_) λb0 H vs Q E hr h=>?_
 ·obtain⟨R,as,n,b,z,pt,rfl,_⟩:=h;rfl
 obtain⟨R,as,n,b,z,pt,rfl,hR,hT,hF,hz,hn,htn,q⟩:=h;have nd:=oj.nd;have hu:=hr.ig;have bF:=hR.len;show Run _ _ _ [some<|.ref R,some<|.int b,some<|.str z,some<|.str pt,none,none,none,none,none,none,none,none] H;refine aW 4 nd (cC<|az ⟨(by show 0<=sizeLine;decide),λlc Qk=>?_⟩);have g0:=aH Qk<|.lst [];refine nw T.range (cF dR T.len DX<|aq<|ae 0<|az ⟨R,_,rfl,.inl<|ak.of<|g0 _ _ hR.lst,_,rfl,by omega,by rw[Aa];omega,?_⟩);rw[Aa,bF,Bo];refine nB (λr σ H3=>∃(ts:List Addr) (cs:List Nt.End) (u1 u2:Option V),ah H H3/\H3 lc=some (.lst<|ts.map V.ref)/\Pd H3 ts cs/\(∀ c∈cs,eS n c)/\(0 < r->cs≠[])/\cs.length<=101 * r/\σ=[some<|.ref R,some<|.int b,some<|.str z,some<|.str pt,some<|.ref lc,u1,u2,none,none,none,none,none]) ⟨[],[],_,_,g0,aw,.nil,λc hc=>(nomatch hc),λh=>absurd h (by decide),Ao _,rfl⟩ ?_ ?_
 ·rintro r σ H3 hi ⟨ts,cs,u1,u2,sH,el,ep,hc,bn,hlen,rfl⟩;rw[Ek];refine a8 5 nd ?_;obtain⟨a,ea,dY,et,jO,er⟩:=(hR.same sH).at hi;have gZ:=gB n r;refine nw T.range<|cF (Mz rfl) T.max UJ<|aq<|aC<|aq<|cF dR T.len DX<|aq<|aY bK<|aY dq<|ae 0<|ae 5 ⟨R,_,_,.ref a.1,rfl,rfl,ak.of<|sH _ _ hR.lst,dY,aC ⟨a.1,_,_,.ref a.2,rfl,rfl,aP.of et,rfl,az ⟨a.2,_,rfl,.inl<|ak.of jO,?_⟩⟩⟩;rw[Aa];have em:(if((row n r).length:Int) > 1 then((row n r).length:Int)else 1)=((max 1 (row n r).length:Nat):Int):=by
   split <;> omega
  refine az ⟨1,_,rfl,((max 1 (row n r).length:Nat):Int),by rw[em],by omega,by omega,?_⟩;rw[Bo];refine nB (λp σ H4=>∃(ts:List Addr) (cs:List Nt.End) (u2:Option V),ah H H4/\H4 lc=some (.lst<|ts.map V.ref)/\Pd H4 ts cs/\(∀ c∈cs,eS n c)/\(0 < r+p->cs≠[])/\cs.length<=101 * r+p/\σ=[some<|.ref R,some<|.int b,some<|.str z,some<|.str pt,some<|.ref lc,some<|.int (r:Int),u2,none,none,none,none,none]) ⟨ts,cs,_,sH,el,ep,hc,bn,hlen,rfl⟩ ?_ ?_
  ·rintro p σ H4 hp ⟨ts,cs,u2,sH,el,ep,hc,bn,hlen,rfl⟩;rw[Ek];refine a8 6 nd ?_;refine fX (jj<|ae 4 ⟨lc,rfl,⟨_,el⟩,dW<|aq<|ae 5<|aq<|ae 6<|az ⟨(by show 2<=sizeLine;decide),λt ht=>?_⟩⟩);have pR:lc≠t:=bq el ht;have s2:=aH ht<|Tp (r,p);have G':=ep.length;refine⟨ts.map V.ref,by rw[ax pR];exact el,by rw[Aa];exact bS (by omega),?_⟩;refine bb ⟨ts++[t],cs++[(r,p)],_,dX (sH.trans s2) Qk,by rw[aw,Ag];rfl,?_,λc h=>?_,λ_=>by simp,by rw[Ad];simp;omega,rfl⟩
   ·refine Pd.append (ep.keep λx e h=>?_)<|.cons ?_ .nil
    ·rw[ax<|uH h el];exact s2 _ _ h
    ·rw[ax pR.symm,aw]
   ·rcases Al.mp h with h | h
    ·exact hc c h
    ·rw[Ae]at h;subst h;exact⟨hi,hp⟩
  ·rintro σ H4 ⟨ts,cs,u2,sH,el,ep,hc,bn,hlen,rfl⟩;refine bb ⟨ts,cs,_,_,sH,el,ep,hc,λ_=>bn (by omega),by omega,rfl⟩
 rintro σ H3 ⟨ts,cs,u1,u2,sH,el,ep,hc,bn,hlen,rfl⟩;have C0:0 < n.length:=Dq.mpr hF.some;have lJ:=bn C0;have fz:0 < cs.length:=Dq.mpr lJ;have G':=ep.length;have m0:0<=b % (cs.length:Int):=Ca _ (by omega);have m1:b % (cs.length:Int) < cs.length:=Ci _ (by omega);obtain⟨j,hj⟩:∃ j:Nat,b % (cs.length:Int)=j:=⟨(b % (cs.length:Int)).toNat,by omega⟩;have kq:j < cs.length:=by omega
 have yK:cs[j]?=some cs[j]:=Ab kq;obtain⟨t1,qk,e1⟩:=ep.at yK;have iA:eS n cs[j]:=hc _<|Bn kq;generalize cs[j]=c1 at e1 iA;refine aW 7 nd<|aY dq<|ae 4<|aX cW<|ae 1<|cF dR T.len DX<|aq<|ae 4<|az ⟨lc,_,rfl,.inl<|ak.of el,?_⟩;rw[Aa,G'];refine⟨_,_,rfl,rfl,by omega,lc,_,_,.ref t1,rfl,rfl,ak.of el,by rw[hj];exact Qj qk,?_⟩;refine aW 1 nd<|aX i4<|ae 1<|cF dR T.len DX<|aq<|ae 4<|az ⟨lc,_,rfl,.inl<|ak.of el,?_⟩;rw[Aa,G'];refine⟨_,_,rfl,rfl,⟨by omega,by omega⟩,?_⟩;show Run _ _ _ [some<|.ref R,some<|.int<|b / (cs.length:Int),some<|.str z,some<|.str pt,some<|.ref lc,u1,u2,some<|.ref t1,none,none,none,none] H3;generalize b / (cs.length:Int)=b2;refine aW 8 nd (aX cW<|ae 1<|aC ⟨_,_,rfl,rfl,(by show(0:Int) < 3;decide),?_⟩);refine aW 1 nd (aX i4<|ae 1<|aC ⟨_,_,rfl,rfl,⟨by decide,by decide⟩,?_⟩);show Run _ _ _ [some<|.ref R,some<|.int<|b2 / 3,some<|.str z,some<|.str pt,some<|.ref lc,u1,u2,some<|.ref t1,some<|.int<|b2 % 3,none,none,none] H3;generalize b2 / 3=b3;have sJ:=hR.same sH;obtain⟨a,ea,dY,eta,Ql,era⟩:=sJ.at iA.1;have Qm:∀(m:Net),(ag m).length<=200->∀ i,(row m i).length<=200:=λm h i=>Bq (gB m i) h;have cin:c1.2<=(row n c1.1).length:=by
  have:=iA.2;omega
 refine hV<|b8 i5<|ae 8<|aC ⟨rfl,_,rfl,?_⟩;refine j9 (λ_=>?_) λ_=>bb ?_
 ·
  have rl:=gB n c1.1;refine fX<|D5 DK RJ RK Oy<|aY bK<|aY dq<|ae 0<|aY bK<|ae 7<|aC ⟨t1,_,_,.int (c1.1:Int),rfl,rfl,aP.of e1,rfl,R,_,_,.ref a.1,rfl,rfl,ak.of sJ.lst,dY,aC ⟨a.1,_,_,.ref a.2,rfl,rfl,aP.of eta,rfl,Or.inl ⟨rfl,_,ak.of Ql⟩,?_⟩⟩;refine aY bK (ae 7<|aC ⟨t1,_,_,.int (c1.2:Int),rfl,rfl,aP.of e1,rfl,ae 2 ⟨a.2,_,_,_,rfl,rfl,Ql,by omega,by rw[Bo,Aa];exact cin,by rw[Aa];exact bS (by omega),?_⟩⟩);rw[Bo,OY];have R4:=sJ.ins (z:=z) ea iA.1;refine fX (jj<|ae 0 ⟨R,rfl,⟨_,R4.lst⟩,dW<|aq<|ae 3<|aq<|cC<|aq<|ae 2<|az ⟨(by show 1<=sizeLine;decide),λl1 eJ=>?_⟩⟩);refine az ⟨(by show 2<=sizeLine;decide),λt2 li=>?_⟩;have s5:=aH eJ<|Ls [z];have s6:=aH li<|.tup [.str pt,.ref l1];have R6:=(R4.same s5).same s6;refine⟨_,R6.lst,by rw[Aa];exact bS (by omega),?_⟩;have l1f:H3 l1=none:=by
   by_cases q1:l1=a.2
   ·rw[q1,aw]at eJ;cases eJ
   ·rwa[ax q1]at eJ
  have l1n:l1∉as.map (·.2):=λhm=>by
   obtain⟨x,hx,e⟩:=Ap.mp hm;exact R4.fresh eJ hx e.symm
  have l1R:l1≠R:=λe=>by rw[e,R4.lst]at eJ;cases eJ
  have R7:=R6.more (t:=t2) (l:=l1) (pt:=pt) (zs:=[z]) aw (s6 _ _ aw) l1n l1R;have tp:(ag<|ins n c1 z++[(pt,[z])]).Perm (z :: z :: ag n):=by
   unfold ag;rw[Cr];show(ag (ins n c1 z)++[z]).Perm _;exact(Cm).trans<|(lv n c1 z iA.1).cons z
  refine bN<|ae 1<|q _ _ _ _ R7 (λx o hx kF=>?_) (λx hx=>?_) tp (.inr ?_) ?_ λhP=>k6h hT hF hz iA tp hP
  ·have x1:x≠R:=λe=>kF (by rw[e];exact Af);have x2:x≠a.2:=λe=>kF (Ah _<|by rw[e];exact Ap.mpr ⟨a,As ea,rfl⟩);rw[ax x1];refine s6 _ _<|s5 _ _ ?_;rw[ax x2];exact sH _ _ hx
  ·rcases Al.mp hx with hx | hx
   ·exact .inl hx
   ·rw[Ae]at hx;subst hx;exact .inr<|sH.free l1f
  ·rw[Ag,FC];rfl
  ·refine .inr ⟨by simp,λi hi=>?_⟩;have hfi:=(FD (z:=z) hF iA.1 hF.either).1;rw[Ad]at hi;simp at hi
   rcases Do i (ins n c1 z).length with h | h
   ·have:=hfi i h;unfold row at this ⊢;rw[An h];exact this
   ·unfold row;rw[Am h,show i - (ins n c1 z).length=0 by omega];simp
 ·
  refine aW 9 nd (cC<|aq<|ae 7<|az ⟨(by show 1<=sizeLine;decide),λlf Qn=>?_⟩);have s4:=aH Qn<|.lst [.ref t1];have sH4:=sH.trans s4;have ju:=sJ.same s4;obtain⟨a0,ea0,Hc,et0,Qo,er0⟩:=ju.at C0;have lf0:∀ x∈as,lf≠x.2:=λx hx=>sJ.fresh Qn hx;show Run _ _ _ [some<|.ref R,some<|.int b3,some<|.str z,some<|.str pt,some<|.ref lc,u1,u2,some<|.ref t1,some<|.int<|b2 % 3,some<|.ref lf,none,none] (upd H3 lf<|.lst [.ref t1]);refine rV (λk H'=>ah (upd H3 lf<|.lst [.ref t1]) H'/\(k=true->row n 0≠[])) (λσ' H'=>∃(lf:Addr) (lq:List Addr) (fs:List Nt.End),ah H3 H'/\(∀ x∈as,lf≠x.2)/\H' lf=some (.lst<|lq.map V.ref)/\Pd H' lq fs/\0 < fs.length/\fs.length<=1000/\(∀ c∈fs,eS n c/\∃ k,it (step n) k c1=c) /\
   σ'=[some<|.ref R,some<|.int b3,some<|.str z,some<|.str pt,some<|.ref lc,u1,u2,some<|.ref t1,some<|.int<|b2 % 3,some<|.ref lf,none,none]) ?_ ?_ (λH5 ⟨s5,_⟩=>bb ⟨lf,[t1],[c1],s4.trans s5,lf0,s5 _ _ aw,.cons (s5 _ _<|s4 _ _ e1) .nil,Fm,by show 1<=1000;decide,λc eU=>by rw[Ae]at eU;rw[eU];exact⟨iA,0,rfl⟩,rfl⟩) ?_
  ·refine b8 (nO hu) (aY bK<|aY dq<|ae 0<|aC ⟨R,_,_,.ref a0.1,rfl,rfl,ak.of ju.lst,Hc,aC ⟨a0.1,_,_,.ref a0.2,rfl,rfl,aP.of et0,rfl,cC<|az ⟨(by show 0<=sizeLine;decide),λp hp=>?_⟩⟩⟩);have s5:=aH hp<|.lst []
   by_cases h0:row n 0=[]
   ·refine⟨1,_,by decide,rS (k:=0) (xs:=[]) (ys:=[]) (λ_=>true) (ak.of<|by rw[s5 _ _ Qo,h0];rfl) (ak.of aw) rfl (λj x y hx _=>by simp at hx),_,rfl,s5,λh=>by cases h⟩
   ·refine⟨1,_,by decide,uG (k:=1) (ak.of<|s5 _ _ Qo) (ak.of (xs:=[]) aw) (by rw[Aa];intro h;exact h0<|Bd.mp h),_,rfl,s5,λ_=>h0⟩
  ·rintro H4 ⟨He,h0⟩;have h0:=h0 rfl;have ju:=ju.same He;have yF:=hF.cI h0 iA;have sK:=jN n;refine aW 9 nd (bz GF hr<|aq<|ae 0<|aq<|bz GS hr<|aq<|ae 0<|az ⟨R,as,n,rfl,ju,by omega,by omega,λd ks H5 s5 n5 S5=>?_⟩);refine aq (ae 7<|az ⟨R,d,t1,as,n,ks,c1,rfl,ju.same s5,S5,hT,s5 _ _<|He _ _<|s4 _ _ e1,yF,by omega,λl6 ts6 fs6 H6 s6 n6 e6 p6 f6=>?_⟩);exact bb ⟨l6,ts6,fs6,s4.trans<|He.trans<|s5.trans s6,λx hx=>(ju.same s5).fresh n6 hx,e6,p6,f6.pos,by have:=f6.len;omega,λc eU=>⟨ZI<|f6.ends hT yF c eU,q39 f6 eU⟩,rfl⟩
  ·rintro σ' H5 ⟨lf,lq,fs,s5,lfn,Hf,DC,x0B,x0C,Hg,rfl⟩;have vb:=DC.length;have n0:0<=b3 % (fs.length:Int):=Ca _ (by omega);have n1:b3 % (fs.length:Int) < fs.length:=Ci _ (by omega);obtain⟨j2,eV⟩:∃ j:Nat,b3 % (fs.length:Int)=j:=⟨(b3 % (fs.length:Int)).toNat,by omega⟩;have vd:j2 < fs.length:=by omega
   have Hh:fs[j2]?=some fs[j2]:=Ab vd;obtain⟨t2,ql,e2⟩:=DC.at Hh;obtain⟨qm,iw⟩:=Hg _<|Bn vd;generalize fs[j2]=c2 at e2 qm iw;have pC:=s5 _ _ e1;refine aW 10 nd<|aY dq<|ae 9<|aX cW<|ae 1<|cF dR T.len DX<|aq<|ae 9<|az ⟨lf,_,rfl,.inl<|ak.of Hf,?_⟩;rw[Aa,vb];refine⟨_,_,rfl,rfl,by omega,lf,_,_,.ref t2,rfl,rfl,ak.of Hf,by rw[eV];exact Qj ql,?_⟩;have ve:=sJ.same s5;show Run _ _ _ [some<|.ref R,some<|.int b3,some<|.str z,some<|.str pt,some<|.ref lc,u1,u2,some<|.ref t1,some<|.int<|b2 % 3,some<|.ref lf,some<|.ref t2,none] H5;refine ia (Za T.sorted<|cC<|aq<|ae 7<|aq<|ae 10<|az ⟨(by show 2<=sizeLine;decide),λl2 j7=>?_⟩);have s6:=aH j7<|.lst [.ref t1,.ref t2];refine⟨l2,t1,t2,(c1.1:Int),(c1.2:Int),(c2.1:Int),(c2.2:Int),rfl,aw,s6 _ _ pC,s6 _ _ e2,λrr Qp=>?_⟩;have rn:∀ x∈as,rr≠x.2:=λx hx=>(ve.same s6).fresh Qp hx;obtain⟨x1,x2,k1,k2,gU,f1,f2,q1,q2,Hi,vf⟩:∃ x1 x2 k1 k2,(if lexLt ((c1.1:Int),(c1.2:Int)) ((c2.1:Int),(c2.2:Int))=true then [V.ref t2,.ref t1]else [.ref t1,.ref t2])=[.ref x1,.ref x2]/\(upd H5 l2<|.lst [.ref t1,.ref t2]) x1=some (Tp k1)/\(upd H5 l2<|.lst [.ref t1,.ref t2]) x2=some (Tp k2)/\eS n k1/\eS n k2/\(k2=k1\/sh k1 k2=k2)/\((∃ k,it (step n) k k1=k2)\/∃ k,it (step n) k k2=k1):=by
    cases Qq:lexLt ((c1.1:Int),(c1.2:Int)) ((c2.1:Int),(c2.2:Int)) with
    | true=>exact⟨t2,t1,c2,c1,rfl,s6 _ _ e2,s6 _ _ pC,qm,iA,.inr<|q1s Qq,.inr iw⟩
    | false=>exact⟨t1,t2,c1,c2,rfl,s6 _ _ pC,s6 _ _ e2,iA,qm,q2d Qq,.inl iw⟩
   rw[gU];have s7:=aH Qp<|.lst [.ref x1,.ref x2];have f1:=s7 _ _ f1;have f2:=s7 _ _ f2;have s6:=s6.trans s7;have fr:=aw (H:=upd H5 l2<|.lst [.ref t1,.ref t2]) (a:=rr) (o:= .lst [.ref x1,.ref x2]);generalize upd (upd H5 l2<|.lst [.ref t1,.ref t2]) rr (.lst [.ref x1,.ref x2])=H6 at f1 f2 s6 fr ⊢;have vg:ah H H6:=sH.trans<|s5.trans s6;have Hj:=ve.same s6;have vh:p8 H H6 (R :: as.map (·.2)):=λx o hx _=>vg _ _ hx;refine⟨rr,rfl,⟨_,ak.of fr⟩,ib (xs:=[.ref x1,.ref x2]) (λi σ H7=>∃(m:Net) (u:Option V),ai H7 R as m/\p8 H H7 (R :: as.map (·.2))/\H7 rr=some (.lst [.ref x1,.ref x2])/\H7 lf=some (.lst<|lq.map V.ref)/\H7 x1=some (Tp k1)/\H7 x2=some (Tp k2) /\
    ((i=0/\m=n)\/(i=1/\m=ins n k1 z)\/(i=2/\m=ins (ins n k1 z) k2 z))/\σ=[some<|.ref R,some<|.int b3,some<|.str z,some<|.str pt,some<|.ref lc,u1,u2,some<|.ref t1,some<|.int<|b2 % 3,some<|.ref lf,some<|.ref t2,u]) ⟨n,_,Hj,vh,fr,s6 _ _ Hf,f1,f2,.inl ⟨rfl,rfl⟩,rfl⟩ ?_ ?_ ?_⟩
   ·rintro i σ H7 _ ⟨m,u,_,_,yL,_⟩;exact ak.of yL
   ·rintro i v σ H7 hv ⟨m,u,vi,vj,yL,Hk,g1,g2,hm,rfl⟩;have ti1:=(lv n k1 z q1.1).length_eq;rw[Ar]at ti1;obtain⟨y,k,rfl,hy,hk,iS,hml⟩:∃ y k,v = .ref y/\H7 y=some (Tp k)/\eS m k/\((i+1=0/\ins m k z=n)\/(i+1=1/\ins m k z=ins n k1 z)\/(i+1=2/\ins m k z=ins (ins n k1 z) k2 z))/\(ag m).length<=200:=by
     rcases hm with ⟨rfl,rfl⟩ | ⟨rfl,rfl⟩ | ⟨rfl,rfl⟩
     ·cases hv;exact⟨x1,k1,rfl,g1,q1,.inr<|.inl ⟨rfl,rfl⟩,by omega⟩
     ·cases hv;exact⟨x2,k2,rfl,g2,yp q2 q1.1,.inr<|.inr ⟨rfl,rfl⟩,by omega⟩
     ·simp at hv
    refine a8 11 nd ?_;obtain⟨a',Qr,Hl,Hm,mG,x0D⟩:=vi.at hk.1;have rl:=gB m k.1;have ri:k.2<=(row m k.1).length:=by
     have:=hk.2;omega
    refine fX<|D5 DK RJ RK Oy<|aY bK<|aY dq<|ae 0<|aY bK<|ae 11<|aC ⟨y,_,_,.int (k.1:Int),rfl,rfl,aP.of hy,rfl,R,_,_,.ref a'.1,rfl,rfl,ak.of vi.lst,Hl,aC ⟨a'.1,_,_,.ref a'.2,rfl,rfl,aP.of Hm,rfl,Or.inl ⟨rfl,_,ak.of mG⟩,?_⟩⟩;refine aY bK (ae 11<|aC ⟨y,_,_,.int (k.2:Int),rfl,rfl,aP.of hy,rfl,ae 2 ⟨a'.2,_,_,_,rfl,rfl,mG,by omega,by rw[Bo,Aa];exact ri,by rw[Aa];exact bS (by omega),?_⟩⟩);rw[Bo,OY];have am:a'∈as:=As Qr;refine bb ⟨ins m k z,_,vi.ins Qr hk.1,λx o hx kF=>?_,by rw[ax<|rn a' am];exact yL,by rw[ax<|lfn a' am];exact Hk,by rw[ax<|uH g1 mG];exact g1,by rw[ax<|uH g2 mG];exact g2,iS,rfl⟩;have x2:x≠a'.2:=λe=>kF (Ah _<|by rw[e];exact Ap.mpr ⟨a',am,rfl⟩);rw[ax x2];exact vj x o hx kF
   ·rintro σ H7 ⟨m,u,vi,vj,yL,Hk,g1,g2,hm,rfl⟩;have em:m=ins (ins n k1 z) k2 z:=by
     rcases hm with ⟨h,_⟩ | ⟨h,_⟩ | ⟨_,h⟩
     ·exact absurd h<|by show ¬(2=0);decide
     ·exact absurd h<|by show ¬(2=1);decide
     ·exact h
    refine bN<|aX i4<|ae 1<|cF dR T.len DX<|aq<|ae 9<|az ⟨lf,_,rfl,.inl<|ak.of Hk,?_⟩;rw[Aa,vb];refine⟨_,_,rfl,rfl,⟨by omega,by omega⟩,?_⟩;have fi:=FD (z:=z) hF q1.1 hF.either;have F2:Full (ins n k1 z):= .inr ⟨fi.2,fi.1⟩;have Qs:=FD (z:=z) F2 (yp (z:=z) q2 q1.1).1 F2.either;subst em;exact q _ as _ H7 vi vj (λx hx=> .inl hx) ((lv _ k2 z (yp (z:=z) q2 q1.1).1).trans<|(lv n k1 z q1.1).cons z) (.inl<|by rw[FC,FC]) (.inr ⟨Qs.2,Qs.1⟩) λhP=>q5n hT hF hz q1 q2 ((lv _ k2 z (yp (z:=z) q2 q1.1).1).trans<|(lv n k1 z q1.1).cons z) Hi vf hP
def Hn:Sp:=λvs H Q _=>∃(b m sm:Int),vs=[.int b,.int m,.int sm]/\0<=m/\m<=35 /\
 ∀ L as n H',ah H H'->H L=none->ai H' L as n->av n->(n.map (·.1)).Nodup->Full n->HF n->(ag n).length<=2 * m.toNat->n.length<=m.toNat+1->(∀ a∈as,H a.2=none)->Q (.ref L) H'
abbrev NB:Ñ:=["_law_big_here","_law_most","_law_stem","_law_many","_law_ties","_law_points","_law_rows","_law_k","_law_told","_law_row","_law_size"]
def om:ao NB ["_law_big_here","_law_most","_law_stem"] (aT pX):=⟨rfl,rfl,rfl,by decide +kernel,rfl,by decide +kernel,by decide +kernel⟩
def q8o{H:Hp}{d:Addr}{xs:List V}(h:H d=some (.lst xs)):o9 K "list" (.ref d) H:=Or.inl ⟨rfl,xs,ak.of h⟩
def js{b:Int}{m i:Nat}(h:i < m):eF ((namesOf b m).map V.str) (i:Int)=some (.str<|aQ b i):=xZ<|Zn h
def q82{f:Addr}{fd:FuncData}(F:bv K "_law_net_by" "_law_net_by" pX f fd)(T:Txt mg)
  (GN:aS P w K mg base 4 "_law_names" ["_law_stem","_law_many"] E5)
  (GP:aS P w K mg base 4 "_law_put" ["_law_rows","_law_big_here","_law_tie","_law_point"] G0) :
  aE P w K mg base bD 5 f fd ["_law_big_here","_law_most","_law_stem"] Hn:=by
 refine F.gb om (λvs H Q E h=>?_) λb0 H vs Q E hr h=>?_
 ·obtain⟨b,m,sm,rfl,_⟩:=h;rfl
 obtain⟨b,m,sm,rfl,m0,m35,q⟩:=h;have nd:=om.nd;have hu:=hr.ig;have k0:0<=b % (m+1):=Ca _ (by omega);have k1:b % (m+1) < m+1:=Ci _ (by omega);obtain⟨mn,hmn⟩:∃ k:Nat,b % (m+1)=k:=⟨(b % (m+1)).toNat,by omega⟩;have hmm:mn<=m.toNat:=by omega
 show Run _ _ _ [some<|.int b,some<|.int m,some<|.int sm,none,none,none,none,none,none,none,none] H;refine aW 3 nd<|aX cW<|ae 0<|aX gg<|ae 1<|aC ⟨_,_,rfl,rfl,?_⟩;refine⟨_,_,rfl,rfl,(by show 0 < m+1;omega),?_⟩;refine aW 0 nd<|aX i4<|ae 0<|aX gg<|ae 1<|aC ⟨_,_,rfl,rfl,?_⟩;refine⟨_,_,rfl,rfl,(by show tZ b (m+1);exact⟨by omega,by omega⟩),?_⟩;show Run _ _ _ [some<|.int<|b / (m+1),some<|.int m,some<|.int sm,some<|.int<|b % (m+1),none,none,none,none,none,none,none] H;rw[hmn];generalize b / (m+1)=b1;refine aW 4 nd (bz GN hr<|aq<|ae 2<|aq<|ae 3<|az ⟨sm,(mn:Int),rfl,by omega,by omega,λlt H1 s1 n1 e1=>?_⟩);rw[Bo]at e1;refine aW 5 nd (bz GN hr<|aq<|aY dq<|cC<|aq<|aX gg<|aX i4<|ae 2<|aC ⟨_,_,rfl,rfl,⟨by decide,by decide⟩,aC ⟨_,_,rfl,rfl,aq<|ae 2<|az ⟨(by show 2<=sizeLine;decide),λp hp=>?_⟩⟩⟩);refine nr Oz T.uL TX (aq<|xG i5<|aX cW<|ae 2<|aC ⟨_,_,rfl,rfl,(by show(0:Int) < 4;decide),aC ⟨rfl,az ⟨_,rfl,?_⟩⟩⟩);have s2:=aH hp<|.lst [.int<|sm / 3+1,.int sm];obtain⟨jP,ex⟩:∃ jP:Int,eF [V.int<|sm / 3+1,.int sm] (if decide (V.int (sm % 4)=V.int 1)=true then 1 else 0)=some (.int jP):=by
  cases decide (V.int (sm % 4)=V.int 1) with
  | true=>exact⟨sm,rfl⟩
  | false=>exact⟨sm / 3+1,rfl⟩
 refine⟨p,_,_,.int jP,rfl,rfl,ak.of aw,ex,?_⟩;refine aq (aX gg<|ae 3<|aC ⟨_,_,rfl,rfl,az ⟨jP,(mn:Int)+1,rfl,by omega,by omega,λlp H2 s3 n3 e3=>?_⟩⟩);have em:((mn:Int)+1).toNat=mn+1:=by omega
 rw[em]at e3;have Ho:ah H H2:=s1.trans<|s2.trans s3;have e1:H2 lt=some (Ls<|namesOf sm mn):=s3 _ _<|s2 _ _ e1;show Run _ _ _ [some<|.int b1,some<|.int m,some<|.int sm,some<|.int (mn:Int),some<|.ref lt,some<|.ref lp,none,none,none,none,none] H2;refine aW 6 nd (cC<|aq<|dW<|aq<|aY dq<|ae 5<|aC ⟨lp,_,_,.str<|aQ jP 0,rfl,rfl,ak.of e3,js<|Gf _,aq<|cC<|az ⟨(by show 0<=sizeLine;decide),λl1 eJ=>?_⟩⟩);refine az ⟨(by show 2<=sizeLine;decide),λt1 ht1=>az ⟨(by show 1<=sizeLine;decide),λR Qt=>?_⟩⟩;have s4:=aH eJ<|Ls [];have s5:=aH ht1<|.tup [.str<|aQ jP 0,.ref l1];have s6:=aH Qt<|.lst [.ref t1];have Hq:ai (upd (upd (upd H2 l1<|.lst []) t1<|.tup [.str<|aQ jP 0,.ref l1]) R<|.lst [.ref t1]) R [(t1,l1)] [(aQ jP 0,[])]:=by
  refine⟨rfl,aw,λi a r h1 h2=>?_,by simp⟩;cases i with
  | zero=>
   cases h1;cases h2;exact⟨s6 _ _ aw,s6 _ _<|s5 _ _ aw⟩
  | succ i=>simp at h1
 have fR:H2 R=none:=s4.free<|s5.free Qt;show Run _ _ _ [some<|.int b1,some<|.int m,some<|.int sm,some<|.int (mn:Int),some<|.ref lt,some<|.ref lp,some<|.ref R,none,none,none,none] (upd (upd (upd H2 l1<|.lst []) t1<|.tup [.str<|aQ jP 0,.ref l1]) R<|.lst [.ref t1]);refine nw T.range (ae 3 ⟨(mn:Int),rfl,by omega,by omega,?_⟩);rw[Bo];refine nB (λk σ H3=>∃(as:Ï) (n:Net) (b:Int) (u:Option V),ai H3 R as n/\ah H2 H3/\(∀ a∈as,H2 a.2=none)/\Full n/\HF n/\(ag n).Perm (dbl<|namesOf sm k)/\n.map (·.1)=namesOf jP n.length/\n.length<=k+1 /\
  σ=[some<|.int b,some<|.int m,some<|.int sm,some<|.int (mn:Int),some<|.ref lt,some<|.ref lp,some<|.ref R,u,none,none,none]) ⟨_,_,b1,_,Hq,s4.trans<|s5.trans s6,λa ha=>by rw[Ae]at ha;rw[ha];exact eJ,.inl ⟨_,rfl⟩,q8r,List.Perm.refl _,rfl,Ao _,rfl⟩ ?_ ?_
 ·rintro k σ H3 hk ⟨as,n,b,u,hR,sH,jK,hF,yM,hp,yN,hlen,rfl⟩;rw[Ek];refine a8 7 nd ?_;have bF:=hR.len;have tl:=hp.length_eq;rw[FG,EB]at tl;have nz:aQ sm k∉ag n:=λh=>by
   have h1:=iM.mp<|hp.mem_iff.mp h;have h2:=ya (b:=sm) (m:=k+1) (by omega);rw[yb,Bt]at h2;exact h2.2.2 _ h1 _ (Ae.mpr rfl) rfl
  have n0:0 < n.length:=Dq.mpr hF.some;refine aW 0 nd<|bz GP hr<|aq<|ae 6<|aq<|ae 0<|aq<|aY dq<|ae 4<|ae 7 ⟨lt,_,_,.str<|aQ sm k,rfl,rfl,ak.of<|sH _ _ e1,js hk,?_⟩;refine aq<|aY dq<|ae 5<|cF dR T.len DX<|aq<|ae 6<|az ⟨R,_,rfl,.inl<|ak.of hR.lst,?_⟩;rw[Aa,bF];refine⟨lp,_,_,.str<|aQ jP n.length,rfl,rfl,ak.of<|sH _ _ e3,js (by omega),?_⟩;refine az ⟨R,as,n,b,aQ sm k,aQ jP n.length,rfl,hR,OZ (ya<|by omega) hp,hF,nz,by omega,by omega,λi dw n' H' jQ kp Hr sN vk hF' Hs=>?_⟩;have sH':ah H2 H':=λx o hx=>by
   refine kp x o (sH _ _ hx) λhm=>?_
   rcases Ak.mp hm with h | h
   ·rw[h,fR]at hx;cases hx
   ·obtain⟨y,hy,e⟩:=Ap.mp h;rw[<- e,jK y hy]at hx;cases hx
  refine bb ⟨dw,n',i,_,jQ,sH',λy hy=>?_,hF',Hs yM,?_,?_,?_,rfl⟩
  ·rcases Hr y hy with h | h
   ·exact jK y h
   ·exact sH.free h
  ·refine sN.trans ?_;rw[yb,ZK];refine List.Perm.trans ?_ Cm;exact((hp.cons _).cons _)
  ·rcases vk with h | h
   ·have hl:=BZ List.length h;rw[Aa,Aa]at hl;rw[h,hl];exact yN
   ·have hl:=BZ List.length h;rw[Aa,Ad,Aa]at hl;have nI:n'.length=n.length+1:=hl;rw[h,nI,yb,yN]
  ·rcases vk with h | h
   ·have hl:=BZ List.length h;rw[Aa,Aa]at hl;omega
   ·have hl:=BZ List.length h;rw[Aa,Ad,Aa]at hl;have nI:n'.length=n.length+1:=hl;omega
 rintro σ H3 ⟨Ht,n0,b,u,hR,sH,jK,hF,Hu,hp,yN,hlen,rfl⟩;have tl:=hp.length_eq;rw[FG,EB]at tl;have yO:av n0:=OZ (ya<|by omega) hp;have hN0:(n0.map (·.1)).Nodup:=by rw[yN];exact ya<|by omega
 refine aW 8 nd (cC<|az ⟨(by show 0<=sizeLine;decide),λL hL=>?_⟩);have s7:=aH hL<|.lst [];have Qu:R≠L:=bq hR.lst hL;have fL:H2 L=none:=sH.free hL;have yP:ai (upd H3 L<|.lst []) L [] []:=⟨rfl,aw,λi a r h1=>by simp at h1,by simp⟩;refine xV (λk σ H4=>∃(as oo:Ï) (n n2:Net) (b:Int) (u9 Qv:Option V),k=n.length/\ai H4 R as n/\ai H4 L oo n2/\ah H2 H4/\(∀ a∈as,a.2≠L)/\(∀ a∈oo,a.2≠R)/\(∀ a∈oo,H2 a.2=none)/\n.length+n2.length=n0.length /\
   (ag n++ag n2).Perm (ag n0)/\(n.map (·.1)++n2.map (·.1)).Perm (n0.map (·.1))/\(NE n0->NE n/\NE n2)/\HF (n++n2) /\
   σ=[some<|.int b,some<|.int m,some<|.int sm,some<|.int (mn:Int),some<|.ref lt,some<|.ref lp,some<|.ref R,u,some<|.ref L,u9,Qv])
  (m0:=n0.length) ⟨Ht,[],n0,[],b,_,_,rfl,hR.same s7,yP,sH.trans s7,λa ha=>(hR.fresh hL ha).symm,λa ha=>(nomatch ha),λa ha=>(nomatch ha),rfl,by simp[ag],by simp,λh=>⟨h,λr hr=>(nomatch hr)⟩,by rw[Bh];exact Hu,rfl⟩ ?_
 rintro k σ H4 ⟨as,oo,n,n2,b,u9,Qv,rfl,hR,sO,sH,aL,aR,Qw,vp,pt,pn,bn,yM,rfl⟩;have bF:=hR.len;have Hv:=sO.len;have x0E:(ag n).length<=70:=by
  have:=pt.length_eq;rw[Ad]at this;omega
 refine b8 (nO hu) (ae 6<|cC<|az ⟨(by show 0<=sizeLine;decide),λp ka=>?_⟩);have s8:=aH ka<|.lst []
 by_cases h0:n=[]
 ·subst h0;have ea:as=[]:=Bd.mp (by simpa using bF);subst ea;refine⟨1,_,by decide,rS (k:=0) (xs:=[]) (ys:=[]) (λ_=>true) (ak.of<|s8 _ _ hR.lst) (ak.of aw) rfl (λj x y hx _=>by simp at hx),_,rfl,cO<|bN<|ae 8 ?_⟩;have gG:(ag n2).Perm (ag n0):=pt;have pn':(n2.map (·.1)).Perm (n0.map (·.1)):=pn;have l2:n2.length=n0.length:=by simpa using vp
  refine q L oo n2 _ (Ho.trans<|sH.trans s8) (Ho.free fL) (sO.same s8) (λz hz=>?_) (pn'.nodup_iff.mpr hN0) ?_ yM (by rw[gG.length_eq];omega) (by omega) λa ha=>Ho.free<|Qw a ha
  ·rw[gG.count_eq];exact yO z<|gG.mem_iff.mp hz
  ·rcases hF.ne with ⟨nm,h⟩ | h
   ·subst h;have t0:ag n2=[]:=List.Perm.eq_nil gG
    match n2,l2,t0 with
    | [(nm2,zs)],_,t0=>
     have:zs=[]:=by simpa[ag]using t0
     subst this;exact .inl ⟨_,rfl⟩
   ·refine ZL (bn h).2 λe=>?_;rw[e]at l2;exact hF.some<|Bd.mp l2.symm
 ·have np:0 < n.length:=Dq.mpr h0;refine⟨1,_,by decide,uG (k:=1) (ak.of<|s8 _ _ hR.lst) (ak.of (xs:=[]) aw) (by rw[Aa,bF];exact Ct np),_,rfl,cP ?_⟩;have hR:=hR.same s8;have sO:=sO.same s8;have sH:=sH.trans s8;generalize upd H4 p (.lst [])=H5 at hR sO sH ⊢;have r0:0<=b % (n.length:Int):=Ca _ (by omega);have r1:b % (n.length:Int) < n.length:=Ci _ (by omega);obtain⟨j,hj⟩:∃ k:Nat,b % (n.length:Int)=k:=⟨(b % (n.length:Int)).toNat,by omega⟩;have qo:j < n.length:=by omega
  obtain⟨a,ea,dY,et,el,er⟩:=hR.at qo;refine aW 9 nd<|rT DK PySem.F.slot_list_pop PySem.F.type_list_pop Wx<|ae 6 ⟨q8o hR.lst,aX cW<|ae 0<|cF dR T.len DX<|aq<|ae 6<|az ⟨R,_,rfl,.inl<|ak.of hR.lst,?_⟩⟩;rw[Aa,bF];refine⟨_,_,rfl,rfl,by omega,R,_,_,j,.ref a.1,rfl,rfl,hR.lst,by rw[hj];omega,by rw[hj];omega,?_,?_,?_⟩
  ·rw[hj,Aa,bF];unfold seqIndex?;have c1:¬((j:Int) < 0):=by omega
   simp only[c1,CT];have c2:(decide (0<=(j:Int)) && decide ((j:Int) < (n.length:Int)))=true:=by
    rw[By,DQ,DQ];omega
   rw[BL c2,Bo]
  ·rw[Aj,ea];rfl
  have R6:=hR.erase qo;have am:a∈as:=As ea;have Hw:∀ x∈as,x.2≠R:=λx hx e=>by
   obtain⟨zs,e2⟩:=hR.lists hx;have h3:=hR.lst;rw[<- e,e2]at h3;have h4:=HO.lst.inj<|Option.some.inj h3;cases as with
   | nil=>cases hx
   | cons b' bs=>
    cases zs with
    | nil=>simp at h4
    | cons y r=>simp at h4
  have L6:=sO.upd (o:= .lst<|(as.map λa=>V.ref a.1).eraseIdx j) hR.lst Qu.symm aR;have vq:(upd H5 R<|.lst<|(as.map λa=>V.ref a.1).eraseIdx j) a.1=some (.tup [.str n[j].1,.ref a.2]):=by rw[ax<|ce et hR.lst λe=>nomatch e];exact et
  have yQ:(upd H5 R<|.lst<|(as.map λa=>V.ref a.1).eraseIdx j) a.2=some (Ls<|row n j):=by rw[ax<|Hw a am];exact el
  have vg:ah H2 (upd H5 R<|.lst<|(as.map λa=>V.ref a.1).eraseIdx j):=dX sH fR;generalize upd H5 R (.lst<|(as.map λa=>V.ref a.1).eraseIdx j)=H6 at R6 L6 vq yQ vg ⊢;have le6:=R6.len;have qp:(n.eraseIdx j).length=n.length - 1:=by rw[Db,BL qo]
  refine aW 0 nd<|aX i4<|ae 0<|aX gg<|cF dR T.len DX<|aq<|ae 6<|az ⟨R,_,rfl,.inl<|ak.of R6.lst,aC ⟨_,_,rfl,rfl,?_⟩⟩;rw[Aa,le6,qp];refine⟨_,_,rfl,rfl,⟨by omega,by omega⟩,?_⟩;have x0F:=gB n j;refine aW 10 nd<|cF (Mz rfl) T.max UJ<|aq<|aC<|aq<|cF dR T.len DX<|aq<|aY bK<|ae 9<|aC ⟨a.1,_,_,.ref a.2,rfl,rfl,aP.of vq,rfl,az ⟨a.2,_,rfl,.inl<|ak.of yQ,?_⟩⟩;rw[Aa];refine az ⟨1,_,rfl,?_⟩;have emx:(if((row n j).length:Int) > 1 then((row n j).length:Int)else 1)=((max 1 (row n j).length:Nat):Int):=by
   split <;> omega
  rw[emx];show Run _ _ _ [some<|.int<|b / ((n.length - 1:Nat)+1:Int),some<|.int m,some<|.int sm,some<|.int (mn:Int),some<|.ref lt,some<|.ref lp,some<|.ref R,u,some<|.ref L,some<|.ref a.1,some<|.int ((max 1 (row n j).length:Nat):Int)] H6;generalize b / ((n.length - 1:Nat)+1:Int)=b2;have z0:0<=b2 % ((max 1 (row n j).length:Nat):Int):=Ca _ (by omega);obtain⟨i,hi⟩:∃ k:Nat,b2 % ((max 1 (row n j).length:Nat):Int)=k:=⟨(b2 % ((max 1 (row n j).length:Nat):Int)).toNat,by omega⟩;refine fX<|jj<|ae 8 ⟨L,rfl,⟨_,L6.lst⟩,dW<|aq<|aY bK<|ae 9<|aC ⟨a.1,_,_,.str n[j].1,rfl,rfl,aP.of vq,rfl,?_⟩⟩;refine aq (aX rB<|rE rz<|aY bK<|ae 9<|aC ⟨a.1,_,_,.ref a.2,rfl,rfl,aP.of vq,rfl,rG<|aX cW<|ae 0<|ae 10 ⟨b2,((max 1 (row n j).length:Nat):Int),rfl,rfl,by omega,_,rfl,rF ⟨a.2,_,rfl,ak.of yQ,λp1 oq=>?_⟩⟩⟩);rw[hi,O1];have t1:=aH oq<|Ls<|(row n j).drop i;refine rE rz (aY bK<|ae 9<|aC ⟨a.1,_,_,.ref a.2,rfl,rfl,aP.of<|t1 _ _ vq,rfl,rF<|rG<|aX cW<|ae 0<|ae 10 ⟨b2,((max 1 (row n j).length:Nat):Int),rfl,rfl,by omega,_,rfl,a.2,_,rfl,ak.of<|t1 _ _ yQ,λp2 ka=>?_⟩⟩);rw[hi,O2];have t2:=aH ka<|Ls<|(row n j).take i;refine⟨p1,p2,_,_,rfl,rfl,t2 _ _ aw,aw,?_,λp3 mH=>?_⟩
  ·rw[Aa,Aa,Cj,Bg];exact small<|by omega
  rw[<- Ag];have t3:=aH mH<|Ls<|(row n j).drop i++(row n j).take i;refine az ⟨(by show 2<=sizeLine;decide),λt4 ht4=>?_⟩;have s4:=aH ht4<|.tup [.str n[j].1,.ref p3];have qt:=t1.trans<|t2.trans<|t3.trans s4;have L7:=L6.same qt;have R7:=R6.same qt;have p3L:p3≠L:=λe=>by rw[e,(t1.trans t2) _ _ L6.lst]at mH;cases mH
  have p3R:p3≠R:=λe=>by rw[e,(t1.trans t2) _ _ R6.lst]at mH;cases mH
  have p3n:p3∉oo.map (·.2):=λhm=>by
   obtain⟨y,hy,e⟩:=Ap.mp hm;exact(L6.same<|t1.trans t2).fresh mH hy e.symm
  have L8:=L7.more (t:=t4) (l:=p3) (pt:=n[j].1) (zs:=(row n j).drop i++(row n j).take i) aw (s4 _ _ aw) p3n p3L;refine⟨_,L7.lst,by rw[Aa,Hv];exact bS (by omega),?_⟩;have Qx:∀ x∈as.eraseIdx j,x.2≠L:=λx hx=>aL x<|Ey hx;have R8:=R7.upd (o:= .lst<|oo.map (λa=>V.ref a.1)++[.ref t4]) L7.lst Qu Qx;refine aW 0 nd (aX i4<|ae 0<|ae 10 ⟨b2,((max 1 (row n j).length:Nat):Int),rfl,rfl,⟨by omega,by omega⟩,?_⟩);have pe:=O0 n j qo;have ne:=ZM n j qo;have Qy:(ag (n.eraseIdx j)++ag (n2++[(n[j].1,(row n j).drop i++(row n j).take i)])).Perm (ag n0):=by
   refine List.Perm.trans ?_ pt;unfold ag;rw[Cr];show(ag (n.eraseIdx j)++(ag n2++(((row n j).drop i++(row n j).take i)++[]))).Perm _;rw[Bh,er];have w1:(n[j].2.drop i++n[j].2.take i).Perm n[j].2:=FH _ _;refine((w1.append_left _).append_left _).trans ?_;have w2:(ag n++ag n2).Perm ((n[j].2++ag (n.eraseIdx j))++ag n2):=pe.append_right _;refine List.Perm.trans ?_ w2.symm;rw[At];refine List.Perm.trans ?_<|Cm (l₁:=ag (n.eraseIdx j)++ag n2);rw[At]
  refine bb ⟨n.length - 1,by omega,as.eraseIdx j,oo++[(t4,p3)],n.eraseIdx j,n2++[(n[j].1,(row n j).drop i++(row n j).take i)],_,_,_,qp.symm,R8,L8,dX (vg.trans qt) fL,Qx,λx hx=>?_,λx hx=>?_,?_,Qy,?_,λh=>⟨λr hr=>?_,λr hr=>?_⟩,q5k qo (by have:=Ci b2 (show(0:Int) < ((max 1 (row n j).length:Nat):Int) by omega);rw[hi]at this;exact Int.ofNat_lt.mp this) yO pt Qy yM,rfl⟩
  ·rcases Al.mp hx with hx | hx
   ·exact aR x hx
   ·rw[Ae]at hx;rw[hx];exact p3R
  ·rcases Al.mp hx with hx | hx
   ·exact Qw x hx
   ·rw[Ae]at hx;rw[hx];exact vg.free<|t1.free<|t2.free mH
  ·rw[Ad,qp];simp;omega
  ·refine List.Perm.trans ?_ pn;rw[Ag];show((n.eraseIdx j).map (·.1)++(n2.map (·.1)++[n[j].1])).Perm _;refine List.Perm.trans ?_ (ne.append_right _).symm;rw[<- At];exact Cm
  ·exact(bn h).1 r<|Ey hr
  ·rcases Al.mp hr with hr | hr
   ·exact(bn h).2 r hr
   ·rw[Ae]at hr;rw[hr];intro e;have w1:=(FH (row n j) i).length_eq;have e':(row n j).drop i++(row n j).take i=[]:=e;rw[e']at w1;have:=(bn h).1 n[j]<|Bn qo;rw[er]at w1;exact this<|Bd.mp w1.symm
def Hx:Sp:=λvs H Q _=>∃(R:Addr) (as:Ï) (n:Net),vs=[.ref R]/\ai H R as n/\n.length<=1000/\∀ L dw H',ah H H'->H L=none->(∀ a∈dw,H a.1=none/\H a.2=none)->ai H' L dw n->Q (.ref L) H'
theorem iT{H H':Hp}{l:Addr}(s:ah H H')(h:H' l=none):H l=none:=by
 cases e:H l with
 | none=>rfl
 | some v=>rw[s _ _ e]at h;cases h
abbrev NC:Ñ:=["_law_rows"]
abbrev Qz:Ñ:=["_law_rows","_law_row"]
def kG:ao NC ["_law_rows"] (aT ym):=⟨rfl,rfl,rfl,by decide +kernel,rfl,by decide +kernel,by decide +kernel⟩
def Hy:Qz.Nodup:=by decide +kernel
def q4w{f:Addr}{fd:FuncData}(F:bv K "_law_copy" "_law_copy" ym f fd)(T:Txt mg):aE P w K mg base bD 1 f fd ["_law_rows"] Hx:=by
 refine F.gb kG (λvs H Q E h=>?_) λb0 H vs Q E hr h=>?_
 ·obtain⟨R,as,n,rfl,_⟩:=h;rfl
 obtain⟨R,as,n,rfl,hR,hn,q⟩:=h;have nd:=kG.nd;have bF:=hR.len;show Run _ _ _ [some<|.ref R] H;refine bN<|fY (aT ym) NC Qz 1 (dD bx)<|ae 0 ⟨R,rfl,⟨_,ak.of hR.lst⟩,λD hD=>?_⟩;refine mw (xs:=as.map λa=>V.ref a.1) (λi σ' H'=>(∃ v,σ'=[some<|.ref R]++[v])/\∃ bs:Ï,bs.length=i/\H' D=some (.lst<|bs.map λa=> .ref a.1) /\
  (∀(j:Nat) a r,bs[j]?=some a->n[j]?=some r->H' a.1=some (.tup [.str r.1,.ref a.2])/\H' a.2=some (Ls r.2))/\(bs.map (·.2)).Nodup/\(∀ a∈bs,a.2≠D/\H a.1=none/\H a.2=none/\∃ zs,H' a.2=some (Ls zs))/\ah H H')
  ⟨⟨none,rfl⟩,[],rfl,aw,λj a r h=>by simp at h,Ch,λa h=>by simp at h,aH hD _⟩ ?_ ?_ ?_
 ·rintro i σ' H' _ ⟨_,bs,_,_,_,_,_,sm⟩;exact ak.of<|sm _ _ hR.lst
 ·rintro i x σ' H' hx ⟨⟨v,rfl⟩,bs,mr,me,Hz,qu,sP,sm⟩;have hi:i < n.length:=by
   have:=(Ac.mp hx).1;rw[Aa]at this;omega
  obtain⟨a,ea,dY,et,el,er⟩:=(hR.same sm).at hi;rw[Aj,ea]at hx;cases hx;intro cl C' s₀ H₀ ex;refine a8 1 Hy ?_;intro cl C' s₀ H₀ ex;refine iF ?_;rw[BL rfl];intro cl C' s₀ H₀ ex;refine dW<|aq<|aY bK<|ae 1<|aC ⟨a.1,_,_,.str n[i].1,rfl,rfl,aP.of et,rfl,?_⟩;refine aq<|nr MU T.nP SQ<|aq<|aY bK<|ae 1<|aC ⟨a.1,_,_,.ref a.2,rfl,rfl,aP.of et,rfl,?_⟩;refine az ⟨a.2,_,rfl,.inl<|ak.of el,λl hl=>az ⟨(by show 2<=sizeLine;decide),λt ht=>?_⟩⟩;have lZ:=iT sm hl;have yR:t≠l:=λe=>by rw[e,aw]at ht;cases ht
  have g5:H' t=none:=by rw[ax yR]at ht;exact ht
  have QA:=iT sm g5;have sQ:l≠D:=λe=>by rw[e]at hl;rw[hl]at me;cases me
  have vt:t≠D:=λe=>by rw[e]at g5;rw[g5]at me;cases me
  refine⟨bs.map λa=> .ref a.1,?_,?_,⟨_,rfl⟩,bs++[(t,l)],by rw[Ad,mr];rfl,?_,?_,?_,?_,?_⟩
  ·rw[ax<|CK vt,ax<|CK sQ];exact me
  ·rw[Aa];exact bS<|by omega
  ·rw[aw,Ag];rfl
  ·intro j b r hb qi
   by_cases hj:j < bs.length
   ·rw[An hj]at hb;obtain⟨q1,q2⟩:=Hz j b r hb qi;have hbD:=(sP b<|As hb).1;have n1:b.1≠D:=ce q1 me λz=>nomatch z;refine⟨?_,?_⟩
    ·rw[ax n1,ax<|bq q1 g5,ax<|bq q1 hl];exact q1
    ·rw[ax hbD,ax<|bq q2 g5,ax<|bq q2 hl];exact q2
   ·rw[Am<|by omega]at hb;have eV:j - bs.length=0:=by
     have:=(Ac.mp hb).1;simp at this;omega
    have qv:j=i:=by omega
    rw[eV]at hb;cases hb;rw[qv,Ab hi]at qi;cases qi;refine⟨?_,?_⟩
    ·rw[ax vt,aw]
    ·rw[ax sQ,ax<|CK yR,aw,er]
  ·rw[Ag];refine pk qu λhm=>?_;obtain⟨b,hb,e⟩:=Ap.mp hm;obtain⟨_,_,_,zs,q⟩:=sP b hb;have e':b.2=l:=e;rw[e',hl]at q;cases q
  ·intro b hb
   rcases Al.mp hb with hb | hb
   ·obtain⟨q1,q2,q3,zs,q4⟩:=sP b hb;refine⟨q1,q2,q3,zs,?_⟩;rw[ax q1,ax<|bq q4 g5,ax<|bq q4 hl];exact q4
   ·rw[Ae.mp hb];refine⟨sQ,QA,lZ,row n i,?_⟩;rw[ax sQ,ax<|CK yR,aw]
  ·intro c o hc;rw[ax<|bq hc hD,ax<|bq hc QA,ax<|bq hc lZ];exact sm _ _ hc
 ·rintro σ' H' ⟨_,bs,mr,me,Hz,qu,sP,sm⟩;rw[Aa]at mr;exact q D bs H' sm hD (λa ha=>⟨(sP a ha).2.1,(sP a ha).2.2.1⟩) ⟨by omega,me,Hz,qu⟩
end
abbrev Tn(p:Str)(j:Int):HO:= .tup [.str p,.int j]
def vw:Sp:=λvs H Q _=>∃(t l:Addr) (p:Str) (zs:Ñ),vs=[.ref t]/\H t=some (.tup [.str p,.ref l])/\H l=some (Ls zs)/\zs.length<=1000 /\
 ∀(L:Addr) (ts:List Addr) (H':Hp),ah H H'->H L=none->H' L=some (.lst<|ts.map V.ref)->ts.length=zs.length->(∀(j:Nat) t,ts[j]?=some t->H' t=some (Tn p j))->Q (.ref L) H'
section
variable{X:Cx}{elt tg:Expr}{ifs:Ô}{scope:Scope}{σ:St}{H:Hp}{N':Ñ}{A:Addr}{after:Hp->Prop}
def k2d{lo:Int}{n:Nat}(Pv:Nat->St->Hp->Prop)(h0:Pv 0 σ H)
  (hs : ∀ i σ' H', i < n → Pv i σ' H' → CI X N' scope tg (.int<|lo + i) σ' H' λσ2 H3 => CL X N' scope ifs σ2 H3 λb H4 =>
   if b=true then CH X N' scope elt σ2 H4 λv H5=>∃ ys,H5 A=some (.lst ys)/\ys.length < sizeLine/\Pv (i+1) σ2 (upd H5 A<|.lst<|ys++[v])else Pv (i+1) σ2 H4)
  (hd:∀ σ' H',Pv n σ' H'->after H'):py X N' scope tg ifs elt (ro lo n) A after σ H:=by
 refine⟨λi m σ' H'=>m=n - i/\i<=n/\Pv i σ' H',⟨_,rfl,Cf _,h0⟩,?_⟩;rintro i m σ' H' ⟨rfl,hi,p⟩
 by_cases bd:i < n
 ·refine .inr ⟨bd,Pv<|i+1,λσ' H' p'=>⟨n - (i+1),by omega,rfl,bd,p'⟩,λx H2 y=>?_⟩;obtain⟨e,y⟩:=y;subst e y;exact hs i σ' _ bd p
 ·have e:i=n:=by omega
  subst e;exact .inl ⟨Ao _,hd σ' H' p⟩
end
section
variable{P:Program}{w:World}{K:PySem.W.Frag}{mg:Ò}{base:Heap}
abbrev QE:Ñ:=["row","point","ties"]
abbrev QH:Ñ:=["row","point","ties","place"]
def kH:ao QE ["row"] (aT yc):=⟨rfl,rfl,rfl,by decide +kernel,rfl,by decide +kernel,by decide +kernel⟩
def x0k:QH.Nodup:=by decide +kernel
def q5f{f:Addr}{fd:FuncData}(F:bv K "ends_round" "ends_round" yc f fd)(T:Txt mg):aE P w K mg base bD 1 f fd ["row"] vw:=by
 refine F.gb kH (λvs H Q E h=>?_) λb0 H vs Q E hr h=>?_
 ·obtain⟨t,l,p,zs,rfl,_⟩:=h;rfl
 obtain⟨t,l,p,zs,rfl,ht,hl,hz,q⟩:=h;have nd:=kH.nd;show Run _ _ _ [some<|.ref t,none,none] H;refine xK<|ae 0<|jq rfl (aP.of ht) (a8 1 nd<|a8 2 nd ?_);show Run _ _ _ [some<|.ref t,some<|.str p,some<|.ref l] H;refine bN<|fY (aT yc) QE QH 1 (Mm rfl T.range (ta:=ul _ _) jb (pq _ [] _ rfl)) ?_;show Ea _ _ _ _ _;refine aq (cF dR T.len DX<|aq<|ae 2<|az ⟨l,_,rfl,.inl<|ak.of hl,az ⟨_,rfl,by omega,by rw[Aa];omega,λD hD=>?_⟩⟩);rw[Aa,Bo];refine k2d (λi σ' H'=>(∃ v,σ'=[some<|.ref t,some<|.str p,some<|.ref l]++[v])/\∃ ts:List Addr,ts.length=i/\H' D=some (.lst<|ts.map V.ref)/\(∀(j:Nat) t,ts[j]?=some t->H' t=some (Tn p j))/\ah H H')
  ⟨⟨none,rfl⟩,[],rfl,aw,λj t h=>by simp at h,aH hD _⟩ ?_ ?_
 ·rintro i σ' H' hi ⟨⟨v,rfl⟩,ts,eJ,eD,HA,sm⟩;rw[Ek];intro cl C' s₀ H₀ ex;refine a8 3 x0k ?_;intro cl C' s₀ H₀ ex;refine iF ?_;rw[BL rfl];intro cl C' s₀ H₀ ex;refine dW (aq<|ae 1<|aq<|ae 3<|az ⟨(by show 2<=sizeLine;decide),λu hu=>?_⟩);have nu:u≠D:=λe=>by rw[e,eD]at hu;cases hu
  have hu0:=iT sm hu;refine⟨ts.map V.ref,by rw[ax<|CK nu];exact eD,by rw[Aa];exact bS (by omega),⟨_,rfl⟩,ts++[u],by rw[Ad,eJ];rfl,by rw[aw,Ag];rfl,?_,?_⟩
  ·intro j t' g5
   by_cases hj:j < ts.length
   ·rw[An hj]at g5;have e:=HA j t' g5;have n1:t'≠D:=ce e eD λz=>nomatch z;rw[ax n1,ax<|bq e hu];exact e
   ·rw[Am<|by omega]at g5;have eV:j - ts.length=0:=by
     have:=(Ac.mp g5).1;simp at this;omega
    rw[eV]at g5;cases g5;have:j=i:=by omega
    rw[this,ax nu,aw]
  ·intro c o hc;rw[ax<|bq hc hD,ax<|bq hc hu0];exact sm _ _ hc
 ·rintro σ' H' ⟨_,ts,eJ,eD,HA,sm⟩;exact q D ts H' sm hD eD eJ HA
def jv(g:Int->Int):Sp:=λvs H Q _=>∃(e:Addr) (p:Str) (j m:Int),vs=[.ref e,.int m]/\H e=some (Tn p j)/\0 < m/\∀ t H',ah H H'->H' t=some (Tn p<|g j % m)->Q (.ref t) H'
abbrev QI:Ñ:=["end","many","point","place"]
def kI:ao QI ["end","many"] (aT EC):=⟨rfl,rfl,rfl,by decide +kernel,rfl,by decide +kernel,by decide +kernel⟩
def gH:ao QI ["end","many"] (aT ED):=⟨rfl,rfl,rfl,by decide +kernel,rfl,by decide +kernel,by decide +kernel⟩
def q37{f:Addr}{fd:FuncData}(F:bv K "turned_left" "turned_left" EC f fd)(T:Txt mg):aE P w K mg base bD 1 f fd ["end","many"] (jv λj=>j+1):=by
 refine F.gb kI (λvs H Q E h=>?_) λb0 H vs Q E hr h=>?_
 ·obtain⟨e,p,j,m,rfl,_⟩:=h;rfl
 obtain⟨e,p,j,m,rfl,he,hm,q⟩:=h;have nd:=kI.nd;show Run _ _ _ [some<|.ref e,some<|.int m,none,none] H;refine xK<|ae 0<|jq rfl (aP.of he) (a8 2 nd<|a8 3 nd ?_);refine bN (dW<|aq<|ae 2<|aq<|aX cW<|aX gg<|ae 3<|aC ⟨_,_,rfl,rfl,ae 1 ⟨_,_,rfl,rfl,(by show 0 < m;exact hm),az ⟨(by show 2<=sizeLine;decide),λt ht=>?_⟩⟩⟩);exact q t _ (aH ht _) aw
def k66{f:Addr}{fd:FuncData}(F:bv K "turned_right" "turned_right" ED f fd)(T:Txt mg):aE P w K mg base bD 1 f fd ["end","many"] (jv λj=>j - 1):=by
 refine F.gb gH (λvs H Q E h=>?_) λb0 H vs Q E hr h=>?_
 ·obtain⟨e,p,j,m,rfl,_⟩:=h;rfl
 obtain⟨e,p,j,m,rfl,he,hm,q⟩:=h;have nd:=gH.nd;show Run _ _ _ [some<|.ref e,some<|.int m,none,none] H;refine xK<|ae 0<|jq rfl (aP.of he) (a8 2 nd<|a8 3 nd ?_);refine bN (dW<|aq<|ae 2<|aq<|aX cW<|aX VP<|ae 3<|aC ⟨_,_,rfl,rfl,ae 1 ⟨_,_,rfl,rfl,(by show 0 < m;exact hm),az ⟨(by show 2<=sizeLine;decide),λt ht=>?_⟩⟩⟩);exact q t _ (aH ht _) aw
theorem QN{kvs:List (Key×V)}:∀{acc:List (Key×V)},((acc++kvs).map (·.1)).Nodup->kvs.foldl (λa p=>putK a p.1 p.2) acc=acc++kvs:=by
 induction kvs with
 | nil=>intro acc _;simp
 | cons p r ih=>
  intro acc h;have hn:aJ acc p.1=none:=by
   cases e:aJ acc p.1 with
   | none=>rfl
   | some v=>
    have hm:=B3 e;rw[Ag,Bj]at h;exact absurd rfl ((Bt.mp h).2.2 _ hm _ Af)
  rw[Dm,M4 _ hn,ih (by rw[At];exact h),At];rfl
theorem HC:∀{kvs:List (Key×V)} {i:Nat} {p:Key×V},(kvs.map (·.1)).Nodup->kvs[i]?=some p->aJ kvs p.1=some p.2
 | [],_,_,_,h=>by simp at h
 | q :: r,0,p,_,h=>by
  cases h;exact i7 rfl
 | q :: r,i+1,p,hn,h=>by
  rw[Bj,Bf]at hn;have hm:r[i]?=some p:=by simpa using h
  rw[i8 λe=>hn.1<|by rw[e];exact Ap.mpr ⟨p,As hm,rfl⟩];exact HC hn.2 hm
def dg(n:Net)(as:Ï):List (Key×V):=List.zipWith (λr a=>(Sum.inr r.1,V.ref a.2)) n as
theorem HE:∀(n:Net) (as:Ï),as.length=n.length->(dg n as).map (·.1)=(n.map (·.1)).map Sum.inr
 | [],[],_=>rfl
 | [],_ :: _,h=>by simp at h
 | _ :: _,[],h=>by simp at h
 | r :: n,a :: as,h=>by
  have:=HE n as (by simpa using h);show Sum.inr r.1 :: (dg n as).map (·.1)=_;rw[this];rfl
def yS{n:Net}{as:Ï}{i:Nat}{r:Str×List Str}{a:Addr×Addr}(h1:n[i]?=some r)(h2:as[i]?=some a):(dg n as)[i]?=some (Sum.inr r.1,.ref a.2):=by
 unfold dg;rw[List.getElem?_zipWith,h1,h2]
def QO{l:Ñ}(h:l.Nodup):(l.map (Sum.inr:Str->Key)).Nodup:=by
 rw[Co,Eu];exact(Co.mp h).imp λh q=>h<|Sum.inr.inj q
end
def nameAt(n:Net)(r:Nat):Str:=((n[r]?).map (·.1)).getD ⟨#[]⟩
def key(n:Net)(e:Nt.End):List Key:=[Sum.inr<|nameAt n e.1,Sum.inl (e.2:Int)]
abbrev TN(n:Net)(e:Nt.End):HO:=Tn (nameAt n e.1) (e.2:Int)
def qw{n:Net}{r:Nat}(h:r < n.length):nameAt n r=n[r].1:=by unfold nameAt;rw[Ab h];rfl
def qz{n:Net}(hN:(n.map (·.1)).Nodup){a b:Nt.End}(ha:a.1 < n.length)(hb:b.1 < n.length)(h:key n a=key n b):a=b:=by
 unfold key at h
 injection h with h1 h2
 injection h2 with h2 _
 have e1:=Sum.inr.inj h1;have e2:=Sum.inl.inj h2;rw[qw ha,qw hb]at e1;have e3:a.1=b.1:=by
  have la:a.1 < (n.map (·.1)).length:=by rw[Aa];exact ha
  have lb:b.1 < (n.map (·.1)).length:=by rw[Aa];exact hb
  refine(Gm (i:=a.1) (j:=b.1) (h₀:=la) (h₁:=lb) hN).mp ?_;rw[Dw,Dw];exact e1
 exact HJ e3<|by omega
def vx{n:Net}{r p:Nat}{z:Str}(hr:r < n.length)(hz:(row n r)[p]?=some z):∃ rest,bp n=(bp (n.take r)++bu r ((row n r).take p) 0)++(z,(r,p)) :: rest:=by
 have e1:bp n=bp (n.take<|r+1)++fG (0+(n.take<|r+1).length) (n.drop<|r+1):=by
  have:=D9 (n.take<|r+1) (n.drop<|r+1) 0;rw[Dk]at this;exact this
 have e2:bu r (row n r) 0=bu r ((row n r).take<|p+1) 0++bu r ((row n r).drop<|p+1) (0+((row n r).take<|p+1).length):=by
  unfold bu;rw[<- Ag,<- List.zipIdx_append,Dk]
 rw[e1,rY hr,e2,pS hz];refine⟨bu r ((row n r).drop<|p+1) (0+((row n r).take<|p+1).length)++fG (0+(n.take<|r+1).length) (n.drop<|r+1),?_⟩;simp only[At,Fs,Ff]
def QP{κ:Type} [DecidableEq κ] (kvs:List<|κ×V) (k:κ) (v:V):(putK kvs k v).map (·.1)=if k∈kvs.map (·.1)then kvs.map (·.1)else kvs.map (·.1)++[k]:=by
 have e:(kvs.any λkv=>decide (kv.1=k))=decide (k∈kvs.map (·.1)):=by
  rw[Cp,List.any_eq_true,CN,Ap];exact⟨λ⟨p,h1,h2⟩=>⟨p,h1,BX h2⟩,λ⟨p,h1,h2⟩=>⟨p,h1,BW h2⟩⟩
 unfold putK;rw[e]
 by_cases h:k∈kvs.map (·.1)
 ·rw[BL<|BW h,BL h,Cn];refine Aq λp _=>?_;show(if p.1=k then(p.1,v)else p).1=p.1
  split <;> rfl
 ·rw[BK (by simpa using h),BK h,Ag];rfl
def gI{κ:Type} [DecidableEq κ] {kvs:List (κ×V)} {k j:κ} {v:V}:j∈(putK kvs k v).map (·.1)↔j∈kvs.map (·.1)\/j=k:=by
 rw[QP]
 split
 ·exact⟨.inl,λh=>h.elim id λe=>by rw[e];assumption⟩
 ·rw[Al,Ae]
def QQ{κ:Type} [DecidableEq κ] {kvs:List (κ×V)} {k:κ} {v:V} (h:(kvs.map (·.1)).Nodup):((putK kvs k v).map (·.1)).Nodup:=by
 rw[QP]
 split
 ·exact h
 ·rename_i hn;exact pk h hn
structure jw(n:Net)(done:List<|Str×Nt.End)(H:Hp)(kM:List<|Key×V)(kO:List<|List Key×V):Prop where
 m0:∀ z,bJ done z=[]->aJ kM (Sum.inr z)=none
 m1:∀ z a rest,bJ done z=a :: rest->∃ t,aJ kM (Sum.inr z)=some (.ref t)/\H t=some (TN n a)
 o:∀ z a b rest,bJ done z=a :: b :: rest->(∃ u,aJ kO (key n a)=some (.ref u)/\H u=some (TN n b))/\∃ u,aJ kO (key n b)=some (.ref u)/\H u=some (TN n a)
 sub:∀ p∈done,aK n p.2=some p.1
 dM:kM.length<=done.length
 fK:kO.length<=2 * done.length
 ks:∀ k∈kO.map (·.1),∃ p∈done,k=key n p.2
 nd:(kO.map (·.1)).Nodup
def jw.keep{n:Net}{done:List (Str×Nt.End)}{H H':Hp}{kM:List (Key×V)}{kO:List (List Key×V)}(I:jw n done H kM kO)(k:∀ t p j,H t=some (Tn p j)->H' t=some (Tn p j)):jw n done H' kM kO where
 m0:=I.m0
 m1:=λz a rest h=>let ⟨t,e1,e2⟩:=I.m1 z a rest h;⟨t,e1,k _ _ _ e2⟩
 o:=λz a b rest h=>let ⟨⟨u,e1,e2⟩,⟨v,e3,e4⟩⟩:=I.o z a b rest h;⟨⟨u,e1,k _ _ _ e2⟩,⟨v,e3,k _ _ _ e4⟩⟩
 sub:=I.sub
 dM:=I.dM
 fK:=I.fK
 ks:=I.ks
 nd:=I.nd
def vy{done:List (Str×Nt.End)}{z:Str}{a:Nt.End}(h:a∈bJ done z):(z,a)∈done:=by
 unfold bJ at h;obtain⟨⟨y,b⟩,hm,rfl⟩:=Ap.mp h;obtain⟨h1,h2⟩:=Ba.mp hm;have:y=z:=BX h2;subst this;exact h1
def jw.new{n:Net}{done:List (Str×Nt.End)}{H:Hp}{kM:List (Key×V)}{kO:List (List Key×V)}(I:jw n done H kM kO){z:Str}{e:Nt.End}{t:Addr}(ht:H t=some (TN n e))(hz:aK n e=some z)(h0:bJ done z=[]) :
  jw n (done++[(z,e)]) H (putK kM (Sum.inr z)<|.ref t) kO where
 m0:=λy hy=>by
  rw[df]at hy;obtain⟨h1,h2⟩:=Fd.mp hy;have bn:¬ z=y:=λq=>by rw[BL q]at h2;cases h2
  rw[fb,BK λq=>bn (Sum.inr.inj q).symm];exact I.m0 y h1
 m1:=λy a rest hy=>by
  rw[df]at hy
  by_cases q:z=y
  ·subst q;rw[h0,BL rfl]at hy;cases hy;exact⟨t,by rw[fb,BL rfl],ht⟩
  ·rw[BK q,Bh]at hy;obtain⟨u,e1,e2⟩:=I.m1 y a rest hy;exact⟨u,by rw[fb,BK λp=>q (Sum.inr.inj p).symm];exact e1,e2⟩
 o:=λy a b rest hy=>by
  rw[df]at hy
  by_cases q:z=y
  ·subst q;rw[h0,BL rfl]at hy;cases hy
  ·rw[BK q,Bh]at hy;exact I.o y a b rest hy
 sub:=λp hp=>by
  rcases Al.mp hp with h | h
  ·exact I.sub p h
  ·rw[Ae.mp h];exact hz
 dM:=by
  have:=iE kM (Sum.inr z)<|.ref t;have:=I.dM;rw[Ad,Cw];omega
 fK:=by
  have:=I.fK;rw[Ad,Cw];omega
 ks:=λk hk=>let ⟨p,hp,e⟩:=I.ks k hk;⟨p,Bc _ hp,e⟩
 nd:=I.nd
def jw.old{n:Net}(hN:(n.map (·.1)).Nodup){done:List (Str×Nt.End)}{H:Hp}{kM:List (Key×V)}{kO:List (List Key×V)}(I:jw n done H kM kO){z:Str}{e a:Nt.End}{te tm:Addr}(ht:H te=some (TN n e))(hm:H tm=some (TN n a))(hz:aK n e=some z)(h1:bJ done z=[a])(hae:a≠e) :
  jw n (done++[(z,e)]) H kM (putK (putK kO (key n e)<|.ref tm) (key n a)<|.ref te) where
 m0:=λy hy=>by
  rw[df]at hy;exact I.m0 y (Fd.mp hy).1
 m1:=λy c rest hy=>by
  rw[df]at hy
  by_cases q:z=y
  ·subst q;rw[h1,BL rfl]at hy;cases hy;exact I.m1 z a [] h1
  ·rw[BK q,Bh]at hy;exact I.m1 y c rest hy
 o:=λy c b rest hy=>by
  rw[df]at hy;have ta:aK n a=some z:=I.sub (z,a)<|vy<|by rw[h1];exact Ae.mpr rfl
  by_cases q:z=y
  ·subst q;rw[h1,BL rfl]at hy;cases hy;refine⟨⟨te,by rw[fb,BL rfl],ht⟩,⟨tm,?_,hm⟩⟩;rw[fb,BK λp=>hae (qz hN (cz hz) (cz ta) p).symm,fb,BL rfl]
  ·rw[BK q,Bh]at hy;have tc:aK n c=some y:=I.sub (y,c) (vy<|by rw[hy];exact Af);have tb:aK n b=some y:=I.sub (y,b) (vy<|by rw[hy];exact Ah _ Af);have ne:∀ x:Nt.End,aK n x=some y->¬ key n x=key n a/\¬ key n x=key n e:=λx hx=>by
    refine⟨λp=>?_,λp=>?_⟩
    ·have:=qz hN (cz hx) (cz ta) p;rw[this,ta]at hx;exact q<|Option.some.inj hx
    ·have:=qz hN (cz hx) (cz hz) p;rw[this,hz]at hx;exact q<|Option.some.inj hx
   obtain⟨⟨u,e1,e2⟩,⟨v,e3,e4⟩⟩:=I.o y c b rest hy;refine⟨⟨u,?_,e2⟩,⟨v,?_,e4⟩⟩
   ·rw[fb,BK (ne c tc).1,fb,BK (ne c tc).2];exact e1
   ·rw[fb,BK (ne b tb).1,fb,BK (ne b tb).2];exact e3
 sub:=λp hp=>by
  rcases Al.mp hp with h | h
  ·exact I.sub p h
  ·rw[Ae.mp h];exact hz
 dM:=by
  have:=I.dM;rw[Ad,Cw];omega
 fK:=by
  have h1:=iE (putK kO (key n e)<|.ref tm) (key n a)<|.ref te;have h2:=iE kO (key n e)<|.ref tm;have:=I.fK;rw[Ad,Cw];omega
 ks:=λk hk=>by
  rcases gI.mp hk with hk | rfl
  ·rcases gI.mp hk with hk | rfl
   ·obtain⟨p,hp,e⟩:=I.ks k hk;exact⟨p,Bc _ hp,e⟩
   ·exact⟨(z,e),Aw _<|Ae.mpr rfl,rfl⟩
  ·exact⟨(z,a),Bc _ (vy<|by rw[h1];exact Ae.mpr rfl),rfl⟩
 nd:=QQ<|QQ I.nd
def jw.whole{n:Net}(T:av n){H:Hp}{kM:List (Key×V)}{kO:List (List Key×V)}(I:jw n (bp n) H kM kO){e:Nt.End}(he:e∈ends n):∃ u,aJ kO (key n e)=some (.ref u)/\H u=some (TN n<|other n e):=by
 obtain⟨z,hz⟩:=af.mp he;obtain⟨a,b,hp,gy,rQ⟩:=pQ T hz;have sN:bJ (bp n) z=a :: b :: []:=hp;have ta:aK n a=some z:=aM.mp (by rw[hp];simp);have tb:aK n b=some z:=aM.mp (by rw[hp];simp);obtain⟨o1,o2⟩:=I.o z a b [] sN
 rcases rQ with rfl | rfl
 ·have:b=other n e:=((mF T hz).mp tb).resolve_left<|CK gy;rw[<- this];exact o1
 ·have:a=other n e:=((mF T hz).mp ta).resolve_left gy;rw[<- this];exact o2
def mI:Sp:=λvs H Q _=>∃(R:Addr) (as:Ï) (n:Net),vs=[.ref R]/\ai H R as n/\(n.map (·.1)).Nodup/\av n/\n.length<=1000/\(ag n).length<=1000 /\
 ∀(d:Addr) (kvs:List<|List Key×V) (H':Hp),ah H H'->H d=none->H' d=some (.dT kvs)->(∀ e∈ends n,∃ u,aJ kvs (key n e)=some (.ref u)/\H' u=some (TN n<|other n e))->(kvs.map (·.1)).Nodup->(∀ k∈kvs.map (·.1),∃ e∈ends n,k=key n e)->kvs.length<=2000->Q (.ref d) H'
section
variable{X:Cx}{D:Ends}{σ:St}{H:Hp}{body:Õ}
def k91{tg:Expr}{a b:Addr}{xs ys:List V}{after:St->Hp->Prop}(hlen:xs.length=ys.length)(Pv:Nat->St->Hp->Prop)(h0:Pv 0 σ H)(hl:∀ i σ H,i<=xs.length->Pv i σ H->ak X.K H a xs/\ak X.K H b ys)
  (hs:∀ i x y T σ H,xs[i]?=some x->ys[i]?=some y->Pv i σ H->H T=none->Eg X tg (.ref T) σ (upd H T<|.tup [x,y]) λσ2 H2=>Run X body {D with nx:=Pv<|i+1,ct:=Pv<|i+1,bk:=after} σ2 H2) (hd:∀ σ H,Pv xs.length σ H->after σ H):Loop X tg body (yr X.K a b) D after σ H:=by
 refine⟨λi m σ H=>m=xs.length - i/\i<=xs.length/\Pv i σ H,⟨xs.length,by simp,Cf _,h0⟩,?_⟩;rintro i m σ H ⟨rfl,hi,p⟩;obtain⟨q1,q2⟩:=hl i σ H hi p
 by_cases bd:i < xs.length
 ·refine .inr ⟨⟨xs,ys,xs[i],ys[i],q1,q2,Ab bd,Ab<|by omega⟩,Pv<|i+1,λσ' H' p'=>⟨xs.length - (i+1),by omega,rfl,bd,p'⟩,λv H' y=>?_⟩;obtain⟨T,x,y,hT,rfl,rfl,y1,y2⟩:=y;exact hs i x y T σ _ (y1 xs q1) (y2 ys q2) p hT
 ·have e:i=xs.length:=by omega
  subst e;exact .inl ⟨⟨xs,ys,q1,q2,.inl<|Ao _⟩,hd σ H p⟩
end
section
variable{P:Program}{w:World}{K:PySem.W.Frag}{mg:Ò}{base:Heap}
abbrev NOE:Ñ:=["rows","met","others","row","end","tie"]
def vz:ao NOE ["rows"] (aT EE):=⟨rfl,rfl,rfl,by decide +kernel,rfl,by decide +kernel,by decide +kernel⟩
def QR{H:Hp}{t d:Addr}{xs:List V}{kvs:List (Key×V)}(h:H t=some (.tup xs))(g:H d=some (.dK kvs)):t≠d:=ce h g λz=>nomatch z
def lD{H:Hp}{t d:Addr}{xs:List V}{kvs:List (List Key×V)}(h:H t=some (.tup xs))(g:H d=some (.dT kvs)):t≠d:=ce h g λz=>nomatch z
def x1c{f:Addr}{fd:FuncData}(F:bv K "other_ends" "other_ends" EE f fd)(T:Txt mg)
  (GE:aS P w K mg base 1 "ends_round" ["row"] vw) :
  aE P w K mg base bD 2 f fd ["rows"] mI:=by
 refine F.gb vz (λvs H Q E h=>?_) λb0 H vs Q E hr h=>?_
 ·obtain⟨R,as,n,rfl,_⟩:=h;rfl
 obtain⟨R,as,n,rfl,hR,hN,hT,hn,ht,q⟩:=h;have nd:=vz.nd;have bF:=hR.len;have hu:=hr.u1;show Run _ _ _ [some<|.ref R,none,none,none,none,none] H;refine aW 1 nd<|D6 λdm qA=>?_;refine aW 2 nd<|YW λdO yT=>?_;show Run _ _ _ [some<|.ref R,some<|.ref dm,some<|.ref dO,none,none,none] (upd (upd H dm<|.dK []) dO<|.dT []);have vA:dO≠dm:=λe=>by rw[e,aw]at yT;cases yT
 have qB:H dO=none:=by rw[ax vA]at yT;exact yT
 have em:(upd (upd H dm<|.dK []) dO<|.dT []) dm=some (.dK []):=by rw[ax<|CK vA,aw]
 have eo:(upd (upd H dm<|.dK []) dO<|.dT []) dO=some (.dT []):=aw;have s0:ah H (upd (upd H dm<|.dK []) dO<|.dT []):=λb o h=>by rw[ax<|bq h qB,ax<|bq h qA];exact h
 generalize upd (upd H dm<|.dK []) dO (.dT [])=H1 at em eo s0 ⊢;refine ia<|ae 0 ⟨R,rfl,⟨_,ak.of<|s0 _ _ hR.lst⟩,ib (xs:=as.map λa=>V.ref a.1) (λr σ H'=>∃ kM kO u1 u2 u3,ah H H'/\H' dm=some (.dK kM)/\H' dO=some (.dT kO)/\jw n (bp<|n.take r) H' kM kO/\σ=[some<|.ref R,some<|.ref dm,some<|.ref dO,u1,u2,u3])
  ⟨[],[],_,_,_,s0,em,eo,⟨λ_ _=>rfl,λz a rest h=>(by cases h),λz a b rest h=>(by cases h),λp h=>(by cases h),Cf _,Cf _,λk h=>(by cases h),Ch⟩,rfl⟩ ?_ ?_ ?_⟩
 ·rintro r σ H' _ ⟨kM,kO,u1,u2,u3,sm,_⟩;exact ak.of<|sm _ _ hR.lst
 ·rintro r x σ H' hx ⟨kM,kO,u1,u2,u3,sm,QU,HG,I,rfl⟩;have hi:r < n.length:=by
   have:=(Ac.mp hx).1;rw[Aa]at this;omega
  obtain⟨a,ea,dY,et,el,er⟩:=(hR.same sm).at hi;rw[Aj,ea]at hx;cases hx;have gZ:(row n r).length<=1000:=Bq (gB n r) ht;have QY:nameAt n r=n[r].1:=qw hi;refine a8 3 nd ?_;refine CF (Pa rfl T.zip (ta:=ul _ _) jb) ?_;show Ea _ _ _ _ _;refine aq<|bz GE hr<|aq<|ae 3<|az ⟨a.1,a.2,n[r].1,row n r,rfl,et,el,gZ,λL ts H5 s5 n5 e5 l5 t5=>?_⟩;refine aq<|aY bK<|ae 3<|aC ⟨a.1,_,_,.ref a.2,rfl,rfl,aP.of<|s5 _ _ et,rfl,az ⟨L,a.2,rfl,⟨_,ak.of e5⟩,⟨_,ak.of<|s5 _ _ el⟩,?_⟩⟩;have yU:=s5 _ _ QU;have yV:=s5 _ _ HG;have sR:=s5 _ _ el;refine k91 (xs:=ts.map V.ref) (ys:=(row n r).map V.str) (by rw[Aa,Aa,l5]) (λp σ' bT=>∃ kM kO u2 u3,(∀ b o,b≠dm->b≠dO->H5 b=some o->bT b=some o)/\bT dm=some (.dK kM)/\bT dO=some (.dT kO)/\jw n (bp (n.take r)++bu r ((row n r).take p) 0) bT kM kO/\σ'=[some<|.ref R,some<|.ref dm,some<|.ref dO,some<|.ref a.1,u2,u3])
   ⟨kM,kO,_,_,λb o _ _ h=>h,yU,yV,?_,rfl⟩ ?_ ?_ ?_
  ·have:bu r ((row n r).take 0) 0=[]:=by simp[bu]
   rw[this,Bh];exact I.keep λt p j h=>s5 _ _ h
  ·rintro p σ' bT _ ⟨kM,kO,u2,u3,kb,_,_,_,rfl⟩;exact⟨ak.of (kb _ _ (ce e5 yU λz=>nomatch z) (ce e5 yV λz=>nomatch z) e5),ak.of<|kb _ _ (ce sR yU λz=>nomatch z) (ce sR yV λz=>nomatch z) sR⟩
  ·rintro p x y Tt σ' bT hx hy ⟨kM,kO,u2,u3,kb,yW,yX,I6,rfl⟩ jx;rw[Aj,Az]at hx hy;obtain⟨te,ou,rfl⟩:=hx;obtain⟨z,hz,rfl⟩:=hy;have mJ:=t5 p te ou;have vB:bT te=some (Tn n[r].1 p):=kb _ _ (QR mJ yU) (lD mJ yV) mJ;have mK:aK n (r,p)=some z:=hz;obtain⟨rest,dQ⟩:=vx hi hz;have hlen:(bp (n.take r)++bu r ((row n r).take p) 0).length < 1000:=by
    have h1:(bp n).length=(ag n).length:=by
     have:=BZ List.length<|ll n 0;rw[Aa]at this;exact this
    have h2:=BZ List.length dQ;rw[Ad,Ar]at h2;omega
   have iS:bp (n.take r)++bu r ((row n r).take<|p+1) 0=(bp (n.take r)++bu r ((row n r).take p) 0)++[(z,(r,p))]:=by
    rw[pS hz,At]
   have kJ:∀ b,b∈bJ (bp (n.take r)++bu r ((row n r).take p) 0) z->b≠(r,p):=λb hb e=>by
    have hm:=vy hb;have qj:=rW n;unfold ends at qj;rw[dQ,Ag,Bj]at qj;exact(Bt.mp qj).2.2 _ (Ap.mpr ⟨_,hm,rfl⟩) _ Af e
   have vC:(bJ (bp (n.take r)++bu r ((row n r).take p) 0) z).length<=1:=by
    have h1:(pos n z).length=2:=by rw[pP];exact hT z<|dG mK
    have h2:pos n z=bJ (bp (n.take r)++bu r ((row n r).take p) 0) z++bJ ((z,(r,p)) :: rest) z:=by
     show bJ (bp n) z=_;rw[dQ];unfold bJ;rw[Cu,Ag]
    have h3:1<=(bJ ((z,(r,p)) :: rest) z).length:=by
     unfold bJ;rw[Dg,BL<|by simp];simp
    rw[h2,Ad]at h1;omega
   generalize bp (n.take r)++bu r ((row n r).take p) 0=done at I6 hlen iS kJ vC;rw[iS];have hTm:Tt≠dm:=λe=>by rw[e,yW]at jx;cases jx
   have hTo:Tt≠dO:=λe=>by rw[e,yX]at jx;cases jx
   have s7:=aH jx<|.tup [.ref te,.str z];have HH:∀ b o,b≠dm->b≠dO->H5 b=some o->(upd bT Tt<|.tup [.ref te,.str z]) b=some o:=λb o h1 h2 h=>s7 _ _<|kb b o h1 h2 h;have sS:=s7 _ _ yW;have sU:=s7 _ _ yX;have I7:=I6.keep (H':=upd bT Tt<|.tup [.ref te,.str z]) λt p j h=>s7 _ _ h;have mO:=s7 _ _ vB;refine jq rfl (aP.of aw) (a8 4 nd<|a8 5 nd ?_);show Run _ _ _ [some<|.ref R,some<|.ref dm,some<|.ref dO,some<|.ref a.1,some<|.ref te,some<|.str z] _;generalize upd bT Tt (.tup [.ref te,.str z])=H7 at HH sS sU I7 mO;have qC:H7 te=some (TN n (r,p)):=by
    show H7 te=some (Tn (nameAt n r) p);rw[QY];exact mO
   have hM:kM.length < sizeLine:=bS (by have:=I7.dM;omega);have hO:kO.length < sizeLine:=bS (by have:=I7.fK;omega);refine hV<|OA hu<|ae 5<|ae 1 ⟨dm,_,rfl,bE.k (k:=Sum.inr z) sS,?_⟩
   match jR:bJ done z with
   | []=>
    rw[I7.m0 z jR];show if false=true then _ else _;rw[BK Ax];refine xW hu<|ae 4<|ae 1<|ae 5 ⟨dm,_,rfl,cw.k (k:=Sum.inr z) sS hM,bb<|bb ⟨_,kO,_,_,λb o h1 h2 h=>?_,aw,?_,?_,rfl⟩⟩
    ·rw[ax h1];exact HH b o h1 h2 h
    ·rw[ax vA];exact sU
    ·exact(I7.new qC mK jR).keep λt p j h=>by rw[ax<|QR h sS];exact h
   | b :: more=>
    have vD:more=[]:=by
     rw[jR,Ar]at vC;exact Bd.mp<|by omega
    subst vD;obtain⟨tm,vm,HI⟩:=I7.m1 z b [] jR;rw[vm];show if true=true then _ else _;rw[BL rfl];have jZ:b≠(r,p):=kJ b (by rw[jR];exact Ae.mpr rfl);refine xW hu (jm hu<|ae 1<|ae 5 ⟨dm,.ref tm,rfl,by rw[<- vm];exact bE.k (k:=Sum.inr z) sS,ae 2<|ae 4 ⟨dO,_,rfl,cw.t (k:=key n (r,p)) sU qC hO,?_⟩⟩);have hO2:=iE kO (key n (r,p))<|.ref tm;have hO3:=I7.fK;have Q0:(upd H7 dO<|.dT<|putK kO (key n (r,p))<|.ref tm) dm=some (.dK kM):=by rw[ax<|CK vA];exact sS
    have HK:(upd H7 dO<|.dT<|putK kO (key n (r,p))<|.ref tm) tm=some (TN n b):=by rw[ax<|lD HI sU];exact HI
    refine xW hu<|ae 4<|ae 2<|jm hu<|ae 1<|ae 5 ⟨dm,.ref tm,rfl,by rw[<- vm];exact bE.k (k:=Sum.inr z) Q0,dO,_,rfl,cw.t (k:=key n b) aw HK (bS<|by omega),bb<|bb ⟨kM,_,_,_,λb o h1 h2 h=>?_,?_,aw,?_,rfl⟩⟩
    ·rw[ax h2,ax h2];exact HH b o h1 h2 h
    ·rw[ax<|CK vA];exact Q0
    ·exact(I7.old hN qC HI mK jR jZ).keep λt p j h=>by rw[ax<|lD h sU,ax<|lD h sU];exact h
  ·rintro σ' bT ⟨kM,kO,u2,u3,kb,yW,yX,I6,rfl⟩;refine bb ⟨kM,kO,_,_,_,λb o h=>?_,yW,yX,?_,rfl⟩
   ·exact kb b o (bq h qA) (bq h qB)<|s5 _ _<|sm _ _ h
   ·rw[Aa,l5,Br]at I6;rw[rY hi];exact I6
 ·rintro σ H' ⟨kM,kO,u1,u2,u3,sm,QU,HG,I,rfl⟩;rw[Aa,bF,Br]at I;have lO:=I.fK;have ls:(bp n).length=(ag n).length:=by rw[<- ll n 0,Aa];rfl
  exact bN<|ae 2<|q dO kO H' sm qB HG (λe he=>I.whole hT he) I.nd (λk hk=>let ⟨p,hp,e⟩:=I.ks k hk;⟨p.2,Ap.mpr ⟨p,hp,rfl⟩,e⟩)<|by omega
end
def mP(n:Net)(H:Hp)(us:List Addr)(done:List<|Str×Nt.End):Prop:=us.length=done.length/\∀(j:Nat) u p,us[j]?=some u->done[j]?=some p->H u=some (TN n p.2)
def mP.keep{n:Net}{H H':Hp}{us:List Addr}{done:List (Str×Nt.End)}(h:mP n H us done)(k:∀ t p j,H t=some (Tn p j)->H' t=some (Tn p j)):mP n H' us done:=⟨h.1,λj u p h1 h2=>k _ _ _<|h.2 j u p h1 h2⟩
def mP.snoc{n:Net}{H H':Hp}{us:List Addr}{done:List (Str×Nt.End)}{u:Addr}{p:Str×Nt.End}(h:mP n H us done)(k:∀ t p j,H t=some (Tn p j)->H' t=some (Tn p j))(hu:H' u=some (TN n p.2)):mP n H' (us++[u]) (done++[p]):=by
 obtain⟨hl,ha⟩:=h;refine⟨by rw[Ad,Ad,hl];rfl,λj v x hv hx=>?_⟩
 by_cases hj:j < us.length
 ·rw[An hj]at hv;rw[An<|by omega]at hx;exact k _ _ _<|ha j v x hv hx
 ·rw[Am<|by omega]at hv hx;have eV:j - us.length=0:=by
   have:=(Ac.mp hv).1;simp at this;omega
  have hj3:j - done.length=0:=by omega
  rw[eV]at hv;rw[hj3]at hx;cases hv;cases hx;exact hu
section
variable{X:Cx}{tg:Expr}{ifs:Ô}{inner:Sem Unit}{σ:St}{H:Hp}{a b:Addr}{xs ys:List V}{after:St->Hp->Prop}
def vE(Pv:Nat->St->Hp->Prop)(h0:Pv 0 σ H)(hl:∀ i σ' H',i<=xs.length->Pv i σ' H'->ak X.K H' a xs)
  (hs:∀ i x σ' H',xs[i]?=some x->Pv i σ' H'->Eg X tg x σ' H' λσ2 H3=>Ei X ifs σ2 H3 λb H4=>if b=true then k8 X inner σ2 H4 (Pv<|i+1)else Pv (i+1) σ2 H4)
  (hd:∀ σ' H',Pv xs.length σ' H'->after σ' H'):ic X tg ifs inner (ng X.K a) after σ H:=by
 refine⟨λi m σ' H'=>m=xs.length - i/\i<=xs.length/\Pv i σ' H',⟨_,rfl,Cf _,h0⟩,?_⟩;rintro i m σ' H' ⟨rfl,hi,p⟩;have q:=hl i σ' H' hi p
 by_cases bd:i < xs.length
 ·refine .inr ⟨⟨xs,xs[i],q,by simp[bd]⟩,Pv<|i+1,λσ' H' p'=>⟨xs.length - (i+1),by omega,rfl,bd,p'⟩,λx H2 y=>?_⟩;obtain⟨e,y⟩:=y;subst e;exact hs i x σ' _ (y xs q) p
 ·have e:i=xs.length:=by omega
  subst e;exact .inl ⟨⟨xs,q,Ao _⟩,hd σ' H' p⟩
def k2a(hlen:xs.length=ys.length)(Pv:Nat->St->Hp->Prop)(h0:Pv 0 σ H)(hl:∀ i σ' H',i<=xs.length->Pv i σ' H'->ak X.K H' a xs/\ak X.K H' b ys)
  (hs:∀ i x y T σ' H',xs[i]?=some x->ys[i]?=some y->Pv i σ' H'->H' T=none->Eg X tg (.ref T) σ' (upd H' T<|.tup [x,y]) λσ2 H3=>Ei X ifs σ2 H3 λb H4=>if b=true then k8 X inner σ2 H4 (Pv<|i+1)else Pv (i+1) σ2 H4)
  (hd:∀ σ' H',Pv xs.length σ' H'->after σ' H'):ic X tg ifs inner (yr X.K a b) after σ H:=by
 refine⟨λi m σ' H'=>m=xs.length - i/\i<=xs.length/\Pv i σ' H',⟨_,rfl,Cf _,h0⟩,?_⟩;rintro i m σ' H' ⟨rfl,hi,p⟩;obtain⟨q1,q2⟩:=hl i σ' H' hi p
 by_cases bd:i < xs.length
 ·refine .inr ⟨⟨xs,ys,xs[i],ys[i],q1,q2,Ab bd,Ab<|by omega⟩,Pv<|i+1,λσ' H' p'=>⟨xs.length - (i+1),by omega,rfl,bd,p'⟩,λv H2 y=>?_⟩;obtain⟨T,x,y,hT,rfl,rfl,y1,y2⟩:=y;exact hs i x y T σ' _ (y1 xs q1) (y2 ys q2) p hT
 ·have e:i=xs.length:=by omega
  subst e;exact .inl ⟨⟨xs,ys,q1,q2,.inl<|Ao _⟩,hd σ' H' p⟩
end
def HL:Sp:=λvs H Q _=>∃(R:Addr) (as:Ï) (n:Net),vs=[.ref R]/\ai H R as n/\n.length<=1000/\(ag n).length<=1000 /\
 ∀(L:Addr) (ts:List Addr) (H':Hp),ah H H'->H L=none->H' L=some (.lst<|ts.map V.ref)->mP n H' ts (bp n)->Q (.ref L) H'
section
variable{P:Program}{w:World}{K:PySem.W.Frag}{mg:Ò}{base:Heap}
abbrev Q1:Ñ:=["rows"]
abbrev Q2:Ñ:=["rows","row","end"]
def iU:ao Q1 ["rows"] (aT yd):=⟨rfl,rfl,rfl,by decide +kernel,rfl,by decide +kernel,by decide +kernel⟩
def Q3:Q2.Nodup:=by decide +kernel
def q1h{f:Addr}{fd:FuncData}(F:bv K "ends_in_order" "ends_in_order" yd f fd)(T:Txt mg)
  (GE:aS P w K mg base 1 "ends_round" ["row"] vw) :
  aE P w K mg base bD 2 f fd ["rows"] HL:=by
 refine F.gb iU (λvs H Q E h=>?_) λb0 H vs Q E hr h=>?_
 ·obtain⟨R,as,n,rfl,_⟩:=h;rfl
 obtain⟨R,as,n,rfl,hR,hn,ht,q⟩:=h;have nd:=iU.nd;have bF:=hR.len;show Run _ _ _ [some<|.ref R] H;refine bN<|Z5 (aT yd) Q1 Q2 2 (dD bx)<|ae 0 ⟨R,rfl,⟨_,ak.of hR.lst⟩,λD hD cl C s₀ H₀ ex=>?_⟩;refine vE (xs:=as.map λa=>V.ref a.1) (λr σ' H'=>(∃ v1 v2,σ'=[some<|.ref R]++[v1,v2])/\∃ ts:List Addr,ah H H'/\H' D=some (.lst<|ts.map V.ref)/\mP n H' ts (bp<|n.take r)) ⟨⟨none,none,rfl⟩,[],aH hD _,aw,⟨rfl,λj u p h=>(by cases h)⟩⟩ ?_ ?_ ?_
 ·rintro r σ' H' _ ⟨_,ts,sm,_⟩;exact ak.of<|sm _ _ hR.lst
 ·rintro r x σ' H' hx ⟨⟨v1,v2,rfl⟩,ts,sm,eD,AN⟩;have hi:r < n.length:=by
   have:=(Ac.mp hx).1;rw[Aa]at this;omega
  obtain⟨a,ea,dY,et,el,er⟩:=(hR.same sm).at hi;rw[Aj,ea]at hx;cases hx;have gZ:(row n r).length<=1000:=Bq (gB n r) ht;refine a8 1 Q3 ?_;refine iF ?_;rw[BL rfl];refine Z4 rfl rfl (dD bx) (bz GE hr<|aq<|ae 1<|az ⟨a.1,a.2,n[r].1,row n r,rfl,et,el,gZ,λL us H5 s5 n5 e5 l5 t5=>⟨L,rfl,⟨_,ak.of e5⟩,?_⟩⟩);have HM:L≠D:=λe=>by rw[e,eD]at n5;cases n5
  refine vE (xs:=us.map V.ref) (λp σ' bT=>(∃ v2,σ'=[some<|.ref R]++[some<|.ref a.1,v2])/\∃ ts:List Addr,(∀ b o,b≠D->H5 b=some o->bT b=some o)/\bT D=some (.lst<|ts.map V.ref)/\mP n bT ts (bp (n.take r)++bu r ((row n r).take p) 0))
   ⟨⟨_,rfl⟩,ts,λb o _ h=>h,s5 _ _ eD,by simpa[bu]using AN.keep (H':=H5) λt p j h=>s5 _ _ h⟩ ?_ ?_ ?_
  ·rintro p σ' bT _ ⟨_,ts,kb,_⟩;exact ak.of<|kb _ _ HM e5
  ·rintro p x σ' bT hx ⟨⟨v2,rfl⟩,ts,kb,ix,vF⟩;rw[Aj,Az]at hx;obtain⟨te,ou,rfl⟩:=hx;have hp:p < (row n r).length:=by have:=(Ac.mp ou).1;omega
   have hz:(row n r)[p]?=some (row n r)[p]:=Ab hp;generalize (row n r)[p]=z at hz;have mJ:=t5 p te ou;have yY:te≠D:=ce mJ (s5 _ _ eD) λz=>nomatch z;have vB:=kb _ _ yY mJ;obtain⟨rest,dQ⟩:=vx hi hz;have hlen:ts.length < 1000:=by
    have h1:(bp n).length=(ag n).length:=by
     have:=BZ List.length<|ll n 0;rw[Aa]at this;exact this
    have h2:=BZ List.length dQ;rw[Ad,Ar]at h2;have:=vF.1;omega
   refine a8 2 Q3 ?_;refine iF ?_;rw[BL rfl];refine Nx (ae 2 ⟨ts.map V.ref,ix,by rw[Aa];exact bS (by omega),⟨_,rfl⟩,ts++[te],λb o hb h=>by rw[ax hb];exact kb b o hb h,by rw[aw,Ag];rfl,?_⟩);rw[pS hz,<- At];refine vF.snoc (λt p j h=>by rw[ax<|ce h ix λz=>nomatch z];exact h) ?_;rw[ax yY];show bT te=some (Tn (nameAt n r) p);rw[qw hi];exact vB
  ·rintro σ' bT ⟨⟨v2,rfl⟩,ts,kb,ix,vF⟩;refine⟨⟨_,_,rfl⟩,ts,λb o h=>kb b o (bq h hD)<|s5 _ _<|sm _ _ h,ix,?_⟩;rw[Aa,l5,Br,<- rY hi]at vF;exact vF
 ·rintro σ' H' ⟨_,ts,sm,eD,AN⟩;rw[Aa,bF,Br]at AN;exact q D ts H' sm hD eD AN
end
section
variable{X:Cx}{H:Hp}
def q4i{k:Nat}(z:Str):nJ X H k (.str z) (.str z) true:=by
 have:=uF (X:=X) (H:=H) (k:=k) (x:= .str z) (y:= .str z) rfl rfl;have e:cK (.str z) (.str z)=true:=by show(z == z)=true;simp
 rw[e]at this;exact this
theorem q9u{p p':Str}{j j':Int}:∀(i:Nat) (u v:V),[V.str p,.int j][i]?=some u->[V.str p',.int j'][i]?=some v->nJ X H 0 u v (if i=0 then cK (.str p) (.str p')else cK (.int j) (.int j'))
 | 0,u,v,h1,h2=>by
  cases h1;cases h2;exact uF rfl rfl
 | 1,u,v,h1,h2=>by
  cases h1;cases h2;exact uF rfl rfl
 | i+2,u,v,h1,h2=>by simp at h1
def q8e(p p':Str)(j j':Int):(cK (.str p) (.str p') && cK (.int j) (.int j'))=decide (p=p'/\j=j'):=by
 show((p == p') && (j == j'))=_
 by_cases h:p=p' <;> by_cases h2:j=j' <;> simp[h,h2]
def q7t{s t:Addr}{p p':Str}{j j':Int}(hs:H s=some (Tn p j))(ht:H t=some (Tn p' j')):pM X H 1 (.ref s) (.ref t) (decide (p=p'/\j=j')):=by
 have:=Ox (X:=X) (k:=0) (λi=>if i=0 then cK (.str p) (.str p')else cK (.int j) (.int j')) (aP.of hs) (aP.of ht) rfl q9u;rw[show([V.str p,.int j].length)=2 from rfl,all2]at this;have e:=q8e p p' j j';simp only[DP]at this;rw[BK (by decide),e]at this;exact this
end
def q2m{X:Cx}{H:Hp}{a b:Addr}{zs:Ñ}(ha:H a=some (Ls zs))(hb:H b=some (Ls zs)):pM X H 1 (.ref a) (.ref b) true:=by
 have q:=rS (X:=X) (k:=0) (λ_=>true) (ak.of (K:=X.K) ha) (ak.of (K:=X.K) hb) rfl λj x y hx hy=>by
  rw[hx]at hy;cases hy;rw[Aj,Az]at hx;obtain⟨z,_,rfl⟩:=hx;exact q4i z
 rw[YM]at q;exact q
def mQ:Sp:=λvs H Q _=>∃(R:Addr) (as:Ï) (n:Net),vs=[.ref R]/\ai H R as n/\(n.map (·.1)).Nodup/\n.length<=1000/\(ag n).length<=1000 /\
 ∀(d:Addr) (kvs:List<|List Key×V) (H':Hp),ah H H'->H d=none->H' d=some (.dT kvs)->(∀ e z,aK n e=some z->aJ kvs (key n e)=some (.str z))->Q (.ref d) H'
section
variable{P:Program}{w:World}{K:PySem.W.Frag}{mg:Ò}{base:Heap}
abbrev Q4:Ñ:=["rows"]
abbrev Q5:Ñ:=["rows","row","end","tie"]
def HP:ao Q4 ["rows"] (aT ye):=⟨rfl,rfl,rfl,by decide +kernel,rfl,by decide +kernel,by decide +kernel⟩
def HQ:Q5.Nodup:=by decide +kernel
def x02{f:Addr}{fd:FuncData}(F:bv K "ties_by_end" "ties_by_end" ye f fd)(T:Txt mg)
  (GE:aS P w K mg base 1 "ends_round" ["row"] vw) :
  aE P w K mg base bD 2 f fd ["rows"] mQ:=by
 refine F.gb HP (λvs H Q E h=>?_) λb0 H vs Q E hr h=>?_
 ·obtain⟨R,as,n,rfl,_⟩:=h;rfl
 obtain⟨R,as,n,rfl,hR,hN,hn,ht,q⟩:=h;have bF:=hR.len;have hu:=hr.u1;show Run _ _ _ [some<|.ref R] H;refine bN<|k5o (aT ye) Q4 Q5 3 (dD bx)<|ae 0 ⟨R,rfl,⟨_,ak.of hR.lst⟩,λD hD cl C s₀ H₀ ex=>?_⟩;refine vE (xs:=as.map λa=>V.ref a.1) (λr σ' H'=>(∃ v1 v2 v3,σ'=[some<|.ref R]++[v1,v2,v3])/\∃ kvs:List<|List Key×V,ah H H'/\H' D=some (.dT kvs)/\kvs.length<=(bp<|n.take r).length/\∀ p∈bp (n.take r),aK n p.2=some p.1/\aJ kvs (key n p.2)=some (.str p.1)) ⟨⟨none,none,none,rfl⟩,[],aH hD _,aw,Cf _,λp h=>(by cases h)⟩ ?_ ?_ ?_
 ·rintro r σ' H' _ ⟨_,kvs,sm,_⟩;exact ak.of<|sm _ _ hR.lst
 ·rintro r x σ' H' hx ⟨⟨v1,v2,v3,rfl⟩,kvs,sm,eD,Q6,yZ⟩;have hi:r < n.length:=by
   have:=(Ac.mp hx).1;rw[Aa]at this;omega
  obtain⟨a,ea,dY,et,el,er⟩:=(hR.same sm).at hi;rw[Aj,ea]at hx;cases hx;have gZ:(row n r).length<=1000:=Bq (gB n r) ht;refine a8 1 HQ ?_;refine iF ?_;rw[BL rfl];refine Z' rfl rfl (Pa rfl T.zip (ta:=ul _ _) jb) ?_;show Ea _ _ _ _ _;refine aq<|bz GE hr<|aq<|ae 1<|az ⟨a.1,a.2,n[r].1,row n r,rfl,et,el,gZ,λL us H5 s5 n5 e5 l5 t5=>?_⟩;refine aq<|aY bK<|ae 1<|aC ⟨a.1,_,_,.ref a.2,rfl,rfl,aP.of<|s5 _ _ et,rfl,az ⟨L,a.2,rfl,⟨_,ak.of e5⟩,⟨_,ak.of<|s5 _ _ el⟩,?_⟩⟩;have lE:=s5 _ _ eD;have sR:=s5 _ _ el;refine k2a (xs:=us.map V.ref) (ys:=(row n r).map V.str) (by rw[Aa,Aa,l5]) (λp σ' bT=>(∃ v2 v3,σ'=[some<|.ref R]++[some<|.ref a.1,v2,v3])/\∃ kvs:List<|List Key×V,(∀ b o,b≠D->H5 b=some o->bT b=some o)/\bT D=some (.dT kvs)/\kvs.length<=(bp (n.take r)++bu r ((row n r).take p) 0).length/\∀ x∈bp (n.take r)++bu r ((row n r).take p) 0,aK n x.2=some x.1/\aJ kvs (key n x.2)=some (.str x.1))
   ⟨⟨_,_,rfl⟩,kvs,λb o _ h=>h,lE,by simpa[bu]using Q6,by simpa[bu]using yZ⟩ ?_ ?_ ?_
  ·rintro p σ' bT _ ⟨_,kvs,kb,_⟩;exact⟨ak.of (kb _ _ (ce e5 lE λz=>nomatch z) e5),ak.of<|kb _ _ (ce sR lE λz=>nomatch z) sR⟩
  ·rintro p x y Tt σ' bT hx hy ⟨⟨v2,v3,rfl⟩,kvs,kb,ix,qD,mR⟩ jx;rw[Aj,Az]at hx hy;obtain⟨te,ou,rfl⟩:=hx;obtain⟨z,hz,rfl⟩:=hy;have mJ:=t5 p te ou;have yY:te≠D:=ce mJ lE λz=>nomatch z;have vB:=kb _ _ yY mJ;have mK:aK n (r,p)=some z:=hz;obtain⟨rest,dQ⟩:=vx hi hz;have hlen:(bp (n.take r)++bu r ((row n r).take p) 0).length < 1000:=by
    have h1:(bp n).length=(ag n).length:=by
     have:=BZ List.length<|ll n 0;rw[Aa]at this;exact this
    have h2:=BZ List.length dQ;rw[Ad,Ar]at h2;omega
   have nTD:Tt≠D:=λe=>by rw[e,ix]at jx;cases jx
   have s7:=aH jx<|.tup [.ref te,.str z];refine jq rfl (aP.of aw) (a8 2 HQ<|a8 3 HQ ?_);refine iF ?_;rw[BL rfl];have mO:(upd bT Tt<|.tup [.ref te,.str z]) te=some (.tup<|(key n (r,p)).map kV):=by
    rw[s7 _ _ vB];show some (Tn n[r].1 (p:Int))=some (Tn (nameAt n r) (p:Int));rw[qw hi]
   refine FX hu<|ae 2<|ae 3 ⟨_,cw.t (k:=key n (r,p)) (s7 _ _ ix) mO (bS<|by omega),⟨_,_,rfl⟩,_,λb o hb h=>?_,aw,?_,?_⟩
   ·rw[ax hb];exact s7 _ _<|kb b o hb h
   ·rw[pS hz,<- At,Ad];have:=iE kvs (key n (r,p))<|.str z;show _<=_+1;omega
   ·rw[pS hz,<- At];intro x hx
    rcases Al.mp hx with h | h
    ·obtain⟨q1,q2⟩:=mR x h;refine⟨q1,?_⟩;rw[fb]
     by_cases hk:key n x.2=key n (r,p)
     ·rw[BL hk];have:=qz hN (cz q1) (cz mK) hk;rw[this,mK]at q1;rw[Option.some.inj q1]
     ·rw[BK hk];exact q2
    ·rw[Ae.mp h];exact⟨mK,by rw[fb,BL rfl]⟩
  ·rintro σ' bT ⟨⟨v2,v3,rfl⟩,kvs,kb,ix,qD,mR⟩;rw[Aa,l5,Br,<- rY hi]at qD mR;exact⟨⟨_,_,_,rfl⟩,kvs,λb o h=>kb b o (bq h hD)<|s5 _ _<|sm _ _ h,ix,qD,mR⟩
 ·rintro σ' H' ⟨_,kvs,sm,eD,Q6,yZ⟩;rw[Aa,bF,Br]at yZ;exact q D kvs H' sm hD eD λe z he=>(yZ (z,e)<|aV.mpr he).2
def HU(K:PySem.W.Frag):PySem.W.kitOne K (.type "tuple") (.type "tuple")=some true:=by rfl
theorem HV{κ:Type} [DecidableEq κ]:∀{kvs:List (κ×V)} {i:Nat} {p:κ×V},(kvs.map (·.1)).Nodup->kvs[i]?=some p->aJ kvs p.1=some p.2
 | [],_,_,_,h=>by simp at h
 | q :: r,0,p,_,h=>by
  cases h;exact i7 rfl
 | q :: r,i+1,p,hn,h=>by
  rw[Bj,Bf]at hn;have hm:r[i]?=some p:=by simpa using h
  rw[i8 λe=>hn.1<|by rw[e];exact Ap.mpr ⟨p,As hm,rfl⟩];exact HV hn.2 hm
def Q7{κ:Type}{l:List κ}(h:l.Nodup){i j:Nat}{a:κ}(hi:l[i]?=some a)(hj:l[j]?=some a):i=j:=by
 have h1:=(Ac.mp hi).1;have h2:=(Ac.mp hj).1;have e1:=(Ac.mp hi).2;have e2:=(Ac.mp hj).2
 rcases QS i j with c | c | c
 ·exact absurd (e1.trans e2.symm)<|Bu.mp h i j h1 h2 c
 ·exact c
 ·exact absurd (e2.trans e1.symm)<|Bu.mp h j i h2 h1 c
def jy(c:Int):Sp:=λvs H Q _=>∃(R:Addr) (as:Ï) (n:Net),vs=[.ref R]/\ai H R as n/\(n.map (·.1)).Nodup/\av n/\n.length<=1000/\(ag n).length<=1000 /\
 ∀(d:Addr) (kvs:List<|List Key×V) (H':Hp),ah H H'->H d=none->H' d=some (.dT kvs)->(∀ e∈ends n,∃ u,aJ kvs (key n e)=some (.ref u)/\H' u=some (TN n<|go c n e))->Q (.ref d) H'
abbrev mS:Ñ:=["rows","lists"]
abbrev qF:Ñ:=["rows","lists","end","other"]
def y4:qF.Nodup:=by decide +kernel
def vG:ao mS ["rows"] (aT yf):=⟨rfl,rfl,rfl,by decide +kernel,rfl,by decide +kernel,by decide +kernel⟩
def x0c{f:Addr}{fd:FuncData}(F:bv K "left_steps" "left_steps" yf f fd)(T:Txt mg)
  (GO:aS P w K mg base 2 "other_ends" ["rows"] mI)
  (GT:aS P w K mg base 2 "turned_left" ["end","many"]<|jv λj=>j+1) :
  aE P w K mg base bD 3 f fd ["rows"] (jy<|1):=by
 refine F.gb vG (λvs H Q E h=>?_) λb0 H vs Q E hr h=>?_
 ·obtain⟨R,as,n,rfl,_⟩:=h;rfl
 obtain⟨R,as,n,rfl,hR,hN,hT,hn,ht,q⟩:=h;have nd:=vG.nd;have bF:=hR.len;have hu:=hr.u1;show Run _ _ _ [some<|.ref R,none] H;have keys:=HE n as bF;have knd:((dg n as).map (·.1)).Nodup:=by rw[keys];exact QO hN
 have qG:(dg n as).length=n.length:=by have:=BZ List.length keys;simpa using this
 refine aW 1 nd (nr (O7 rfl) T.nQ SX (aq (ae 0 (az ⟨R,as.map (·.1),dg n as,rfl,?_,?_,?_,?_,λdl iH=>?_⟩))))
 ·rw[Cn];exact hR.lst
 ·rw[Aa,qG,bF]
 ·rw[Aa];exact bS<|by omega
 ·intro j t kv h1 h2;rw[Aj,Az]at h1;obtain⟨a,ea,rfl⟩:=h1;have hj:j < n.length:=by have:=(Ac.mp ea).1;omega
  have e:=yS (Ab hj) ea;rw[h2]at e;cases e;exact(hR.tup j a n[j] ea<|Ab hj).1
 have ef:(dg n as).foldl (λa p=>putK a p.1 p.2) []=dg n as:=by
  rw[QN (acc:=[]) (by rw[Ff];exact knd),Ff]
 rw[ef];have s1:=aH iH<|.dK<|dg n as;have el:(upd H dl<|.dK<|dg n as) dl=some (.dK<|dg n as):=aw;generalize upd H dl (.dK<|dg n as)=H1 at s1 el;show Run _ _ _ [some<|.ref R,some<|.ref dl] H1;refine bN<|Pb (aT yf) mS qF 2 (Pk bx) ?_;refine bz GO hr<|aq<|ae 0<|az ⟨R,as,n,rfl,hR.same s1,hN,hT,hn,ht,λd kvs H2 s2 nY ed val kK HZ vH=>?_⟩;refine⟨d,kvs,rfl,ed,λo D hD cl C s₀ H₀ ex=>?_⟩;have Ia:D≠d:=λe=>by rw[e,aw]at hD;cases hD
 have jz:H2 D=none:=by rw[ax Ia]at hD;exact hD
 have Ib:H d=none:=iT s1 nY;have sB:ah H (upd H2 d<|.b7 o<|.dT kvs):=dX (s1.trans s2) Ib;have kB:∀ b o',b≠d->H2 b=some o'->(upd H2 d<|.b7 o<|.dT kvs) b=some o':=λb o' hb h=>by rw[ax hb];exact h
 have tB:∀ b p j,H2 b=some (Tn p j)->(upd H2 d<|.b7 o<|.dT kvs) b=some (Tn p j):=λb p j h=>kB b _ (lD h ed) h;have vI:(upd H2 d<|.b7 o<|.dT kvs) d=some (.b7 o<|.dT kvs):=aw;have vJ:(upd H2 d<|.b7 o<|.dT kvs) dl=some (.dK<|dg n as):=kB _ _ (λe=>by rw[e,nY]at el;cases el)<|s2 _ _ el;have Ic:=hR.same sB;generalize upd H2 d (.b7 o<|.dT kvs)=HB at hD sB tB vI vJ Ic;have oz:=iT sB hD;refine Pn (λi σ' H'=>(∃ v1 v2,σ'=[some<|.ref R,some<|.ref dl]++[v1,v2])/\∃ iy:List<|List Key×V,H' D=some (.dT iy)/\iy.length<=i/\ah HB H' /\
  (∀ j k x e,j < i->kvs[j]?=some (k,x)->e∈ends n->k=key n e->∃ u,aJ iy (key n e)=some (.ref u)/\H' u=some (TN n<|go (1) n e)))
  ⟨⟨none,none,rfl⟩,[],aw,Ao _,aH hD _,λj k x e h=>absurd h<|Ee _⟩ ?_ ?_ ?_
 ·rintro i σ' H' _ ⟨_,_,_,_,sm,_⟩;exact sm _ _ vI
 ·rintro i k x b Tt σ' H' hx ⟨⟨v1,v2,rfl⟩,iy,eD,l2,sm,all⟩ hb jx;have hi:i < kvs.length:=(Ac.mp hx).1;obtain⟨e,he,rfl⟩:=HZ k<|Ap.mpr ⟨_,As hx,rfl⟩;obtain⟨u,hv,uP⟩:=val e he;have vK:aJ kvs (key n e)=some x:=HV kK hx;rw[hv]at vK;cases vK;have pG:=cX hT he;obtain⟨zo,vL⟩:=af.mp pG;have gZ:=cz vL;have sK:=f9 vL;have Ie:nameAt n (other n e).1=n[(other n e).1].1:=qw gZ;have sT:=aH jx<|.tup [.ref b,.ref u];have vM:=sT _ _<|sm _ _<|tB _ _ _ uP;refine jq rfl (aP.of aw) (a8 2 y4<|a8 3 y4 ?_);refine iF ?_;rw[BL rfl];have vN:as[(other n e).1]?=some (as[(other n e).1]'(by omega)):=Ab (by omega);have oD:n[(other n e).1]?=some n[(other n e).1]:=Ab gZ;have ev:aJ (dg n as) (Sum.inr<|nameAt n (other n e).1)=some (.ref (as[(other n e).1]'(by omega)).2):=by rw[Ie];exact HC knd<|yS oD vN
  have qH:=(hR.tup _ _ _ vN oD).2;have kL:row n (other n e).1=n[(other n e).1].2:=ko gZ;refine FX hu<|ae 2<|bz GT hr<|aq<|ae 3<|aq<|cF dR T.len DX<|aq<|jm hu<|ae 1<|aY bK<|ae 3<|aC ⟨u,_,_,.str<|nameAt n (other n e).1,rfl,rfl,aP.of vM,rfl,?_⟩;refine⟨dl,.ref (as[(other n e).1]'(by omega)).2,rfl,by rw[<- ev];exact bE.k (k:=Sum.inr<|nameAt n (other n e).1)<|sT _ _<|sm _ _ vJ,az ⟨_,_,rfl,.inl<|ak.of<|sT _ _<|sm _ _<|sB _ _ qH,az ⟨u,_,_,_,rfl,vM,?_,λt2 H4 s4 ql=>?_⟩⟩⟩
  ·rw[Aa,<- kL];omega
  rw[Aa,<- kL]at ql;have qI:H4 t2=some (TN n<|go (1) n e):=by
   rw[ql];have:=sv (c:=1) pG;show some (Tn _ _)=some (Tn _ (((go (1) n e).2:Nat):Int));unfold go;rw[this];rfl
  have qu:=s4 _ _<|sT _ _ hb;refine⟨_,cw.t (k:=key n e) (s4 _ _<|sT _ _ eD) qu (bS<|by omega),⟨_,_,rfl⟩,_,aw,?_,dX ((sm.trans sT).trans s4) hD,λj k' x' e' hj gk pH lY=>?_⟩
  ·have:=iE iy (key n e)<|.ref t2;omega
  ·subst lY
   by_cases qv:j=i
   ·subst qv;rw[hx]at gk;have Ig:key n e=key n e':=BZ Prod.fst<|Option.some.inj gk;obtain⟨z1,si⟩:=af.mp he;obtain⟨z2,sj⟩:=af.mp pH;have:=qz hN (cz si) (cz sj) Ig;subst this;exact⟨t2,by rw[fb,BL rfl],by rw[ax<|lD qI<|s4 _ _<|sT _ _ eD];exact qI⟩
   ·obtain⟨u3,Ih,Ii⟩:=all j _ x' e' (by omega) gk pH rfl;refine⟨u3,?_,?_⟩
    ·rw[fb,BK,Ih];intro hk;have h1:(kvs.map (·.1))[j]?=some (key n e'):=by rw[Aj,gk];rfl
     have h2:(kvs.map (·.1))[i]?=some (key n e'):=by rw[Aj,hx,hk];rfl
     exact qv<|Q7 kK h1 h2
    ·have q4:=s4 _ _<|sT _ _ Ii;rw[ax<|lD q4<|s4 _ _<|sT _ _ eD];exact q4
 ·rintro σ' H' ⟨_,iy,eD,_,sm,all⟩;refine q D iy H' (sB.trans sm) oz eD λe he=>?_;obtain⟨u,hv,_⟩:=val e he;obtain⟨i,hi⟩:∃ i:Nat,(kvs.map (·.1))[i]?=some (key n e):=Bm<|B3 hv;rw[Aj,Az]at hi;obtain⟨⟨k,x⟩,hx,hk⟩:=hi;exact all i k x e (Ac.mp hx).1 hx he hk
def vO:ao mS ["rows"] (aT yg):=⟨rfl,rfl,rfl,by decide +kernel,rfl,by decide +kernel,by decide +kernel⟩
def x0e{f:Addr}{fd:FuncData}(F:bv K "right_steps" "right_steps" yg f fd)(T:Txt mg)
  (GO:aS P w K mg base 2 "other_ends" ["rows"] mI)
  (GT:aS P w K mg base 2 "turned_right" ["end","many"]<|jv λj=>j - 1) :
  aE P w K mg base bD 3 f fd ["rows"] (jy (-1)):=by
 refine F.gb vO (λvs H Q E h=>?_) λb0 H vs Q E hr h=>?_
 ·obtain⟨R,as,n,rfl,_⟩:=h;rfl
 obtain⟨R,as,n,rfl,hR,hN,hT,hn,ht,q⟩:=h;have nd:=vO.nd;have bF:=hR.len;have hu:=hr.u1;show Run _ _ _ [some<|.ref R,none] H;have keys:=HE n as bF;have knd:((dg n as).map (·.1)).Nodup:=by rw[keys];exact QO hN
 have qG:(dg n as).length=n.length:=by have:=BZ List.length keys;simpa using this
 refine aW 1 nd (nr (O7 rfl) T.nQ SX (aq (ae 0 (az ⟨R,as.map (·.1),dg n as,rfl,?_,?_,?_,?_,λdl iH=>?_⟩))))
 ·rw[Cn];exact hR.lst
 ·rw[Aa,qG,bF]
 ·rw[Aa];exact bS<|by omega
 ·intro j t kv h1 h2;rw[Aj,Az]at h1;obtain⟨a,ea,rfl⟩:=h1;have hj:j < n.length:=by have:=(Ac.mp ea).1;omega
  have e:=yS (Ab hj) ea;rw[h2]at e;cases e;exact(hR.tup j a n[j] ea<|Ab hj).1
 have ef:(dg n as).foldl (λa p=>putK a p.1 p.2) []=dg n as:=by
  rw[QN (acc:=[]) (by rw[Ff];exact knd),Ff]
 rw[ef];have s1:=aH iH<|.dK<|dg n as;have el:(upd H dl<|.dK<|dg n as) dl=some (.dK<|dg n as):=aw;generalize upd H dl (.dK<|dg n as)=H1 at s1 el;show Run _ _ _ [some<|.ref R,some<|.ref dl] H1;refine bN<|Pb (aT yg) mS qF 2 (Pk bx) ?_;refine bz GO hr<|aq<|ae 0<|az ⟨R,as,n,rfl,hR.same s1,hN,hT,hn,ht,λd kvs H2 s2 nY ed val kK HZ vH=>?_⟩;refine⟨d,kvs,rfl,ed,λo D hD cl C s₀ H₀ ex=>?_⟩;have Ia:D≠d:=λe=>by rw[e,aw]at hD;cases hD
 have jz:H2 D=none:=by rw[ax Ia]at hD;exact hD
 have Ib:H d=none:=iT s1 nY;have sB:ah H (upd H2 d<|.b7 o<|.dT kvs):=dX (s1.trans s2) Ib;have kB:∀ b o',b≠d->H2 b=some o'->(upd H2 d<|.b7 o<|.dT kvs) b=some o':=λb o' hb h=>by rw[ax hb];exact h
 have tB:∀ b p j,H2 b=some (Tn p j)->(upd H2 d<|.b7 o<|.dT kvs) b=some (Tn p j):=λb p j h=>kB b _ (lD h ed) h;have vI:(upd H2 d<|.b7 o<|.dT kvs) d=some (.b7 o<|.dT kvs):=aw;have vJ:(upd H2 d<|.b7 o<|.dT kvs) dl=some (.dK<|dg n as):=kB _ _ (λe=>by rw[e,nY]at el;cases el)<|s2 _ _ el;have Ic:=hR.same sB;generalize upd H2 d (.b7 o<|.dT kvs)=HB at hD sB tB vI vJ Ic;have oz:=iT sB hD;refine Pn (λi σ' H'=>(∃ v1 v2,σ'=[some<|.ref R,some<|.ref dl]++[v1,v2])/\∃ iy:List<|List Key×V,H' D=some (.dT iy)/\iy.length<=i/\ah HB H' /\
  (∀ j k x e,j < i->kvs[j]?=some (k,x)->e∈ends n->k=key n e->∃ u,aJ iy (key n e)=some (.ref u)/\H' u=some (TN n<|go (-1) n e)))
  ⟨⟨none,none,rfl⟩,[],aw,Ao _,aH hD _,λj k x e h=>absurd h<|Ee _⟩ ?_ ?_ ?_
 ·rintro i σ' H' _ ⟨_,_,_,_,sm,_⟩;exact sm _ _ vI
 ·rintro i k x b Tt σ' H' hx ⟨⟨v1,v2,rfl⟩,iy,eD,l2,sm,all⟩ hb jx;have hi:i < kvs.length:=(Ac.mp hx).1;obtain⟨e,he,rfl⟩:=HZ k<|Ap.mpr ⟨_,As hx,rfl⟩;obtain⟨u,hv,uP⟩:=val e he;have vK:aJ kvs (key n e)=some x:=HV kK hx;rw[hv]at vK;cases vK;have pG:=cX hT he;obtain⟨zo,vL⟩:=af.mp pG;have gZ:=cz vL;have sK:=f9 vL;have Ie:nameAt n (other n e).1=n[(other n e).1].1:=qw gZ;have sT:=aH jx<|.tup [.ref b,.ref u];have vM:=sT _ _<|sm _ _<|tB _ _ _ uP;refine jq rfl (aP.of aw) (a8 2 y4<|a8 3 y4 ?_);refine iF ?_;rw[BL rfl];have vN:as[(other n e).1]?=some (as[(other n e).1]'(by omega)):=Ab (by omega);have oD:n[(other n e).1]?=some n[(other n e).1]:=Ab gZ;have ev:aJ (dg n as) (Sum.inr<|nameAt n (other n e).1)=some (.ref (as[(other n e).1]'(by omega)).2):=by rw[Ie];exact HC knd<|yS oD vN
  have qH:=(hR.tup _ _ _ vN oD).2;have kL:row n (other n e).1=n[(other n e).1].2:=ko gZ;refine FX hu<|ae 2<|bz GT hr<|aq<|ae 3<|aq<|cF dR T.len DX<|aq<|jm hu<|ae 1<|aY bK<|ae 3<|aC ⟨u,_,_,.str<|nameAt n (other n e).1,rfl,rfl,aP.of vM,rfl,?_⟩;refine⟨dl,.ref (as[(other n e).1]'(by omega)).2,rfl,by rw[<- ev];exact bE.k (k:=Sum.inr<|nameAt n (other n e).1)<|sT _ _<|sm _ _ vJ,az ⟨_,_,rfl,.inl<|ak.of<|sT _ _<|sm _ _<|sB _ _ qH,az ⟨u,_,_,_,rfl,vM,?_,λt2 H4 s4 ql=>?_⟩⟩⟩
  ·rw[Aa,<- kL];omega
  rw[Aa,<- kL]at ql;have qI:H4 t2=some (TN n<|go (-1) n e):=by
   rw[ql];have:=sv (c:=-1) pG;show some (Tn _ _)=some (Tn _ (((go (-1) n e).2:Nat):Int));unfold go;rw[this];rfl
  have qu:=s4 _ _<|sT _ _ hb;refine⟨_,cw.t (k:=key n e) (s4 _ _<|sT _ _ eD) qu (bS<|by omega),⟨_,_,rfl⟩,_,aw,?_,dX ((sm.trans sT).trans s4) hD,λj k' x' e' hj gk pH lY=>?_⟩
  ·have:=iE iy (key n e)<|.ref t2;omega
  ·subst lY
   by_cases qv:j=i
   ·subst qv;rw[hx]at gk;have Ig:key n e=key n e':=BZ Prod.fst<|Option.some.inj gk;obtain⟨z1,si⟩:=af.mp he;obtain⟨z2,sj⟩:=af.mp pH;have:=qz hN (cz si) (cz sj) Ig;subst this;exact⟨t2,by rw[fb,BL rfl],by rw[ax<|lD qI<|s4 _ _<|sT _ _ eD];exact qI⟩
   ·obtain⟨u3,Ih,Ii⟩:=all j _ x' e' (by omega) gk pH rfl;refine⟨u3,?_,?_⟩
    ·rw[fb,BK,Ih];intro hk;have h1:(kvs.map (·.1))[j]?=some (key n e'):=by rw[Aj,gk];rfl
     have h2:(kvs.map (·.1))[i]?=some (key n e'):=by rw[Aj,hx,hk];rfl
     exact qv<|Q7 kK h1 h2
    ·have q4:=s4 _ _<|sT _ _ Ii;rw[ax<|lD q4<|s4 _ _<|sT _ _ eD];exact q4
 ·rintro σ' H' ⟨_,iy,eD,_,sm,all⟩;refine q D iy H' (sB.trans sm) oz eD λe he=>?_;obtain⟨u,hv,_⟩:=val e he;obtain⟨i,hi⟩:∃ i:Nat,(kvs.map (·.1))[i]?=some (key n e):=Bm<|B3 hv;rw[Aj,Az]at hi;obtain⟨⟨k,x⟩,hx,hk⟩:=hi;exact all i k x e (Ac.mp hx).1 hx he hk
def d3(n:Net)(H:Hp)(ts:List Addr)(es:List Nt.End):Prop:=ts.length=es.length/\∀(j:Nat) t e,ts[j]?=some t->es[j]?=some e->H t=some (TN n e)
def d3.keep{n:Net}{H H':Hp}{ts:List Addr}{es:List Nt.End}(h:d3 n H ts es)(k:∀ t p j,H t=some (Tn p j)->H' t=some (Tn p j)):d3 n H' ts es:=⟨h.1,λj t e h1 h2=>k _ _ _<|h.2 j t e h1 h2⟩
def d3.same{n:Net}{H H':Hp}{ts:List Addr}{es:List Nt.End}(h:d3 n H ts es)(s:ah H H'):d3 n H' ts es:=h.keep λ_ _ _ q=>s _ _ q
def d3.append{n:Net}{H:Hp}{ts us:List Addr}{es fs:List Nt.End}(h:d3 n H ts es)(g:d3 n H us fs):d3 n H (ts++us) (es++fs):=by
 refine⟨by rw[Ad,Ad,h.1,g.1],λj t e h1 h2=>?_⟩;have hl:=h.1
 by_cases hj:j < ts.length
 ·rw[An hj]at h1;rw[An<|by omega]at h2;exact h.2 j t e h1 h2
 ·rw[Am<|by omega]at h1 h2;rw[<- hl]at h2;exact g.2 _ t e h1 h2
theorem d3.two{n:Net}{H:Hp}{t u:Addr}{a b:Nt.End}(h1:H t=some (TN n a))(h2:H u=some (TN n b)):d3 n H [t,u] [a,b]:=⟨rfl,λj x e h3 h4=>by
 match j with
 | 0=>cases h3;cases h4;exact h1
 | 1=>cases h3;cases h4;exact h2
 | j+2=>simp at h3⟩
def x06{n:Net}(hN:(n.map (·.1)).Nodup){a b:Nt.End}(ha:a∈ends n)(hb:b∈ends n):decide (nameAt n a.1=nameAt n b.1/\(a.2:Int)=(b.2:Int))=decide (a=b):=by
 obtain⟨z1,h1⟩:=af.mp ha;obtain⟨z2,h2⟩:=af.mp hb;refine decide_eq_decide.mpr ⟨λ⟨p,q⟩=>qz hN (cz h1) (cz h2) (by unfold key;rw[p,q]),λe=>by rw[e];exact⟨rfl,rfl⟩⟩
def Ij{K:PySem.W.Frag}{H:Hp}{d:Addr}{xs:List V}(h:H d=some (.lst xs)):o9 K "list" (.ref d) H:=Or.inl ⟨rfl,xs,ak.of h⟩
def bB(n:Net)(H:Hp)(d:Addr)(c:Int):Prop:=∃ kvs,H d=some (.dT kvs)/\∀ e∈ends n,∃ u,aJ kvs (key n e)=some (.ref u)/\H u=some (TN n<|go c n e)
def bB.same{n:Net}{H H':Hp}{d:Addr}{c:Int}(h:bB n H d c)(s:ah H H'):bB n H' d c:=let ⟨kvs,h1,h2⟩:=h;⟨kvs,s _ _ h1,λe he=>let ⟨u,a,b⟩:=h2 e he;⟨u,a,s _ _ b⟩⟩
def bB.get{n:Net}{H:Hp}{d t:Addr}{c:Int}{e:Nt.End}(h:bB n H d c)(he:e∈ends n)(ht:H t=some (TN n e)):∃ u,bE H d (.ref t) (some<|.ref u)/\H u=some (TN n<|go c n e):=by
 obtain⟨kvs,h1,h2⟩:=h;obtain⟨u,a,b⟩:=h2 e he;exact⟨u,by rw[<- a];exact bE.t (k:=key n e) h1 ht,b⟩
def qJ:Sp:=λvs H Q _=>∃(dl dr t:Addr) (n:Net) (e:Nt.End),vs=[.ref dl,.ref dr,.ref t]/\bB n H dl 1/\bB n H dr (-1)/\(n.map (·.1)).Nodup/\av n/\(ag n).length<=1000/\e∈ends n/\H t=some (TN n e) /\
 ∀(l:Addr) (ts:List Addr) (k:Nat) (H':Hp),ah H H'->H l=none->H' l=some (.lst<|ts.map V.ref)->d3 n H' ts (wk n e k)->jr n e k->k<=(ends n).length->Q (.ref l) H'
abbrev NWf:Ñ:=["lefts","rights","first","walker","end"]
def vP:ao NWf ["lefts","rights","first"] (aT pU):=⟨rfl,rfl,rfl,by decide +kernel,rfl,by decide +kernel,by decide +kernel⟩
def Ik(ts:List Addr)(a b:Addr):ts.map V.ref++[V.ref a,V.ref b]=(ts++[a]).map V.ref++[V.ref b]:=by rw[Ag,At];rfl
def x01{f:Addr}{fd:FuncData}(F:bv K "walker_from" "walker_from" pU f fd)(T:Txt mg):aE P w K mg base bD 1 f fd ["lefts","rights","first"] qJ:=by
 refine F.gb vP (λvs H Q E h=>?_) λb0 H vs Q E hr h=>?_
 ·obtain⟨dl,dr,t,n,e,rfl,_⟩:=h;rfl
 obtain⟨dl,dr,t,n,e,rfl,hL,Q8,hN,hT,g6,he,ht,q⟩:=h;have nd:=vP.nd;have sK:=jN n;have hu:=hr.u1;have un:=hr.ig;obtain⟨k,k0,k1,k2⟩:=D7 (f:=two n) (S:=ends n) (λa ha=>mB hT ha) (λa ha b hb=>uU hT ha hb) he;obtain⟨u1,g1,e1⟩:=hL.get he ht;show Run _ _ _ [some<|.ref dl,some<|.ref dr,some<|.ref t,none,none] H;refine aW 3 nd (cC<|aq<|ae 2<|aq<|jm hu<|ae 0<|ae 2 ⟨dl,.ref u1,rfl,g1,az ⟨(by show 2<=sizeLine;decide),λl hl=>?_⟩⟩);have s1:=aH hl<|.lst [.ref t,.ref u1];have el:(upd H l<|.lst [.ref t,.ref u1]) l=some (.lst<|[t,u1].map V.ref):=aw;generalize upd H l (.lst [.ref t,.ref u1])=H1 at s1 el;obtain⟨u2,g2,e2⟩:=(Q8.same s1).get (gF hT he)<|s1 _ _ e1;refine aW 4 nd<|jm hu<|ae 1<|aY dq<|ae 3<|uo t6<|aC ⟨1,rfl,l,_,_,.ref u1,rfl,rfl,ak.of el,rfl,dr,.ref u2,rfl,g2,?_⟩;show Run _ _ _ [some<|.ref dl,some<|.ref dr,some<|.ref t,some<|.ref l,some<|.ref u2] H1;refine xV (λm σ H2=>∃(j:Nat) (ts:List Addr) (u:Addr),m=k - j/\0 < j/\j<=k/\ah H H2/\H2 l=some (.lst<|ts.map V.ref)/\d3 n H2 ts (wk n e j)/\H2 u=some (TN n<|it (two n) j e)/\(∀ i,0 < i->i < j->it (two n) i e≠e)/\σ=[some<|.ref dl,some<|.ref dr,some<|.ref t,some<|.ref l,some<|.ref u])
  (m0:=k - 1) ⟨1,[t,u1],u2,rfl,Fm,k0,s1,el,d3.two (s1 _ _ ht)<|s1 _ _ e1,e2,λi h1 h2=>by omega,rfl⟩ ?_
 rintro m σ H2 ⟨j,ts,u,rfl,j0,j1,sH,vQ,at2,eu,hf,rfl⟩;have Il:it (two n) j e∈ends n:=ki (λa ha=>mB hT ha) he j;refine b8 (nO un) (ae 4<|ae 2 ⟨1,_,by decide,q7t eu<|sH _ _ ht,_,rfl,?_⟩);rw[x06 hN Il he];have tl:=at2.1;rw[qf]at tl
 by_cases c:it (two n) j e=e
 ·rw[BW c];exact cO<|bN<|ae 3<|q l ts j H2 sH hl vQ at2 ⟨j0,c,hf⟩<|by omega
 ·rw[BR c];have jk:j < k:=by
   rcases Do j k with h | h
   ·exact h
   ·have:j=k:=by omega
    subst this;exact absurd k2 c
  obtain⟨v1,g3,e3⟩:=(hL.same sH).get Il eu;refine cP (fX<|rT DK PySem.F.slot_list_extend PySem.F.type_list_extend Wv<|ae 3 (v:= .ref l) ⟨Ij vQ,cC<|aq<|ae 4<|aq<|jm hu<|ae 0<|ae 4 ⟨dl,.ref v1,rfl,g3,az ⟨(by show 2<=sizeLine;decide),λp hp=>?_⟩⟩⟩);have s3:=aH hp<|.lst [.ref u,.ref v1];have nlp:l≠p:=bq vQ hp;refine⟨l,p,ts.map V.ref,[.ref u,.ref v1],rfl,rfl,s3 _ _ vQ,aw,small (by rw[Aa];show _+2<=100000;omega),?_⟩;have Im:ah H (upd (upd H2 p<|.lst [.ref u,.ref v1]) l<|.lst<|ts.map V.ref++[.ref u,.ref v1]):=dX (sH.trans s3) hl;have Io:(upd (upd H2 p<|.lst [.ref u,.ref v1]) l<|.lst<|ts.map V.ref++[.ref u,.ref v1]) l=some (.lst<|(ts++[u,v1]).map V.ref):=by rw[aw,Ag];rfl
  have kt:∀ b p' j',H2 b=some (Tn p' j')->(upd (upd H2 p<|.lst [.ref u,.ref v1]) l<|.lst<|ts.map V.ref++[.ref u,.ref v1]) b=some (Tn p' j'):=λb p' j' h=>by
   rw[ax<|ce h vQ λz=>nomatch z];exact s3 _ _ h
  generalize upd (upd H2 p<|.lst [.ref u,.ref v1]) l (.lst<|ts.map V.ref++[.ref u,.ref v1])=H3 at Im Io kt;obtain⟨v2,g4,e4⟩:=(Q8.same Im).get (gF hT Il)<|kt _ _ _ e3;refine aW 4 nd<|jm hu<|ae 1<|aY dq<|ae 3<|uo t6<|aC ⟨1,rfl,l,_,_,.ref v1,rfl,rfl,ak.of Io,?_,dr,.ref v2,rfl,g4,?_⟩
  ·rw[Ag];show eF (ts.map V.ref++[V.ref u,V.ref v1]) (-1)=_;rw[Ik];exact A6 _ _
  refine bb ⟨k - (j+1),by omega,j+1,ts++[u,v1],v2,rfl,Gf _,jk,Im,Io,(at2.keep kt).append<|d3.two (kt _ _ _ eu)<|kt _ _ _ e3,e4,λi h1 h2=>?_,rfl⟩
  by_cases eR:i=j
  ·subst eR;exact c
  ·exact hf i h1<|by omega
open bA
theorem Q9{α β:Type}(f:α->β):∀ xs:List α,au (xs.map f)=(au xs).map f
 | []=>rfl
 | [a]=>rfl
 | a :: b :: r=>by
  show f a :: au (r.map f)=f a :: (au r).map f;rw[Q9 f r]
def d3.au{n:Net}{H:Hp}{ts:List Addr}{es:List Nt.End}(h:d3 n H ts es):d3 n H (L2.au ts) (L2.au es):=by
 refine⟨by rw[uT,uT,h.1],λj t e h1 h2=>?_⟩;rw[qd]at h1 h2;exact h.2 _ t e h1 h2
def oE{P:Program}{w:World}{H:Hp}{a d:Addr}{o:HO}{zs:Ñ}(h:H a=some o)(g:H d=some (bf P w d zs))(ho:∀ φ,o ≠ .ext φ):a≠d:=λe=>by
 rw[e,g]at h;exact ho _ (Option.some.inj h).symm
structure jT(n:Net)(H:Hp)(L:Addr)(ls:List Addr)(ws:List<|List Nt.End):Prop where
 lst:H L=some (.lst<|ls.map V.ref)
 len:ls.length=ws.length
 qh:ls.Nodup
 out:L∉ls
 at':∀(j:Nat) l w,ls[j]?=some l->ws[j]?=some w->∃ ts,H l=some (.lst<|ts.map V.ref)/\d3 n H ts w
def jT.same{n:Net}{H H':Hp}{L:Addr}{ls:List Addr}{ws:List (List Nt.End)}(h:jT n H L ls ws)(s:ah H H'):jT n H' L ls ws:=
 ⟨s _ _ h.lst,h.len,h.qh,h.out,λj l w h1 h2=>let ⟨ts,a,b⟩:=h.at' j l w h1 h2;⟨ts,s _ _ a,b.same s⟩⟩
def jT.keep{n:Net}{H H':Hp}{L:Addr}{ls:List Addr}{ws:List (List Nt.End)}(h:jT n H L ls ws)(hL:H' L=H L)(kl:∀ l∈ls,∀ o,H l=some o->H' l=some o)(kt:∀ t p j,H t=some (Tn p j)->H' t=some (Tn p j)):jT n H' L ls ws:=
 ⟨by rw[hL];exact h.lst,h.len,h.qh,h.out,λj l w h1 h2=>let ⟨ts,a,b⟩:=h.at' j l w h1 h2;⟨ts,kl l (As h1) _ a,b.keep kt⟩⟩
def jT.snoc{n:Net}{H H':Hp}{L l:Addr}{ls ts:List Addr}{ws:List (List Nt.End)}{v:List Nt.End}(h:jT n H L ls ws)(hL:H' L=some (.lst<|ls.map V.ref++[.ref l]))(kl:∀ l∈ls,∀ o,H l=some o->H' l=some o)(kt:∀ t p j,H t=some (Tn p j)->H' t=some (Tn p j))
  (hl:H' l=some (.lst<|ts.map V.ref)) (hv:d3 n H' ts v) (hn:l∉ls) (Ra:L≠l):jT n H' L (ls++[l]) (ws++[v]):=by
 refine⟨by rw[hL,Ag];rfl,by rw[Ad,Ad,h.len];rfl,pk h.qh hn,λhm=>?_,λj a x h1 h2=>?_⟩
 ·rcases Al.mp hm with hm | hm
  ·exact h.out hm
  ·exact Ra<|Ae.mp hm
 ·have hlen:=h.len
  by_cases hj:j < ls.length
  ·rw[An hj]at h1;rw[An<|by omega]at h2;obtain⟨us,q1,q2⟩:=h.at' j a x h1 h2;exact⟨us,kl a (As h1) _ q1,q2.keep kt⟩
  ·rw[Am<|by omega]at h1 h2;have eV:j - ls.length=0:=by
    have:=(Ac.mp h1).1;simp at this;omega
   rw[eV]at h1;rw[<- hlen,eV]at h2;cases h1;cases h2;exact⟨ts,hl,hv⟩
def Ip:Sp:=λvs H Q _=>∃(R:Addr) (as:Ï) (n:Net),vs=[.ref R]/\ai H R as n/\(n.map (·.1)).Nodup/\av n/\n.length<=1000/\(ag n).length<=400 /\
 ∀(L:Addr) (ls:List Addr) (H':Hp),ah H H'->H L=none->jT n H' L ls (dI n (ends n) [])->(∀ l∈ls,H l=none)->Q (.ref L) H'
def q5w{n:Net}{i:Nat}{p:Str×Nt.End}(h:(bp n)[i]?=some p):(ends n)[i]?=some p.2:=by unfold ends;rw[Aj,h];rfl
abbrev NWs:Ñ:=["rows","lefts","rights","names","told","walkers","first","walker","end"]
def vR:ao NWs ["rows"] (aT pT):=⟨rfl,rfl,rfl,by decide +kernel,rfl,by decide +kernel,by decide +kernel⟩
def q77{f:Addr}{fd:FuncData}(F:bv K "walkers_of" "walkers_of" pT f fd)(T:Txt mg)
  (GL:aS P w K mg base 3 "left_steps" ["rows"]<|jy 1)
  (GR:aS P w K mg base 3 "right_steps" ["rows"]<|jy (-1))
  (GN:aS P w K mg base 3 "ties_by_end" ["rows"] mQ)
  (GO:aS P w K mg base 3 "ends_in_order" ["rows"] HL)
  (GW:aS P w K mg base 3 "walker_from" ["lefts","rights","first"] qJ) :
  aE P w K mg base bD 4 f fd ["rows"] Ip:=by
 refine F.gb vR (λvs H Q E h=>?_) λb0 H vs Q E hr h=>?_
 ·obtain⟨R,as,n,rfl,_⟩:=h;rfl
 obtain⟨R,as,n,rfl,hR,hN,hT,hn,g6,q⟩:=h;have nd:=vR.nd;have sK:=jN n;have hu:=hr.u1;show Run _ _ _ [some<|.ref R,none,none,none,none,none,none,none,none] H;refine aW 1 nd (bz GL hr<|aq<|ae 0<|az ⟨R,as,n,rfl,hR,hN,hT,hn,by omega,λdl kl H1 s1 n1 e1 v1=>?_⟩);refine aW 2 nd (bz GR hr<|aq<|ae 0<|az ⟨R,as,n,rfl,hR.same s1,hN,hT,hn,by omega,λdr kr H2 s2 n2 e2 v2=>?_⟩);refine aW 3 nd (bz GN hr<|aq<|ae 0<|az ⟨R,as,n,rfl,hR.same<|s1.trans s2,hN,hn,by omega,λdn kn H3 s3 n3 e3 v3=>?_⟩);refine aW 4 nd<|q4k T.p5 λD hD=>?_;refine aW 5 nd (cC<|az ⟨(by show 0<=sizeLine;decide),λL hL=>?_⟩);have hSL:bB n H3 dl 1:=bB.same ⟨kl,e1,v1⟩<|s2.trans s3;have hSR:bB n H3 dr (-1):=bB.same ⟨kr,e2,v2⟩ s3;have qK:=(s1.trans s2).trans s3;have y7:L≠D:=λe=>by rw[e,aw]at hL;cases hL
 have hL3:H3 L=none:=by rw[ax y7]at hL;exact hL
 have oz:=iT qK hD;have yP:=iT qK hL3;have sB:ah H3 (upd (upd H3 D<|bf P w D []) L<|.lst []):=(aH hD _).trans<|aH hL _;have Rb:(upd (upd H3 D<|bf P w D []) L<|.lst []) D=some (bf P w D []):=by rw[ax<|CK y7,aw]
 have Iq:(upd (upd H3 D<|bf P w D []) L<|.lst []) L=some (.lst []):=aw;have Ir:=qK.trans sB;have vS:=hSL.same sB;have vT:=hSR.same sB;have Rc:=sB _ _ e3;show Run _ _ _ [some<|.ref R,some<|.ref dl,some<|.ref dr,some<|.ref dn,some<|.ref D,some<|.ref L,none,none,none] (upd (upd H3 D<|bf P w D []) L<|.lst []);generalize upd (upd H3 D<|bf P w D []) L (.lst [])=HB at sB Rb Iq Ir vS vT Rc;refine ia (bz GO hr<|aq<|ae 0<|az ⟨R,as,n,rfl,hR.same Ir,hn,by omega,λU us H5 s5 n5 e5 Iu=>⟨U,rfl,⟨_,ak.of e5⟩,?_⟩⟩);have Rf:=Ir.trans s5;have lE:=s5 _ _ Rb;have y8:=s5 _ _ Iq;have Iv:=vS.same s5;have Iw:=vT.same s5;have Iy:=s5 _ _ Rc;have nUL:U≠L:=λe=>by rw[e,Iq]at n5;cases n5
 have sV:us.length=(ends n).length:=by rw[Iu.1];unfold ends;rw[Aa]
 refine ib (xs:=us.map V.ref) (λi σ H'=>∃(zs told:Ñ) (ls:List Addr) (ws:List<|List Nt.End) (u1 u2 u3:Option V),(∀ b o,b≠D->b≠L->H5 b=some o->H' b=some o)/\H' D=some (bf P w D zs)/\zs.Nodup/\(∀ z∈zs,z∈ag n)/\(∀ z,z∈zs↔z∈told) /\
  jT n H' L ls ws/\(∀ l∈ls,H5 l=none)/\ls.length<=i/\dI n (ends n) []=ws++dI n ((ends n).drop i) told/\σ=[some<|.ref R,some<|.ref dl,some<|.ref dr,some<|.ref dn,some<|.ref D,some<|.ref L,u1,u2,u3])
  ⟨[],[],[],[],_,_,_,λb o _ _ h=>h,lE,Ch,λz h=>by simp at h,λz=>by simp,⟨y8,rfl,Ch,by simp,λj l w h=>by simp at h⟩,λl h=>by simp at h,Ao _,rfl,rfl⟩ ?_ ?_ ?_
 ·rintro i σ H' _ ⟨_,_,_,_,_,_,_,kp,_⟩;exact ak.of<|kp _ _ (oE e5 lE λφ z=>nomatch z) nUL e5
 ·rintro i x σ H' hx ⟨zs,told,ls,ws,u1,u2,u3,kp,eD,zn,zt,zm,hW,hf,rN,vU,rfl⟩;have hi:i < us.length:=by
   have:=(Ac.mp hx).1;rw[Aa]at this;exact this
  rw[Aj,Ab hi]at hx;cases hx;have Iz:i < (bp n).length:=by have:=Iu.1;omega
  have y9:H5 us[i]=some (TN n (bp n)[i].2):=Iu.2 i us[i] (bp n)[i] (Ab hi)<|Ab Iz;have sW:=q5w<|Ab Iz;have jA:aK n (bp n)[i].2=some (bp n)[i].1:=aV.mp (by have:=Bn Iz;exact this);generalize (bp n)[i]=pr at y9 sW jA;obtain⟨z,e⟩:=pr;have y9:H5 us[i]=some (TN n e):=y9;have jA:aK n e=some z:=jA;have sW:(ends n)[i]?=some e:=sW;have he:e∈ends n:=As sW;have oF:(ends n).drop i=e :: (ends n).drop (i+1):=by
   have Rg:i < (ends n).length:=by omega
   rw[QT Rg]
   congr 1
   have:=Ab Rg;rw[sW]at this;exact(Option.some.inj this).symm
  have Rh:∀{b p j},H5 b=some (Tn p j)->H' b=some (Tn p j):=λ{b p j} h=>kp _ _ (oE h lE λφ z=>nomatch z) (ce h y8 λz=>nomatch z) h;have g5:=Rh y9;have IA:H' dn=some (.dT kn):=kp _ _ (oE Iy lE λφ z=>nomatch z) (ce Iy y8 λz=>nomatch z) Iy;have db:∀{d c},bB n H5 d c->bB n H' d c:=λ{d c} ⟨kvs,a,b⟩=>⟨kvs,kp _ _ (oE a lE λφ z=>nomatch z) (ce a y8 λz=>nomatch z) a,λe he=>let ⟨u,p,r⟩:=b e he;⟨u,p,Rh r⟩⟩;have hd1:bE H' dn (.ref us[i]) (some<|.str z):=by rw[<- v3 e z jA];exact bE.t (k:=key n e) IA g5
  refine a8 6 nd ?_;refine hV<|b8 k09<|jm hu<|ae 3<|ae 6 ⟨dn,.str z,rfl,hd1,ae 4 ⟨z,D,zs,rfl,rfl,eD,_,rfl,?_⟩⟩;refine j9 (λc=>?_) λc=>?_
  ·have hz:z∉zs:=BX c;have fj:aD n e∉told:=by rw[fJ jA];exact λh=>hz<|(zm z).mpr h
   refine aW 7 nd (bz GW hr<|aq<|ae 1<|aq<|ae 2<|aq<|ae 6<|az ⟨dl,dr,us[i],n,e,rfl,db Iv,db Iw,hN,hT,by omega,he,g5,λl ts k H6 s6 n6 e6 at6 pr hk=>?_⟩);have hpe:=uW pr;have hwe:walker n e=wk n e k:=by unfold walker;rw[hpe]
   have IB:=s6 _ _ hW.lst;have ix:=s6 _ _ eD;have IC:L≠l:=bq hW.lst n6;have sQ:D≠l:=bq eD n6;refine fX (jj<|ae 5 ⟨L,rfl,⟨_,IB⟩,ae 7 ⟨_,IB,by rw[Aa];exact bS (by omega),?_⟩⟩);have k7:∀ b o,b≠L->H6 b=some o->(upd H6 L<|.lst<|ls.map V.ref++[.ref l]) b=some o:=λb o hb h=>by rw[ax hb];exact h
   have Ri:(upd H6 L<|.lst<|ls.map V.ref++[.ref l]) L=some (.lst<|ls.map V.ref++[.ref l]):=aw;generalize upd H6 L (.lst<|ls.map V.ref++[.ref l])=H7 at k7 Ri;have Rj:∀ t p j,H6 t=some (Tn p j)->H7 t=some (Tn p j):=λt p j h=>k7 _ _ (ce h IB λz=>nomatch z) h;have e7:=k7 _ _ (CK IC) e6;have eD7:=k7 _ _ (CK y7) ix;have Rk:=at6.keep Rj;have hnl:l∉ls:=λhm=>by
    obtain⟨j,hj⟩:=Bm hm;have hlen:=hW.len;have IE:j < ws.length:=by have:=(Ac.mp hj).1;omega
    obtain⟨_,a,_⟩:=hW.at' j l ws[j] hj<|Ab IE;rw[n6]at a;cases a
   have hW7:jT n H7 L (ls++[l]) (ws++[wk n e k]):=hW.snoc Ri (λa ha o ho=>k7 _ _ (λq=>hW.out<|q ▸ ha)<|s6 _ _ ho) (λt p j h=>Rj _ _ _<|s6 _ _ h) e7 Rk hnl IC;have l57:H5 l=none:=by
    cases q5:H5 l with
    | none=>rfl
    | some o=>rw[kp _ _ (CK sQ) (CK IC) q5]at n6;cases n6
   have hf7:∀ a∈ls++[l],H5 a=none:=λa ha=>by
    rcases Al.mp ha with ha | ha
    ·exact hf a ha
    ·rw[Ae.mp ha];exact l57
   have vj:∀ b o,b≠D->b≠L->H5 b=some o->H7 b=some o:=λb o h1 h2 h=>k7 _ _ h2<|s6 _ _<|kp b o h1 h2 h;have hll:(ls++[l]).length<=i+1:=by rw[Ad];show ls.length+1<=_;omega
   have IG:dI n (ends n) []=(ws++[wk n e k])++dI n ((ends n).drop<|i+1) (told++(au<|wk n e k).map (aD n)):=by
    rw[vU,oF];show ws++(if aD n e∈told then _ else _)=_;rw[BK fj,hwe,At];rfl
   have jC:=FY hT he k;refine ia<|q1y<|ae 7 ⟨l,_,rfl,ak.of e7,λp hp=>⟨p,rfl,⟨_,ak.of aw⟩,?_⟩⟩;rw[Q9];have s8:=aH hp<|.lst<|(au ts).map V.ref;have e8:(upd H7 p<|.lst<|(au ts).map V.ref) p=some (.lst<|(au ts).map V.ref):=aw;have oG:=s8 _ _ eD7;have sX:=hW7.same s8;have zg:=(Rk.same s8).au;have Rl:∀ b o,b≠D->b≠L->H5 b=some o->(upd H7 p<|.lst<|(au ts).map V.ref) b=some o:=λb o h1 h2 h=>s8 _ _<|vj b o h1 h2 h;have IH:=s8 _ _ (k7 _ _ (ce IA hW.lst λz=>nomatch z)<|s6 _ _ IA);generalize upd H7 p (.lst<|(au ts).map V.ref)=H8 at s8 e8 oG sX zg Rl IH;have II:p≠D:=oE e8 oG λφ z=>nomatch z;refine ib (xs:=(au ts).map V.ref) (λm σ H9=>∃(iG:Ñ) (u3:Option V),(∀ b o,b≠D->H8 b=some o->H9 b=some o)/\H9 D=some (bf P w D iG)/\iG.Nodup/\(∀ z∈iG,z∈ag n)/\(∀ z,z∈iG↔z∈told++((au<|wk n e k).take m).map (aD n)) /\
    σ=[some<|.ref R,some<|.ref dl,some<|.ref dr,some<|.ref dn,some<|.ref D,some<|.ref L,some<|.ref us[i],some<|.ref l,u3]) ⟨zs,_,λb o _ h=>h,oG,zn,zt,λz=>by rw[zm z];simp,rfl⟩ ?_ ?_ ?_
   ·rintro m σ H9 _ ⟨_,_,k9,_⟩;exact ak.of<|k9 _ _ II e8
   ·rintro m x σ H9 hx ⟨iG,u3,k9,zh,vV,zi,zj,rfl⟩;have hm:m < (au ts).length:=by
     have:=(Ac.mp hx).1;rw[Aa]at this;exact this
    have l8:=zg.1;rw[Aj,Ab hm]at hx;cases hx;have eU:m < (au<|wk n e k).length:=by omega
    have IJ:=zg.2 m _ _ (Ab hm)<|Ab eU;have hcw:(au<|wk n e k)[m]∈wk n e k:=by
     have h1:(au<|wk n e k)[m]?=some (au<|wk n e k)[m]:=Ab eU;rw[qd]at h1;exact As h1
    have yK:=jC _ hcw;obtain⟨y,hy⟩:=af.mp yK;have qL:(au<|wk n e k).take (m+1)=(au<|wk n e k).take m++[(au<|wk n e k)[m]]:=by rw[Cb,Ab eU];rfl
    generalize (au<|wk n e k)[m]=c at IJ yK hy qL;have hc9:H9 (au ts)[m]=some (TN n c):=k9 _ _ (oE IJ oG λφ z=>nomatch z) IJ;have ed9:H9 dn=some (.dT kn):=k9 _ _ (oE IH oG λφ z=>nomatch z) IH;have hd9:bE H9 dn (.ref (au ts)[m]) (some<|.str y):=by rw[<- v3 c y hy];exact bE.t (k:=key n c) ed9 hc9
    have zl:iG.length<=(ag n).length:=bg vV zi;refine a8 8 nd ?_;refine fX<|q4b<|ae 4 ⟨D,rfl,⟨_,zh⟩,jm hu<|ae 3<|ae 8 ⟨dn,.str y,rfl,hd9,y,iG,rfl,zh,by omega,bb ⟨added iG y,_,λb o hb h=>?_,aw,?_,λz hz=>?_,λz=>?_,rfl⟩⟩⟩
    ·rw[ax hb];exact k9 b o hb h
    ·unfold added
     split
     ·exact vV
     ·rename_i hny;exact pk vV hny
    ·rcases (DJ iG y z).mp hz with h | h
     ·exact zi z h
     ·rw[h];exact dG hy
    ·rw[DJ,zj z,qL,Ag,<- At,Al (s:=told++_)];show _\/z=y↔_\/z∈[aD n c];rw[fJ hy,Ae]
   ·rintro σ H9 ⟨iG,u3,k9,zh,vV,zi,zj,rfl⟩;have l8:=zg.1;rw[Aa,l8,Br]at zj;refine bb<|bb ⟨iG,told++(au<|wk n e k).map (aD n),ls++[l],ws++[wk n e k],_,_,_,λb o h1 h2 h=>k9 _ _ h1<|Rl b o h1 h2 h,zh,vV,zi,zj,?_,hf7,hll,IG,rfl⟩;refine sX.keep ?_ (λa ha o ho=>k9 _ _ ?_ ho) λt p j h=>k9 _ _ (oE h oG λφ z=>nomatch z) h
    ·rw[sX.lst];exact k9 _ _ y7 sX.lst
    ·intro q;rw[q,oG]at ho;obtain⟨j,hj⟩:=Bm ha;have hlen:=sX.len;have IE:j < (ws++[wk n e k]).length:=by have:=(Ac.mp hj).1;omega
     obtain⟨_,b,_⟩:=sX.at' j a _ hj<|Ab IE;rw[q,oG]at b;cases b
  ·have hz:z∈zs:=Classical.not_not.mp<|FW<|Es.mpr c;refine bb (bb ⟨zs,told,ls,ws,_,_,_,kp,eD,zn,zt,zm,hW,hf,by omega,?_,rfl⟩);rw[vU,oF];show ws++(if aD n e∈told then _ else _)=_;rw[BL<|by rw[fJ jA];exact(zm z).mp hz]
 ·rintro σ H' ⟨zs,told,ls,ws,u1,u2,u3,kp,eD,zn,zt,zm,hW,hf,rN,vU,rfl⟩;rw[Aa,sV,List.drop_length]at vU;have IL:dI n (ends n) []=ws:=by rw[vU];show ws++[]=ws;rw[Bh]
  refine bN (ae 5<|q L ls H' (λb o h=>?_) yP (by rw[IL];exact hW) λl hl=>iT Rf<|hf l hl);exact kp _ _ (bq h oz) (bq h yP)<|Rf _ _ h
end
end E7
namespace oH
open PySem PySem.W PyProof.Rows
section
variable{lt:Nat->Nat->Bool}{cmp:Nat->Nat->(Bool->Shared->Prop)->Shared->Prop}{J:Shared->Prop}{n:Nat}
structure dP(lt:Nat->Nat->Bool)(cmp:Nat->Nat->(Bool->Shared->Prop)->Shared->Prop)(J:Shared->Prop)(n:Nat):Prop where
 ask:∀(i j:Nat) (C:Bool->Shared->Prop) (s:Shared),i < n->j < n->i≠j->J s->(∀ s',J s'->C (lt i j) s')->cmp i j C s
 tot:∀ i j,i < n->j < n->i≠j->lt i j=true\/lt j i=true
 asy:∀ i j,lt i j=true->lt j i=false
 zp:∀ i j k,lt i j=true->lt j k=true->lt i k=true
def g(p:Array Nat)(i:Nat):Nat:=p.getD i 0
structure Pm(p:Array Nat)(n:Nat):Prop where
 size:p.size=n
 lt:∀ i,i < n->g p i < n
 inj:∀ i j,i < n->j < n->g p i=g p j->i=j
def jD{p:Array Nat}{i:Nat}{v:Nat}(h:p[i]?=some v):g p i=v:=by
 unfold g;rw[Dy,h];rfl
def kN{p q:Array Nat}{i j:Nat}(h:p[i]?=q[j]?):g p i=g q j:=by
 unfold g;rw[Dy,Dy,h]
def Rm(n:Nat):Pm (List.toArray<|List.range n) n:=by
 have e:∀ i,i < n->g (List.toArray<|List.range n) i=i:=λi hi=>jD (by simp[hi]);exact⟨by simp,λi hi=>by rw[e i hi];exact hi,λi j hi hj h=>by rw[e i hi,e j hj]at h;exact h⟩
def Up(lt:Nat->Nat->Bool)(p:Array Nat)(m:Nat):Prop:=∀ i j,i < j->j < m->lt (g p i) (g p j)=true
def Dn(lt:Nat->Nat->Bool)(p:Array Nat)(m:Nat):Prop:=∀ i j,i < j->j < m->lt (g p j) (g p i)=true
def q9t(p:Array Nat):Up lt p 1:=λi j h1 h2=>by omega
def q36(A:dP lt cmp J n){p:Array Nat}{m:Nat}(h1:1<=m)(h:Up lt p m)(hm:lt (g p<|m - 1) (g p m)=true):Up lt p (m+1):=λi j hi hj=>by
 by_cases c:j < m
 ·exact h i j hi c
 ·have:j=m:=by omega
  subst this
  by_cases d:i=j - 1
  ·rw[d];exact hm
  ·exact A.zp _ _ _ (h i (j - 1) (by omega)<|by omega) hm
def q5s(A:dP lt cmp J n){p:Array Nat}{m:Nat}(h1:1<=m)(h:Dn lt p m)(hm:lt (g p m) (g p<|m - 1)=true):Dn lt p (m+1):=λi j hi hj=>by
 by_cases c:j < m
 ·exact h i j hi c
 ·have:j=m:=by omega
  subst this
  by_cases d:i=j - 1
  ·rw[d];exact hm
  ·exact A.zp _ _ _ hm<|h i (j - 1) (by omega)<|by omega
def IM(A:dP lt cmp J n){i j:Nat}(hi:i < n)(hj:j < n)(bn:i≠j)(h:lt i j=false):lt j i=true:=by
 rcases A.tot i j hi hj bn with q | q
 ·rw[h]at q;cases q
 ·exact q
theorem IP(A:dP lt cmp J n){p:Array Nat}(P:Pm p n):∀(f m:Nat) (Q:Nat->Shared->Prop) (s:Shared),1<=m->m+f<=n->Up lt p m->J s ->
  (∀ k s',J s'->m<=k->k<=m+f->Up lt p k->(k < m+f->lt (g p k) (g p<|k - 1)=true)->Q k s')->(kas_asc p f m).kasWp cmp Q s
 | 0,m,Q,s,h1,h2,hu,hJ,k=>k m s hJ (Ao _) (Ao _) hu λh=>by omega
 | f+1,m,Q,s,h1,h2,hu,hJ,k=>by
  have bn:g p m≠g p (m - 1):=λh=>by have:=P.inj m (m - 1) (by omega) (by omega) h;omega
  refine A.ask _ _ _ _ (P.lt m<|by omega) (P.lt (m - 1)<|by omega) bn hJ λs' gJ=>?_;cases e:lt (p.getD m 0) (p.getD (m - 1) 0) with
  | true=>exact k m s' gJ (Ao _) (by omega) hu λ_=>e
  | false=>
   have vW:Up lt p (m+1):=q36 A h1 hu (IM A (P.lt m<|by omega) (P.lt (m - 1)<|by omega) bn e);exact IP A P f (m+1) Q s' (by omega) (by omega) vW gJ λk' s2 j2 a b c d=>k k' s2 j2 (by omega) (by omega) c λh=>d<|by omega
theorem Rn(A:dP lt cmp J n){p:Array Nat}(P:Pm p n):∀(f m:Nat) (Q:Array Nat×Nat×Nat->Shared->Prop) (s:Shared),1<=m->m+f<=n->Dn lt p m->J s ->
  (∀ k s',J s'->m<=k->k<=m+f->Dn lt p k->Q (p,k,0) s')->(kas_desc f p m 0).kasWp cmp Q s
 | 0,m,Q,s,h1,h2,hd,hJ,k=>k m s hJ (Ao _) (Ao _) hd
 | f+1,m,Q,s,h1,h2,hd,hJ,k=>by
  have bn:g p m≠g p (m - 1):=λh=>by have:=P.inj m (m - 1) (by omega) (by omega) h;omega
  refine A.ask _ _ _ _ (P.lt m<|by omega) (P.lt (m - 1)<|by omega) bn hJ λs' gJ=>?_;cases e:lt (p.getD m 0) (p.getD (m - 1) 0) with
  | true=>
   show(if true=true then(if 0 > 0 then _ else kas_desc f p (m+1) 0)else _:KasT _).kasWp cmp Q s';rw[BL rfl,BK<|by omega];exact Rn A P f (m+1) Q s' (by omega) (by omega) (q5s A h1 hd e) gJ λk' s2 j2 a b c=>k k' s2 j2 (by omega) (by omega) c
  | false=>
   refine A.ask _ _ _ _ (P.lt (m - 1)<|by omega) (P.lt m<|by omega) (CK bn) gJ λs2 vX=>?_;have e2:lt (p.getD (m - 1) 0) (p.getD m 0)=true:=IM A (P.lt m<|by omega) (P.lt (m - 1)<|by omega) bn e;rw[e2];exact k m s2 vX (Ao _) (by omega) hd
def vY{p:Array Nat}{m k:Nat}(h:m<=p.size):g (kas_rev p 0 m) k=if k < m then g p (m - 1 - k)else g p k:=by
 have e:=getElem?_mirror_all (xs:=p) (i:=0) (j:=m) h k
 by_cases c:k < m
 ·rw[BL c];rw[BL ⟨Cf _,c⟩]at e;refine kN<|e.trans ?_
  congr 1
  omega
 ·rw[BK c];rw[BK λq=>c q.2]at e;exact kN e
def Ro{p:Array Nat}{m:Nat}(P:Pm p n)(h:m<=n):Pm (kas_rev p 0 m) n:=by
 have hs:m<=p.size:=by rw[P.size];exact h
 refine⟨by rw[kas_rev_size];exact P.size,λi hi=>?_,λi j hi hj q=>?_⟩
 ·rw[vY hs]
  split
  ·exact P.lt _<|by omega
  ·exact P.lt _ hi
 ·rw[vY hs,vY hs]at q
  by_cases c:i < m <;> by_cases d:j < m
  ·rw[BL c,BL d]at q;have:=P.inj _ _ (by omega) (by omega) q;omega
  ·rw[BL c,BK d]at q;have:=P.inj _ _ (by omega) hj q;omega
  ·rw[BK c,BL d]at q;have:=P.inj _ _ hi (by omega) q;omega
  ·rw[BK c,BK d]at q;exact P.inj _ _ hi hj q
def q76{p:Array Nat}{m:Nat}(P:Pm p n)(h:m<=n)(hd:Dn lt p m):Up lt (kas_rev p 0 m) m:=λi j hi hj=>by
 have hs:m<=p.size:=by rw[P.size];exact h
 rw[vY hs,vY hs,BL (by omega),BL hj];exact hd (m - 1 - j) (m - 1 - i) (by omega)<|by omega
def q1f(A:dP lt cmp J n){p:Array Nat}(P:Pm p n){m:Nat}{Q:Nat×Array Nat->Shared->Prop}{s:Shared}(h1:1<=m)(h2:m<=n)(hd:Dn lt p m)(hJ:J s)
  (k:∀ r q s',J s'->1<=r->r<=n->Pm q n->Up lt q r->Q (r,q) s'):(kas_tail3 m n p).kasWp cmp Q s:=by
 unfold kas_tail3;rw[JT];exact IP A (Ro P h2) (n - m) m _ s h1 (by omega) (q76 P h2 hd) hJ λr s' j a b c _=>k r _ s' j (by omega) (by omega) (Ro P h2) c
def q16(A:dP lt cmp J n){p:Array Nat}(P:Pm p n){Q:Nat×Array Nat->Shared->Prop}{s:Shared}(h2:2<=n)(hJ:J s)
  (k:∀ r q s',J s'->1<=r->r<=n->Pm q n->Up lt q r->Q (r,q) s'):(kas_count n p).kasWp cmp Q s:=by
 unfold kas_count;rw[JT];refine IP A P (n - 1) 1 _ s (Ao _) (by omega) (q9t p) hJ λm s' gJ m1 m2 hu vZ=>?_
 by_cases c:m=n
 ·subst c;rw[BL<|by simp];exact k m p s' gJ m1 (Ao _) P hu
 ·rw[BK<|by simpa using c]
  by_cases d:m > 1
  ·rw[BL d];have bn:g p 0≠g p (m - 1):=λh=>by have:=P.inj 0 (m - 1) (by omega) (by omega) h;omega
   refine A.ask _ _ _ _ (P.lt 0<|by omega) (P.lt (m - 1)<|by omega) bn gJ λs2 vX=>?_;have e:lt (p.getD 0 0) (p.getD (m - 1) 0)=true:=hu 0 (m - 1) (by omega) (by omega);rw[e];exact k m p s2 vX m1 (by omega) P hu
  ·rw[BK d];have em:m=1:=by omega
   subst em;unfold kas_descPart;rw[JT];have hl:=vZ (by omega);have hd2:Dn lt p 2:=λi j hi hj=>by
    have:i=0/\j=1:=by omega
    rw[this.1,this.2];exact hl
   refine Rn A P (n - (1+1)) (1+1) _ s' (by omega) (by omega) hd2 gJ λr s2 vX r1 r2 hd=>?_;show(if(0:Nat) > 0 then _ else kas_tail3 r n p:KasT _).kasWp cmp Q s2;rw[BK<|by omega];exact q1f A P (by omega) (by omega) hd vX k
theorem IQ(A:dP lt cmp J n){p:Array Nat}(P:Pm p n){k:Nat}(hk:k < n)(hu:Up lt p k):∀(f l r:Nat) (Q:Nat->Shared->Prop) (s:Shared),r<=k->l<=r->r - l<=f->J s->(∀ i,i < l->lt (g p i) (g p k)=true)->(∀ i,r<=i->i < k->lt (g p k) (g p i)=true) ->
  (∀ m s',J s'->m<=k->(∀ i,i < m->lt (g p i) (g p k)=true)->(∀ i,m<=i->i < k->lt (g p k) (g p i)=true)->Q m s')->(kas_place p k f l r).kasWp cmp Q s
 | 0,l,r,Q,s,h1,h2,h3,hJ,ha,hb,q=>q l s hJ (by omega) ha λi hi=>hb i<|by omega
 | f+1,l,r,Q,s,h1,h2,h3,hJ,ha,hb,q=>by
  unfold kas_place
  by_cases c:l>=r
  ·rw[BL c];exact q l s hJ (by omega) ha λi hi=>hb i<|by omega
  ·rw[BK c];have hmk:(l+r) / 2 < k:=by omega
   have bn:g p k≠g p ((l+r) / 2):=λh=>by have:=P.inj k _ hk (by omega) h;omega
   refine A.ask _ _ _ _ (P.lt k hk) (P.lt _<|by omega) bn hJ λs' gJ=>?_;cases e:lt (p.getD k 0) (p.getD ((l+r) / 2) 0) with
   | true=>
    show(kas_place p k f l<|(l+r) / 2).kasWp cmp Q s';refine IQ A P hk hu f l ((l+r) / 2) Q s' (by omega) (by omega) (by omega) gJ ha (λi hi Rp=>?_) q
    by_cases d:i=(l+r) / 2
    ·rw[d];exact e
    ·exact A.zp _ _ _ e<|hu _ _ (by omega) Rp
   | false=>
    show(kas_place p k f ((l+r) / 2+1) r).kasWp cmp Q s';have e2:=IM A (P.lt k hk) (P.lt _<|by omega) bn e;refine IQ A P hk hu f ((l+r) / 2+1) r Q s' h1 (by omega) (by omega) gJ (λi hi=>?_) hb q
    by_cases d:i=(l+r) / 2
    ·rw[d];exact e2
    ·exact A.zp _ _ _ (hu _ _ (by omega) hmk) e2
def v9{p:Array Nat}{k m i:Nat}(hk:k < p.size)(hm:m<=k):g (bubble p k<|k - m) i=if i=m then g p k else if m < i/\i<=k then g p (i - 1)else g p i:=by
 have e:=getElem?_bubble (xs:=p) hk (k - m) (by omega) i;rw[show k - (k - m)=m by omega]at e
 by_cases c:i=m
 ·rw[BL c];rw[BL c]at e;exact kN e
 ·rw[BK c];rw[BK c]at e
  by_cases d:m < i/\i<=k
  ·rw[BL d];rw[BL d]at e;exact kN e
  ·rw[BK d];rw[BK d]at e;exact kN e
def q9c{p:Array Nat}{k m:Nat}(P:Pm p n)(hk:k < n)(hm:m<=k):Pm (bubble p k<|k - m) n:=by
 have hs:k < p.size:=by rw[P.size];exact hk
 refine⟨by rw[bubble_size];exact P.size,λi hi=>?_,λi j hi hj q=>?_⟩
 ·rw[v9 hs hm]
  split
  ·exact P.lt k hk
  ·split
   ·exact P.lt _<|by omega
   ·exact P.lt _ hi
 ·rw[v9 hs hm,v9 hs hm]at q;have src:∀ a,a < n->∃ b,b < n/\(if a=m then g p k else if m < a/\a<=k then g p (a - 1)else g p a)=g p b/\((a=m/\b=k)\/(a≠m/\(m < a/\a<=k)/\b=a - 1)\/(a≠m/\¬(m < a/\a<=k)/\b=a)):=λa ha=>by
   by_cases c:a=m
   ·exact⟨k,hk,by rw[BL c],.inl ⟨c,rfl⟩⟩
   ·by_cases d:m < a/\a<=k
    ·exact⟨a - 1,by omega,by rw[BK c,BL d],.inr<|.inl ⟨c,d,rfl⟩⟩
    ·exact⟨a,ha,by rw[BK c,BK d],.inr<|.inr ⟨c,d,rfl⟩⟩
  obtain⟨x,x1,x2,x3⟩:=src i hi;obtain⟨y,y1,y2,y3⟩:=src j hj;rw[x2,y2]at q;have e:=P.inj x y x1 y1 q;subst e
  rcases x3 with ⟨a1,a2⟩ | ⟨a1,a2,a3⟩ | ⟨a1,a2,a3⟩
  ·rcases y3 with ⟨b1,b2⟩ | ⟨b1,b2,b3⟩ | ⟨b1,b2,b3⟩
   ·exact a1.trans b1.symm
   ·exact absurd (a2.symm.trans b3)<|Ct<|Bi (Nat.sub_lt (Gk b2.1) Fm) b2.2
   ·exact absurd ⟨Gd (by rw[<- b3,a2];exact hm)<|CK b1,by rw[<- b3,a2];exact Ao _⟩ b2
  ·rcases y3 with ⟨b1,b2⟩ | ⟨b1,b2,b3⟩ | ⟨b1,b2,b3⟩
   ·exact absurd (b2.symm.trans a3)<|Ct<|Bi (Nat.sub_lt (Gk a2.1) Fm) a2.2
   ·exact Nat.sub_one_cancel (Gk a2.1) (Gk b2.1)<|a3.symm.trans b3
   ·exact absurd ⟨Gd (by rw[<- b3,a3];exact Nat.le_sub_one_of_lt a2.1)<|CK b1,by rw[<- b3,a3];exact Bq (Nat.sub_le _ _) a2.2⟩ b2
  ·rcases y3 with ⟨b1,b2⟩ | ⟨b1,b2,b3⟩ | ⟨b1,b2,b3⟩
   ·exact absurd ⟨Gd (by rw[<- a3,b2];exact hm)<|CK a1,by rw[<- a3,b2];exact Ao _⟩ a2
   ·exact absurd ⟨Gd (by rw[<- a3,b3];exact Nat.le_sub_one_of_lt b2.1)<|CK a1,by rw[<- a3,b3];exact Bq (Nat.sub_le _ _) b2.2⟩ a2
   ·exact a3.symm.trans b3
def q9a{p:Array Nat}{k m:Nat}(P:Pm p n)(hk:k < n)(hm:m<=k)(hu:Up lt p k)(ha:∀ i,i < m->lt (g p i) (g p k)=true)(hb:∀ i,m<=i->i < k->lt (g p k) (g p i)=true):Up lt (bubble p k<|k - m) (k+1):=λi j hi hj=>by
 have hs:k < p.size:=by rw[P.size];exact hk
 rw[v9 hs hm,v9 hs hm]
 by_cases c:i=m
 ·rw[BL c,BK (by omega),BL<|by omega];exact hb _ (by omega)<|by omega
 ·rw[BK c]
  by_cases d:j=m
  ·rw[BL d,BK<|by omega];exact ha i<|by omega
  ·rw[BK d]
   by_cases e:m < i/\i<=k
   ·rw[BL e,BL<|by omega];exact hu _ _ (by omega)<|by omega
   ·rw[BK e]
    by_cases f:m < j/\j<=k
    ·rw[BL f];exact hu _ _ (by omega)<|by omega
    ·rw[BK f];exact hu _ _ hi<|by omega
theorem Rq(A:dP lt cmp J n):∀(f:Nat) (p:Array Nat) (k:Nat) (Q:Array Nat->Shared->Prop) (s:Shared),Pm p n->1<=k->k+f=n->Up lt p k->J s->(∀ q s',J s'->Pm q n->Up lt q n->Q q s')->(kas_bin f p k).kasWp cmp Q s
 | 0,p,k,Q,s,P,h1,h2,hu,hJ,q=>by
  have:k=n:=by omega
  subst this;exact q p s hJ P hu
 | f+1,p,k,Q,s,P,h1,h2,hu,hJ,q=>by
  unfold kas_bin;rw[JT];refine IQ A P (by omega) hu k 0 k _ s (Ao _) (Cf _) (by omega) hJ (λi hi=>by omega) (λi hi Rp=>by omega) λm s' gJ hm ha hb=>?_;exact Rq A f _ (k+1) Q s' (q9c P (by omega) hm) (by omega) (by omega) (q9a P (by omega) hm hu ha hb) gJ q
def q6q(A:dP lt cmp J n){Q:Array Nat->Shared->Prop}{s:Shared}(h2:2<=n)(hJ:J s)(q:∀ p s',J s'->Pm p n->Up lt p n->Q p s'):(kas_sort n).kasWp cmp Q s:=by
 unfold kas_sort;rw[JT];refine q16 A (Rm n) h2 hJ λr p s' gJ r1 r2 P hu=>?_;show(if r < n then kas_bin (n - max r 1) p (max r 1)else .ret p:KasT _).kasWp cmp Q s';have em:max r 1=r:=by omega
 rw[em]
 by_cases c:r < n
 ·rw[BL c];exact Rq A (n - r) p r Q s' P r1 (by omega) hu gJ q
 ·rw[BK c];have:r=n:=by omega
  subst this;exact q p s' gJ P hu
end
def Rr{p:Array Nat}{n:Nat}(P:Pm p n):p.toList.Nodup:=by
 rw[Co,Bu];intro i j hi hj eR e;have xR:i < n:=by rw[Bv,P.size]at hi;exact hi
 have pE:j < n:=by rw[Bv,P.size]at hj;exact hj
 have e1:g p i=p.toList[i]:=jD (by rw[<- Cd];exact Ab hi);have e2:g p j=p.toList[j]:=jD (by rw[<- Cd];exact Ab hj);have:=P.inj i j xR pE (by rw[e1,e2,e]);omega
def IT{p:Array Nat}{n v:Nat}(P:Pm p n)(h:v∈p.toList):v < n:=by
 obtain⟨i,hi⟩:=Bm h;have hl:i < n:=by have:=(Ac.mp hi).1;rw[Bv,P.size]at this;exact this
 have e1:g p i=v:=jD (by rw[<- Cd];exact hi);rw[<- e1];exact P.lt i hl
def q5q{p:Array Nat}{n:Nat}(P:Pm p n):p.toList.Perm (List.range n):=by
 rw[Fj (Rr P) QZ];intro v;rw[Bw];refine⟨λh=>IT P h,λh=>DN λhn=>?_⟩;have l1:p.toList.length<=((List.range n).erase v).length:=Nt.bg (Rr P) λz hz=>by
  have bn:z≠v:=λe=>hn<|e ▸ hz;exact(Fk bn).mpr<|Bw.mpr<|IT P hz
 rw[Fy<|Bw.mpr h,Bv,P.size,Fh]at l1;omega
def Hd(h:Heap)(v:Value)(z:Str):Prop:=∃ a o xs n t,v = .ref a/\h.get? a=some o/\o.cls = .type "tuple"/\o.data = .seq xs n/\xs[0]?=some (.str z t)
def Hd.keep{h h':Heap}{v:Value}{z:Str}(x:Hd h v z)(k:∀ a o,v = .ref a->h.get? a=some o->h'.get? a=some o):Hd h' v z:=by
 obtain⟨a,o,xs,n,t,e,h1,h2⟩:=x;exact⟨a,o,xs,n,t,e,k a o e h1,h2⟩
def qM(h:Heap)(vs:Ó)(zs:Ñ):Prop:=vs.length=zs.length/\∀(i:Nat) v z,vs[i]?=some v->zs[i]?=some z->Hd h v z
def ltZ(zs:Ñ)(i j:Nat):Bool:=decide ((zs.getD i ⟨#[]⟩).cps.toList < (zs.getD j ⟨#[]⟩).cps.toList)
section
variable{prog:Program}{w:World}{A:Around}{E:Î}{s:Shared}
theorem Rt:∀{h:Heap} {vs:Ó} {zs:Ñ},qM h vs zs->∃ fs,KatTups h vs fs/\fs.length=vs.length/\∀ f∈fs,∃ z t,f=Value.str z t
 | h,[],_,_=>⟨[],KatTups.nil,rfl,λf hf=>by cases hf⟩
 | h,v :: vs,[],hh=>by have:=hh.1;simp at this
 | h,v :: vs,z :: zs,hh=>by
  obtain⟨fs,k1,k2,k3⟩:=Rt (h:=h) (vs:=vs) (zs:=zs) ⟨by have:=hh.1;simpa using this,λi a b h1 h2=>hh.2 (i+1) a b (by simpa using h1)<|by simpa using h2⟩;obtain⟨a,o,xs,n,t,rfl,h1,h2,h3,h4⟩:=hh.2 0 v z rfl rfl;refine⟨.str z t :: fs,KatTups.cons h1 h2 h3 h4 k1,by rw[Ar,Ar,k2],λf hf=>?_⟩
  rcases Ak.mp hf with rfl | hf
  ·exact⟨z,t,rfl⟩
  ·exact k3 f hf
def q69{x y:Value}{z u:Str}{Q:Bool->Shared->Prop}(hx:Hd s.heap x z)(hy:Hd s.heap y u)(bn:z≠u)(h:Q (decide (z.cps.toList < u.cps.toList)) s):wpAny (model prog w) A (keyLt' (tuples' true) x y) Q E s:=by
 obtain⟨a,o,xs,n,t,rfl,h1,h2,h3,h4⟩:=hx;obtain⟨b,o',ys,n',t',rfl,g1,g2,g3,g4⟩:=hy;refine kat_lt h1 h3 g1 g3 ?_;have ex:∃ r,xs.toList = .str z t :: r:=by
  have:xs.toList[0]?=some (.str z t):=by rw[Cd];exact h4
  cases e:xs.toList with
  | nil=>rw[e]at this;cases this
  | cons c r=>rw[e]at this;cases this;exact⟨r,rfl⟩
 have ey:∃ r,ys.toList = .str u t' :: r:=by
  have:ys.toList[0]?=some (.str u t'):=by rw[Cd];exact g4
  cases e:ys.toList with
  | nil=>rw[e]at this;cases this
  | cons c r=>rw[e]at this;cases this;exact⟨r,rfl⟩
 obtain⟨rx,ex⟩:=ex;obtain⟨ry,ey⟩:=ey;rw[ex,ey];show KatLex prog w A true _ Q ((.str z t,.str u t') :: rx.zip ry) 0 s;refine kat_cons<|eqBool_str ?_;have:(z == u)=false:=beq_eq_false_iff_ne.mpr bn;rw[this];exact kat_no<|oneLt_str h
def q4y{a b:Str}(h:a.cps.toList=b.cps.toList):a=b:=by
 apply Str.ext';exact Array.toList_inj.mp h
def q0n{vs:Ó}{zs:Ñ}(hh:qM s.heap vs zs)(hn:zs.Nodup):dP (ltZ zs) (kas_ask prog w A (tuples' true) vs) (λs'=>s'=s) vs.length:=by
 have hl:=hh.1;have gz:∀ i,(hi:i < zs.length)->zs.getD i ⟨#[]⟩=zs[i]:=λi hi=>by simp[hi]
 have gv:∀ i,(hi:i < vs.length)->vs.getD i Value.none=vs[i]:=λi hi=>by simp[hi]
 have ne:∀ i j,(hi:i < zs.length)->(hj:j < zs.length)->i≠j->zs[i]≠zs[j]:=λi j hi hj eR e=>by
  rcases Nat.lt_or_gt_of_ne eR with c | c
  ·exact Bu.mp (Co.mp hn) i j hi hj c e
  ·exact Bu.mp (Co.mp hn) j i hj hi c e.symm
 refine⟨λi j C s' hi hj eR hs hC=>?_,λi j hi hj eR=>?_,λi j h=>?_,λi j k h1 h2=>?_⟩
 ·subst hs;unfold kas_ask;rw[gv i hi,gv j hj];have e:ltZ zs i j=decide (zs[i].cps.toList < zs[j].cps.toList):=by unfold ltZ;rw[gz i (by omega),gz j<|by omega]
  refine q69 (hh.2 i _ zs[i] (Ab hi)<|Ab<|by omega) (hh.2 j _ zs[j] (Ab hj)<|Ab<|by omega) (ne i j (by omega) (by omega) eR) ?_;rw[<- e];exact hC s' rfl
 ·unfold ltZ;rw[gz i (by omega),gz j (by omega),CN,CN]
  by_cases c:zs[i].cps.toList < zs[j].cps.toList
  ·exact .inl c
  ·by_cases d:zs[j].cps.toList < zs[i].cps.toList
   ·exact .inr d
   ·have:zs[i].cps.toList=zs[j].cps.toList:=List.le_antisymm (List.not_lt.mp d)<|List.not_lt.mp c;exact absurd (q4y this)<|ne i j (by omega) (by omega) eR
 ·unfold ltZ at h ⊢;have:=BX h;exact BR λq=>Gi _<|Go this q
 ·unfold ltZ at h1 h2 ⊢;exact BW<|Go (BX h1)<|BX h2
def map_range(vs:Ó):(List.range vs.length).map (λi=>vs.getD i Value.none)=vs:=by
 apply RB
 ·simp
 ·intro i h1 h2;simp[h2]
def q0k{a:Addr}{vs:Ó}{zs:Ñ}{n:Nat}{P:Fin->Shared->Prop}(ho:s.heap.get? a=some (seqObj "list" vs.toArray n))(bF:∀ v∈vs,v ≠ .ref a)(hh:qM s.heap vs zs)(hn:zs.Nodup)(pL:vs.length < 64)
  (h:∀ p:Array Nat,Pm p vs.length->Up (ltZ zs) p vs.length->P (.done<|.ret .none) {s with heap:=sortedHeap s.heap a vs (List.toArray<|p.toList.map λi=>vs.getD i Value.none)}) :
  wpAny (model prog w) A (Builtin.«list.sort» ⟨[.ref a],[]⟩) P E s:=by
 rw[list_sort_plain];have ha:a < s.heap.objs.size:=Au ho;have Ru:vs.length<=sizeLine:=by rw[DW];omega
 refine BJ<|NQ ho rfl ?_;refine BJ<|KZ ho rfl ?_;obtain⟨e1,mj⟩:∃ e1,(s.heap.update a<|Obj.mapSeq λ_=>#[]).get? a=some (seqObj "list" #[] e1):=⟨_,get?_update_seq ho λ_=>#[]⟩;refine BJ<|PN mj rfl ?_;refine BJ<|PK ?_;refine BJ<|JN ?_;refine CG ?_;have pN:(((s.heap.update a<|Obj.mapSeq λ_=>#[]).push<|seqObj "tuple" vs.toArray 0).push<|seqObj "list" #[] 0).get? a=some (seqObj "list" #[] e1):=Ai _<|Ai _ mj;show wpAny (model prog w) A _ P E {s with heap:=((s.heap.update a<|Obj.mapSeq λ_=>#[]).push<|seqObj "tuple" vs.toArray 0).push (seqObj "list" #[] 0)};have Rv:qM (((s.heap.update a<|Obj.mapSeq λ_=>#[]).push<|seqObj "tuple" vs.toArray 0).push<|seqObj "list" #[] 0) vs zs:=⟨hh.1,λi v z h1 h2=>(hh.2 i v z h1 h2).keep λb o e q=>by
  have hb:a≠b:=λe2=>bF v (As h1) (by rw[e,e2]);exact Ai _<|Ai _<|(Cg _ _ hb).trans q⟩
 dsimp only
 have hsz:vs.toArray.size=vs.length:=by simp
 by_cases h2:vs.toArray.size < 2
 ·rw[BL h2,BL h2];refine BJ<|BP ?_;rw[StateT.run_pure];refine BJ<|BP ?_
  dsimp only
  have e5:(arrOf<|SortSt.mk' general' (vs.toArray.zip vs.toArray) #[] 7 none).map (·.2)=vs.toArray:=by
   show(vs.toArray.zip vs.toArray).map (·.2)=_;apply Array.toList_inj.mp;simp[List.map_snd_zip]
  refine BJ<|PN pN rfl ?_;refine BJ (KZ pN rfl ?_ (hsz2:=by rw[e5,hsz];omega));simp only[FT,Bb,CT];refine BP ?_;rw[e5];have fin:=h (List.toArray<|List.range vs.length) (Rm _) λi j hi hj=>by rw[hsz]at h2;omega
  have e6:(List.toArray<|List.range vs.length).toList.map (λi=>vs.getD i Value.none)=vs:=map_range vs;rw[e6]at fin;exact fin
 ·rw[BK h2,BK h2];obtain⟨fs,k1,k2,k3⟩:=Rt Rv;rw[hsz]at h2;refine BJ<|kat_kind (T:= .type "str") k1 (by omega) (λf hf=>?_) (by decide) ?_
  ·obtain⟨z,t,rfl⟩:=k3 f hf;exact Looks.of_pure rfl
  refine BJ<|CV (kat_run (prog:=prog) (w:=w) (A:=A) (E:=E) (κ:=tuples' true) (ks:=vs) (vs:=vs) (Q:=λd9 s'=>s'={s with heap:=((s.heap.update a<|Obj.mapSeq λ_=>#[]).push<|seqObj "tuple" vs.toArray 0).push (seqObj "list" #[] 0)}/\∃ p:Array Nat,Pm p vs.length/\Up (ltZ zs) p vs.length/\arrOf d9=p.map (kas_item<|vs.toArray.zip vs.toArray)/\failedOf d9=none)
   (G:=λp s'=>s'={s with heap:=((s.heap.update a<|Obj.mapSeq λ_=>#[]).push<|seqObj "tuple" vs.toArray 0).push (seqObj "list" #[] 0)}/\Pm p vs.length/\Up (ltZ zs) p vs.length) rfl (by omega) pL (λp d9 s' _ a2 a3 a4=>⟨a4.1,p,a4.2.1,a4.2.2,a2,a3⟩)
   (q6q (q0n (s:={s with heap:=((s.heap.update a<|Obj.mapSeq λ_=>#[]).push<|seqObj "tuple" vs.toArray 0).push (seqObj "list" #[] 0)}) Rv hn) (by omega) rfl λp s' e P U=>⟨e,P,U⟩)) ?_ λ_ _ e=>e
  rintro ⟨⟨⟩,d9⟩ s' ⟨rfl,p,P,U,xT,hf⟩
  dsimp only
  have e3:=kat_snds (ks:=vs) (vs:=vs) rfl xT;refine BJ<|PN pN rfl ?_;refine BJ (KZ pN rfl ?_ (hsz2:=by rw[e3,Ay,Aa,Bv,P.size];omega));rw[hf];simp only[FT,Bb,CT];refine BP ?_;rw[e3];exact h p P U
def q3x{l:Addr}{vs:Ó}{zs:Ñ}{Q:Î}(hl:s.heap.IsList l vs.toArray)(hh:qM s.heap vs zs)(hn:zs.Nodup)(pL:vs.length < 64)
  (h:∀(h':Heap) (e:Nat) (p:Array Nat),Pm p vs.length->Up (ltZ zs) p vs.length->(∀ b u,s.heap.get? b=some u->h'.get? b=some u)->h'.get? (s.heap.objs.size+1)=some (seqObj "list" (List.toArray<|p.toList.map λi=>vs.getD i Value.none) e)->Q (.ref<|s.heap.objs.size+1) {s with heap:=h'}) :
  wpAny (model prog w) A (call (.builtin "sorted") [.ref l]) Q E s:=by
 have Ru:vs.length<=sizeLine:=by rw[DW];omega
 refine Calls.call_function_entry kind_sorted plain_sorted entry_sorted (args_sorted1 _) ?_;unfold Builtin.«sorted»;refine BJ (m:=checkCount "sorted" 1 1 _)<|BP ?_;refine BJ<|collect_list (vs:=vs) hl ?_;refine BJ<|JN ?_;have hsz:((s.heap.push<|seqObj "list" #[] 0).update s.heap.objs.size (Obj.mapSeq (·++vs.toArray))).objs.size=s.heap.objs.size+1:=by
  rw[Heap.size_update,size_push']
 have j4:(((s.heap.push<|seqObj "list" #[] 0).update s.heap.objs.size (Obj.mapSeq (·++vs.toArray))).push<|seqObj "list" vs.toArray 0).get? (s.heap.objs.size+1)=some (seqObj "list" vs.toArray 0):=by
  rw[<- hsz];exact Av _ rfl
 have hhL:qM (((s.heap.push<|seqObj "list" #[] 0).update s.heap.objs.size (Obj.mapSeq (·++vs.toArray))).push<|seqObj "list" vs.toArray 0) vs zs:=⟨hh.1,λi v z h1 h2=>(hh.2 i v z h1 h2).keep λb o e q=>
  Ai _ ((Cg _ _<|Ct<|Au q).trans<|Ai _ q)⟩
 have bn:∀ v∈vs,v ≠ .ref (s.heap.objs.size+1):=λv hv e=>by
  obtain⟨i,hi⟩:=Bm hv;have hl:=hh.1;have hiz:i < zs.length:=by have:=(Ac.mp hi).1;omega
  obtain⟨b,o,xs,n,t,e2,h1,_⟩:=hh.2 i v zs[i] hi<|Ab hiz;rw[e2]at e;cases e;exact absurd (Nat.lt_of_succ_lt<|Au h1)<|De _
 show wpAny _ _ _ _ _ {s with heap:=((s.heap.push<|seqObj "list" #[] 0).update s.heap.objs.size (Obj.mapSeq (·++vs.toArray))).push (seqObj "list" vs.toArray 0)};rw[hsz];refine BJ<|CG<|DG slot_list_sort ⟨_,j4,rfl⟩ entry_list_sort (q0k j4 bn hhL hn pL λp P U=>⟨_,rfl,?_⟩)<|args_list_sort _;obtain⟨e,he⟩:=sortedAll_at s.heap vs<|List.toArray<|p.toList.map λi=>vs.getD i Value.none;exact BP ⟨_,rfl,h _ e p P U (λb u hb=>sortedAll_old hb) he⟩
end
end oH
namespace L2
open PySem PySem.Spec PyProof.Rows oH
theorem Rw:∀{ts:List Addr} {its:Ó},aA (ts.map V.ref) its->its=ts.map Value.ref
 | [],its,r=>r.zero
 | t :: ts,its,r=>by
  cases r with
  | cons h1 h2=>
   rw[Rw h2];have:_=Value.ref t:=h1;rw[this];rfl
theorem Rx:∀(ts:List Addr),aA (ts.map V.ref)<|ts.map Value.ref
 | []=> .nil
 | t :: ts=> .cons rfl (Rx ts)
def k5q{α β:Type}(xs:List α)(ys:List β)(h:xs.length=ys.length)(a:α)(b:β):(List.range xs.length).map (λi=>(xs.getD i a,ys.getD i b))=xs.zip ys:=by
 apply RB
 ·simp[h]
 ·intro i h1 h2;have hx:i < xs.length:=by simp at h1;exact h1
  have hy:i < ys.length:=by omega
  simp[hx,hy]
section
variable{X:Cx}{σ:St}{H:Hp}
def k0l:gO X (.builtin "sorted") (λxs H Q=>∃(l:Addr) (ts:List Addr) (zs:Ñ),xs=[.ref l]/\ak X.K H l (ts.map V.ref)/\ts.length=zs.length/\zs.Nodup/\ts.length < 64/\(∀(i:Nat) t z,ts[i]?=some t->zs[i]?=some z->∃ r,H t=some (.tup<|.str z :: r)) /\
  ∀(r:Addr) (ps:List<|Addr×Str),H r=none->ps.Perm (ts.zip zs)->ps.Pairwise (λa b=>a.2.cps.toList < b.2.cps.toList)->Q (.ref r) (upd H r<|.lst<|ps.map λp=> .ref p.1)):=by
 intro pins s σ H xs us Q I r h;obtain⟨l,ts,zs,rfl,hl,hlen,hn,pL,hd,q⟩:=h;obtain⟨u,rfl,ru⟩:=vals1 r;cases (show u=Value.ref l from ru);obtain⟨its,rv,pl,_⟩:=I.list hl;have ei:=Rw rv;subst ei;have hh:qM s.heap (ts.map Value.ref) zs:=by
  refine⟨by rw[Aa];exact hlen,λi v z h1 h2=>?_⟩;rw[Aj,Az]at h1;obtain⟨t,ht,rfl⟩:=h1;obtain⟨rr,hr⟩:=hd i t z ht h2;obtain⟨its,r3,tp,_⟩:=I.tuple<|aP.of hr;cases r3 with
  | cons a1 a2=>
   obtain⟨tk,rfl⟩:=a1;obtain⟨o,ho,hc,n,hd2⟩:=tp;exact⟨t,o,_,n,tk,rfl,ho,hc,hd2,rfl⟩
 refine q3x pl.isList hh hn (by rw[Aa];exact pL) λh' e p P U kp he=>?_;rw[Aa]at P U;have gp:∀ i,i < ts.length->g p i < ts.length:=P.lt;have pl2:p.toList.length=ts.length:=by rw[Bv];exact P.size
 have e1:(p.toList.map λi=>(ts.map Value.ref).getD i Value.none)=((p.toList.map λi=>(ts.getD i 0,zs.getD i ⟨#[]⟩)).map λx=>x.1).map Value.ref:=by
  rw[Cn,Cn];refine Aq λi hi=>?_;have bd:=IT P hi;show(ts.map Value.ref).getD i Value.none=Value.ref (ts.getD i 0);simp[bd]
 refine⟨.ref _,_,I.fc (s':={s with heap:=h'}) kp rfl rfl (Em _) (show aB X.prog X.w _ h' _ (.lst<|(p.toList.map λi=>(ts.getD i 0,zs.getD i ⟨#[]⟩)).map λx=>V.ref x.1)from ?_),rfl,q _ (p.toList.map λi=>(ts.getD i 0,zs.getD i ⟨#[]⟩)) (I.aI.fresh<|Em _) ?_ ?_⟩
 ·refine⟨by rw[Aa,Aa,pl2,DW];omega,_,e,?_,he⟩;rw[e1];have:=Rx<|(p.toList.map λi=>(ts.getD i 0,zs.getD i (⟨#[]⟩:Str))).map λx=>x.1;rw[Cn]at this;exact this
 ·rw[<- k5q ts zs hlen 0 ⟨#[]⟩];exact(q5q P).map _
 ·rw[Bu];intro i j hi hj eR;rw[Aa]at hi hj;have:=U i j eR (by omega);have q1:g p i=p.toList[i]:=jD (by rw[<- Cd];exact Ab hi);have q2:g p j=p.toList[j]:=jD (by rw[<- Cd];exact Ab hj);rw[q1,q2]at this;rw[Dw,Dw];exact BX this
def k6m{e1 e2 e3:Expr}{k:Nat}{pos:Pos}{t:Addr}{x y z:V}{R:St->Hp->Prop}(hc:X.calm=true)(ht:aP X.K H t [x,y,z])(h:Eg X e1 x σ H λσ1 H1=>Eg X e2 y σ1 H1 λσ2 H2=>Eg X e3 z σ2 H2 R)
  (hn:(assignEach [e1,e2,e3] X.env).length=3:=by rfl) (db:(assignEach [e1,e2,e3] X.env).findIdx? (·.1)=none:=by rfl)
  (jM:(assignEach [e1,e2,e3] X.env).map (·.2)=assign e1 X.env :: (assignEach [e2,e3] X.env).map (·.2):=by rfl) (sf:(assignEach [e2,e3] X.env).map (·.2)=assign e2 X.env :: (assignEach [e3] X.env).map (·.2):=by rfl) (xN:(assignEach [e3] X.env).map (·.2)=assign e3 X.env :: (assignEach [] X.env).map (·.2):=by rfl) :
  Eg X (.Tuple [e1,e2,e3] k pos) (.ref t) σ H R:=
 CB (Mi (t:=rm (λv σ H Q=>Eg X e1 v σ H Q)<|rm (λv σ H Q=>Eg X e2 v σ H Q)<|rm (λv σ H Q=>Eg X e3 v σ H Q) oV) hc (tT pv (tT pv (tT pv Mh xN) sf) jM) hn db)
  ⟨t,_,rfl,ht,rfl,_,_,rfl,h.mono λσ1 H1 h1=>⟨_,_,rfl,h1.mono λσ2 H2 h2=>⟨_,_,rfl,h2.mono λσ3 H3 q=>⟨rfl,q⟩⟩⟩⟩
end
end L2
namespace E7
open PySem L2 Nt bw
abbrev T3(x:Lk):HO:= .tup [.str x.1,.str x.2.1,.str x.2.2]
def mU(H:Hp)(us:List Addr)(ls:List Lk):Prop:=us.length=ls.length/\∀(j:Nat) u x,us[j]?=some u->ls[j]?=some x->H u=some (T3 x)
def mU.keep{H H':Hp}{us:List Addr}{ls:List Lk}(h:mU H us ls)(k:∀ t xs,H t=some (.tup xs)->H' t=some (.tup xs)):mU H' us ls:=⟨h.1,λj u x h1 h2=>k _ _<|h.2 j u x h1 h2⟩
def mU.snoc{H:Hp}{us:List Addr}{ls:List Lk}{u:Addr}{x:Lk}(h:mU H us ls)(hu:H u=some (T3 x)):mU H (us++[u]) (ls++[x]):=by
 refine⟨by rw[Ad,Ad,h.1];rfl,λj v y h1 h2=>?_⟩;have hl:=h.1
 by_cases hj:j < us.length
 ·rw[An hj]at h1;rw[An<|by omega]at h2;exact h.2 j v y h1 h2
 ·rw[Am<|by omega]at h1 h2;have eV:j - us.length=0:=by
   have:=(Ac.mp h1).1;simp at this;omega
  rw[eV]at h1;rw[<- hl,eV]at h2;cases h1;cases h2;exact hu
def zq(ls:List Lk):Prop:=ls.Pairwise λx y=>x.1.cps.toList < y.1.cps.toList
def IU:Sp:=λvs H Q _=>∃(R:Addr) (as:Ï) (n:Net),vs=[.ref R]/\ai H R as n/\av n/\n.length<=1000/\(ag n).length<=60 /\
 ∀(L:Addr) (us:List Addr) (ls:List Lk) (H':Hp),ah H H'->H L=none->H' L=some (.lst<|us.map V.ref)->mU H' us ls->zq ls->(∀ x,x∈ls↔oa n x)->ls.length<=60->Q (.ref L) H'
def q2c{n:Net}(T:av n){r p:Nat}{z:Str}(hr:r < n.length)(hz:(row n r)[p]?=some z):(bJ (bp (n.take r)++bu r ((row n r).take p) 0) z).length<=1:=by
 obtain⟨rest,h⟩:=vx hr hz;have h1:bJ (bp n) z=bJ (bp (n.take r)++bu r ((row n r).take p) 0) z++(r,p) :: bJ rest z:=by
  rw[h];unfold bJ;rw[Cu,Ag,RM<|by simp];rfl
 have h2:(bJ (bp n) z).length=2:=by
  have:=pP n z;rw[T z<|dG (e:=(r,p)) hz]at this;exact this
 rw[h1,Ad,Ar]at h2;omega
section
variable{P:Program}{w:World}{K:PySem.W.Frag}{mg:Ò}{base:Heap}
abbrev NLk:Ñ:=["rows","met","links","point","ties","tie"]
def wa:ao NLk ["rows"] (aT EG):=⟨rfl,rfl,rfl,by decide +kernel,rfl,by decide +kernel,by decide +kernel⟩
def q2g{f:Addr}{fd:FuncData}(F:bv K "links_of" "links_of" EG f fd)(T:Txt mg):aE P w K mg base bD 1 f fd ["rows"] IU:=by
 refine F.gb wa (λvs H Q E h=>?_) λb0 H vs Q E hr h=>?_
 ·obtain⟨R,as,n,rfl,_⟩:=h;rfl
 obtain⟨R,as,n,rfl,hR,hT,hn,g6,q⟩:=h;have nd:=wa.nd;have bF:=hR.len;have hu:=hr.u1;show Run _ _ _ [some<|.ref R,none,none,none,none,none] H;refine aW 1 nd<|D6 λdm qA=>?_;refine aW 2 nd (cC<|az ⟨(by show 0<=sizeLine;decide),λM hM=>?_⟩);have zu:M≠dm:=λe=>by rw[e,aw]at hM;cases hM
 have IY:H M=none:=by rw[ax zu]at hM;exact hM
 have s0:ah H (upd (upd H dm<|.dK []) M<|.lst []):=(aH qA _).trans<|aH hM _;have Ry:(upd (upd H dm<|.dK []) M<|.lst []) dm=some (.dK []):=by rw[ax<|CK zu,aw]
 have RA:(upd (upd H dm<|.dK []) M<|.lst []) M=some (.lst []):=aw;show Run _ _ _ [some<|.ref R,some<|.ref dm,some<|.ref M,none,none,none] (upd (upd H dm<|.dK []) M<|.lst []);generalize upd (upd H dm<|.dK []) M (.lst [])=H0 at s0 Ry RA;have IZ:(bp n).length=(ag n).length:=by rw[<- ll n 0,Aa];rfl
 refine ia<|ae 0 ⟨R,rfl,⟨_,ak.of<|s0 _ _ hR.lst⟩,ib (xs:=as.map λa=>V.ref a.1) (λr σ H'=>∃(kM:List<|Key×V) (us:List Addr) (ls:List Lk) (u1 u2 u3:Option V),ah H H'/\H' dm=some (.dK kM)/\H' M=some (.lst<|us.map V.ref)/\mU H' us ls/\iQ n (bp<|n.take r) kM ls/\σ=[some<|.ref R,some<|.ref dm,some<|.ref M,u1,u2,u3])
  ⟨[],[],[],_,_,_,s0,Ry,RA,⟨rfl,λj u x h=>by simp at h⟩,iQ.start n,rfl⟩ ?_ ?_ ?_⟩
 ·rintro r σ H' _ ⟨_,_,_,_,_,_,sm,_⟩;exact ak.of<|sm _ _ hR.lst
 ·rintro r x σ H' hx ⟨kM,us,ls,u1,u2,u3,sm,ed,eM,fe,I,rfl⟩;have hi:r < n.length:=by
   have:=(Ac.mp hx).1;rw[Aa]at this;omega
  obtain⟨a,ea,dY,et,el,er⟩:=(hR.same sm).at hi;rw[Aj,ea]at hx;cases hx;refine jq rfl (aP.of et) (a8 3 nd<|a8 4 nd ?_);refine ia<|ae 4 ⟨a.2,rfl,⟨_,ak.of el⟩,ib (xs:=(row n r).map V.str) (λp σ bT=>∃(kM:List<|Key×V) (us:List Addr) (ls:List Lk) (u3:Option V),ah H bT/\bT a.2=some (Ls<|row n r)/\bT dm=some (.dK kM)/\bT M=some (.lst<|us.map V.ref)/\mU bT us ls/\iQ n (bp (n.take r)++bu r ((row n r).take p) 0) kM ls/\σ=[some<|.ref R,some<|.ref dm,some<|.ref M,some<|.str n[r].1,some<|.ref a.2,u3])
   ⟨kM,us,ls,_,sm,el,ed,eM,fe,by simpa[bu]using I,rfl⟩ ?_ ?_ ?_⟩
  ·rintro p σ bT _ ⟨_,_,_,_,_,e,_⟩;exact ak.of e
  ·rintro p x σ bT hx ⟨kM,us,ls,u3,sm,el,ed,eM,fe,I,rfl⟩;have hp:p < (row n r).length:=by
    have:=(Ac.mp hx).1;rw[Aa]at this;exact this
   have hz:(row n r)[p]?=some (row n r)[p]:=Ab hp;rw[Aj,hz]at hx;cases hx;have jM:=pS (r:=r) hz;have hle:=q2c hT hi hz;have RC:(bp (n.take r)++bu r ((row n r).take p) 0).length<=60:=by
    obtain⟨rest,wc⟩:=vx hi hz;have h1:=BZ List.length wc;simp only[Ad]at h1 ⊢;omega
   have lM:=I.dM;have lL:=I.mE;have lA:=fe.1;have RE:aF n r=n[r].1:=n9 hi;have naM:a.2≠M:=λe=>by
    have:=(hR.tup r a n[r] ea<|Ab hi).2;rw[e,IY]at this;cases this
   generalize (row n r)[p]=z at hz jM hle;refine a8 5 nd ?_;refine hV<|OA hu<|ae 5<|ae 1 ⟨dm,_,rfl,bE.k (k:=Sum.inr z) ed,?_⟩;cases jR:bJ (bp (n.take r)++bu r ((row n r).take p) 0) z with
   | nil=>
    rw[I.m0 z jR];show if false=true then _ else _;rw[BK<|by decide];refine xW hu<|ae 3<|ae 1<|ae 5 ⟨dm,_,rfl,cw.k (k:=Sum.inr z) ed (bS<|by omega),bb<|bb ⟨_,us,ls,_,dX sm qA,?_,aw,?_,fe.keep λt xs h=>?_,?_,rfl⟩⟩
    ·rw[ax<|ce el ed λz=>nomatch z];exact el
    ·rw[ax zu];exact eM
    ·rw[ax<|ce h ed λz=>nomatch z];exact h
    ·rw[jM,<- At];have:=I.new (e:=(r,p)) jR;show iQ n _ (putK kM (Sum.inr z)<|.str n[r].1) ls;rw[<- RE];exact this
   | cons b rest=>
    have hr0:rest=[]:=by
     rw[jR]at hle;exact Bd.mp<|by have:rest.length+1<=1:=hle;omega
    subst hr0;have vm:=I.m1 z b [] jR;rw[vm];show if true=true then _ else _;rw[BL rfl];refine fX (jj<|ae 2 ⟨M,rfl,⟨_,eM⟩,dW<|aq<|ae 5<|aq<|jm hu<|ae 1<|ae 5 ⟨dm,.str<|aF n b.1,rfl,by rw[<- vm];exact bE.k (k:=Sum.inr z) ed,aq<|ae 3<|az ⟨(by show 3<=sizeLine;decide),λt ht=>?_⟩⟩⟩);have sT:=aH ht<|.tup [.str z,.str<|aF n b.1,.str n[r].1];have ntM:t≠M:=λe=>by rw[e,eM]at ht;cases ht
    have qI:(upd bT t<|.tup [.str z,.str<|aF n b.1,.str n[r].1]) t=some (T3 (z,aF n b.1,aF n (r,p).1)):=by
     rw[aw];show _=some (HO.tup [.str z,.str<|aF n b.1,.str<|aF n r]);rw[RE]
    have kT:∀ c xs,(upd bT t<|.tup [.str z,.str<|aF n b.1,.str n[r].1]) c=some (.tup xs)->(upd (upd bT t<|.tup [.str z,.str<|aF n b.1,.str n[r].1]) M<|.lst<|us.map V.ref++[.ref t]) c=some (.tup xs):=λc xs h=>by
     rw[ax<|ce h (sT _ _ eM) λz=>nomatch z];exact h
    refine⟨_,sT _ _ eM,by rw[Aa];exact bS (by omega),bb<|bb ⟨kM,us++[t],ls++[(z,aF n b.1,aF n (r,p).1)],_,dX (sm.trans sT) IY,?_,?_,?_,?_,?_,rfl⟩⟩
    ·rw[ax naM];exact sT _ _ el
    ·rw[ax<|CK zu];exact sT _ _ ed
    ·rw[aw,Ag];rfl
    ·exact((fe.keep λc xs h=>sT _ _ h).snoc qI).keep kT
    ·rw[jM,<- At];exact I.old (e:=(r,p)) jR
  ·rintro σ bT ⟨kM,us,ls,u3,sm,_,ed,eM,fe,I,rfl⟩;rw[Aa,Br]at I;refine bb ⟨kM,us,ls,_,_,_,sm,ed,eM,fe,?_,rfl⟩;rw[rY hi];exact I
 ·rintro σ H' ⟨kM,us,ls,u1,u2,u3,sm,ed,eM,fe,I,rfl⟩;rw[Aa,bF,Br]at I;have lL:=I.mE;have lA:=fe.1;have bd:us.length < 64:=by omega
  refine bN (cF k0l T.sorted DY (aq (ae 2 (az ⟨M,us,ls.map (·.1),rfl,ak.of eM,by rw[Aa];exact lA,I.qh,bd,λi t z h1 h2=>?_,λL ps hL hp hs=>?_⟩))))
  ·rw[Aj,Az]at h2;obtain⟨x,hx,rfl⟩:=h2;exact⟨_,fe.2 i t x h1 hx⟩
  have pick:∀ p∈ps,∃ x,x∈ls/\x.1=p.2/\H' p.1=some (T3 x):=λp ji=>by
   have hz:=hp.mem_iff.mp ji;obtain⟨i,hi⟩:=Bm hz;rw[List.getElem?_zip_eq_some]at hi;obtain⟨h1,h2⟩:=hi;rw[Aj,Az]at h2;obtain⟨x,hx,e⟩:=h2;exact⟨x,As hx,e,fe.2 i _ x h1 hx⟩
  obtain⟨xs,gU⟩:∃ xs:List Lk,xs.length=ps.length/\∀(j:Nat) p x,ps[j]?=some p->xs[j]?=some x->x∈ls/\x.1=p.2/\H' p.1=some (T3 x):=by
   clear hs hp
   induction ps with
   | nil=>exact⟨[],rfl,λj p x h=>by simp at h⟩
   | cons p r ih=>
    obtain⟨x,q1,q2,q3⟩:=pick p<|Af ..;obtain⟨xs,l1,l2⟩:=ih λc hc=>pick c<|Ah _ hc;refine⟨x :: xs,by rw[Ar,Ar,l1],λj c y h1 h2=>?_⟩;cases j with
    | zero=>
     cases h1;cases h2;exact⟨q1,q2,q3⟩
    | succ j=>exact l2 j c y (by simpa using h1)<|by simpa using h2
  obtain⟨lx,gU⟩:=gU;have lp:ps.length=ls.length:=by rw[hp.length_eq,List.length_zip,Aa];omega
  have sL:=aH hL<|.lst<|ps.map λp=> .ref p.1;have RF:zq xs:=by
   unfold zq;rw[Bu];intro i j hi hj eR;have a1:=(gU i ps[i] xs[i] (Ab<|by omega)<|Ab hi).2.1;have a2:=(gU j ps[j] xs[j] (Ab<|by omega)<|Ab hj).2.1;rw[a1,a2];exact Bu.mp hs i j (by omega) (by omega) eR
  have qN:(xs.map (·.1)).Nodup:=by
   rw[Co,Eu];exact RF.imp λh e=>by rw[e]at h;exact Gi _ h
  have qO:∀ x,x∈xs↔x∈ls:=λx=>by
   constructor
   ·intro h;obtain⟨j,hj⟩:=Bm h;have kq:=(Ac.mp hj).1;exact(gU j ps[j] x (Ab<|by omega) hj).1
   ·intro h;refine DN λhn=>?_;have I0:xs.Nodup:=by
     rw[Co]at qN ⊢;rw[Eu]at qN;exact qN.imp λh e=>h<|by rw[e]
    have:=bg I0 (b:=ls.erase x) λz hz=>by
     have hzl:z∈ls:=by
      obtain⟨j,hj⟩:=Bm hz;have kq:=(Ac.mp hj).1;exact(gU j ps[j] z (Ab<|by omega) hj).1
     exact(Fk λe:z=x=>hn<|e ▸ hz).mpr hzl
    rw[Fy h]at this;have:0 < ls.length:=SM h;omega
  refine q L (ps.map (·.1)) xs _ (sm.trans sL) (iT sm hL) (by rw[aw,Cn];rfl) ⟨by rw[Aa];omega,λj u x h1 h2=>?_⟩ RF (λx=>by rw[qO x];exact I.whole hT x) (by omega);rw[Aj,Az]at h1;obtain⟨p,oq,rfl⟩:=h1;exact sL _ _ (gU j p x oq h2).2.2
end
end E7
namespace L2
open PySem PySem.Spec PyProof.Rows
section
variable{X:Cx}{σ:St}{H:Hp}{Q:VK}
end
open bA
section
variable{prog:Program}{w:World}{A:Around}{E:Î}{s:Shared}{T:String}{r d:Addr}{n:Nat}{P:Nat->Value->Prop}{OK:Heap->Prop}
end
section
variable{X:Cx}
end
end L2
namespace L2
open PySem PySem.Spec PyProof.Rows
section
end
section
variable{X:Cx}
theorem RH(z:Str):∀ zs:Ñ,countIn (.str z) (zs.map PyData.str)=(zs.count z:Int)
 | []=>rfl
 | y :: r=>by
  rw[Bj,countIn,RH z r,Cz];simp only[same]
  rcases Bool.eq_false_or_eq_true (y == z)with hb | hb <;> simp only[hb,Bb,DP,CT] <;> push_cast <;> omega
def q9x(K:PySem.W.Frag):V->List V->Hp->VK->Prop:=λx vs H Q=>∃(l:Addr) (zs:Ñ) (z:Str),x = .ref l/\vs=[.str z]/\ak K H l (zs.map V.str)/\Q (.int (zs.count z:Int)) H
def Ja:pf X "list.count" (q9x X.K):=by
 intro pins s σ H x vs v us Q I rx rv h;obtain⟨l,zs,z,rfl,rfl,hH,q⟩:=h;cases rx;obtain⟨u,rfl,ru⟩:=rv.one;obtain⟨tk,rfl⟩:=ru;obtain⟨its,r,pl,hz⟩:=I.list hH;refine count_list_strs pl.isList (D0 r) ?_;rw[RH];exact⟨.int (zs.count z:Int),H,I.tok _,⟨_,rfl⟩,q⟩
end
section
variable{X:Cx}{σ:St}{H:Hp}{D:Ends}{body:Õ}
end
end L2
namespace Nt
open PySem L2
theorem RO(x:Str):∀{sd:Ñ},bP sd->∃ jt,bP jt/\∀ y,y∈jt↔y=x\/y∈sd
 | [],_=>⟨[x],Ge _ _,λy=>by simp⟩
 | a :: r,h=>by
  have h':=Cv.mp h
  by_cases q:x.cps.toList < a.cps.toList
  ·refine⟨x :: a :: r,Cv.mpr ⟨λy hy=>?_,h⟩,λy=>by simp⟩
   rcases Ak.mp hy with e | e
   ·rw[e];exact q
   ·exact Go q<|h'.1 y e
  ·rcases Gp.mp (List.not_lt.mp q)with q2 | q2
   ·obtain⟨jt,s1,s2⟩:=RO x h'.2;refine⟨a :: jt,Cv.mpr ⟨λy hy=>?_,s1⟩,λy=>?_⟩
    ·rcases (s2 y).mp hy with e | e
     ·rw[e];exact q2
     ·exact h'.1 y e
    ·rw[Ak,s2,Ak]
     constructor
     ·rintro (e | e | e)
      ·exact .inr<|.inl e
      ·exact .inl e
      ·exact .inr<|.inr e
     ·rintro (e | e | e)
      ·exact .inr<|.inl e
      ·exact .inl e
      ·exact .inr<|.inr e
   ·refine⟨a :: r,h,λy=>?_⟩;have:a=x:=bA.fE q2;subst this;simp
theorem RU:∀ L:Ñ,∃ sd,bP sd/\∀ y,y∈sd↔y∈L
 | []=>⟨[],List.Pairwise.nil,λ_=>Iff.rfl⟩
 | x :: L=>by
  obtain⟨sd,h1,h2⟩:=RU L;obtain⟨jt,h3,h4⟩:=RO x h1;exact⟨jt,h3,λy=>by rw[h4,h2,Ak]⟩
theorem qP(z:Str):∀ L:Ñ,decide (L.count z % 2=1)=aj (L.map λy=>decide (z=y))
 | []=>rfl
 | y :: L=>by
  show _=(decide (z=y) ^^ aj (L.map λy=>decide (z=y)));rw[<- qP z L,Cz]
  by_cases h:z=y
  ·subst h;rw[BW rfl,LC,BL rfl,Bool.true_xor,<- decide_not];exact decide_eq_decide.mpr<|by omega
  ·rw[BR h,BK λq=>h (eq_of_beq q).symm,Fo];rfl
theorem we{α β:Type}(f:α->β->Bool)(M:List β):∀ L:List α,aj (L.map λa=>aj<|M.map λb=>f a b)=aj (M.map λb=>aj<|L.map λa=>f a b)
 | []=>(iR M).symm
 | a :: L=>by
  show(aj (M.map λb=>f a b) ^^ aj (L.map λa=>aj<|M.map λb=>f a b))=aj (M.map λb=>f a b ^^ aj (L.map λa=>f a b));rw[we f M L,gY (λb=>f a b) λb=>aj<|L.map λa=>f a b]
def map_range{α β:Type}(l:List α)(f:α->β)(g:Nat->β)(h:∀ k x,l[k]?=some x->g k=f x):l.map f=(List.range l.length).map g:=by
 apply Dz;intro k;rw[Aj,Aj]
 by_cases hk:k < l.length
 ·rw[Ab hk,Eh hk];exact BZ some (h k _<|Ab hk).symm
 ·rw[Be (by omega),Be<|by simp;omega];rfl
def k8y{α:Type}(l:List α)(f g:α->Bool)(h:∀ k,k < l.length->∃ x y,l[k]?=some x/\l[(k+1) % l.length]?=some y/\g x=f y):aj (l.map g)=aj (l.map f):=by
 let F:Nat->Bool:=λk=>match l[k]? with | some x=>f x | none=>false
 have hf:l.map f=(List.range l.length).map F:=map_range l f F λk x hk=>by show(match l[k]? with | some x=>f x | none=>false)=_;rw[hk]
 have hg:l.map g=(List.range l.length).map λk=>F ((k+1) % l.length):=map_range l g _ λk x hk=>by
  obtain⟨x',y,h1,h2,h3⟩:=h k (Ac.mp hk).1;rw[hk]at h1;cases h1;show(match l[(k+1) % l.length]? with | some x=>f x | none=>false)=_;rw[h2];exact h3.symm
 rw[hf,hg,F7]
theorem Jb(F:Nat->Bool):∀ m,(∀ i,i < m->F (2 * i+1)=F (2 * i))->aj ((List.range<|2 * m).map F)=false
 | 0,_=>rfl
 | m+1,h=>by
  rw[show 2 * (m+1)=2 * m+1+1 by omega,Du,Du,Ag,Ag,gX,gX,Jb F m λi hi=>h i<|by omega];show((false ^^ (F (2 * m) ^^ false)) ^^ (F (2 * m+1) ^^ false))=false;rw[h m<|by omega];cases F (2 * m) <;> rfl
def RY{n:Net}(T:av n){e:End}(h:e∈ends n):step n (other n<|go (-1) n e)=other n e:=by
 have h1:=gF (c:=-1) T h;obtain⟨z,hz⟩:=af.mp h1;show left n (other n<|other n<|go (-1) n e)=_;rw[(du T hz).2.1,Pz h1];show dH 1 n (dH (-1) n<|other n e)=_;have:=qe (c:=-1)<|cX T h;rw[Int.neg_neg]at this;exact this
def cA(n:Net)(w:List End)(z:Str):Bool:=decide ((w.map<|aD n).count z % 2=1)
def k9d{n:Net}(T:av n){w:List End}(W:ku n w):dL n (cA n w):=λr=>by
 have e1:(row n r).map (cA n w)=(row n r).map λz=>aj (w.map λe=>decide (z=aD n e)):=Aq λz _=>by
  unfold cA;rw[qP,Cn];rfl
 rw[e1,we λz e=>decide (z=aD n e)];have e2:(w.map λe=>aj<|(row n r).map λz=>decide (z=aD n e))=w.map λe=>(decide (r=e.1) ^^ decide (r=(other n e).1)):=Aq λe he=>by
  obtain⟨z,hz⟩:=af.mp<|W.ends e he;rw[fJ hz];exact Qi T hz r
 rw[e2,gY (λe=>decide (r=e.1)) λe=>decide (r=(other n e).1)];rw[k8y w (λe=>decide (r=e.1)) (λe=>decide (r=(other n e).1)) λk hk=>by
  obtain⟨c,h1,h2⟩:=W.at' k hk;exact⟨c,_,h1,h2,rfl⟩]
 cases aj (w.map λe=>decide (r=e.1)) <;> rfl
def k8p{n:Net}(T:av n){w:List End}(W:ku n w){t:Str->Bool}{χ:End->Bool}(h:aZ n t χ):aj (w.map λe=>t<|aD n e)=false:=by
 have e1:(w.map λe=>t<|aD n e)=w.map λe=>(χ e ^^ χ (other n e)):=Aq λe he=>by
  obtain⟨z,hz⟩:=af.mp<|W.ends e he;rw[fJ hz];exact h.cY e z hz
 rw[e1,gY χ λe=>χ<|other n e];obtain⟨m,hm⟩:∃ m,w.length=2 * m:=⟨w.length / 2,by have:=W.even;omega⟩;have a1:aj (w.map χ)=false:=by
  let F:Nat->Bool:=λk=>match w[k]? with | some x=>χ x | none=>false
  rw[map_range w χ F λk x hk=>by show(match w[k]? with | some x=>χ x | none=>false)=_;rw[hk],hm];refine Jb F m λi hi=>?_;obtain⟨c,h1,h2⟩:=W.at' (2 * i) (by omega);rw[Ce (by omega),show(1:Int) - 2 * (((2 * i:Nat):Int) % 2)=1 by omega]at h2;show(match w[2 * i+1]? with | some x=>χ x | none=>false)=(match w[2 * i]? with | some x=>χ x | none=>false);rw[h1,h2];have hc:=W.ends c<|As h1;show χ (go 1 n c)=χ c;rw[<- PD T hc];exact h.go c hc
 have a2:aj (w.map λe=>χ<|other n e)=false:=by
  let F:Nat->Bool:=λk=>match w[k]? with | some x=>χ (other n x) | none=>false
  rw[map_range w (λe=>χ<|other n e) F λk x hk=>by show(match w[k]? with | some x=>χ (other n x) | none=>false)=_;rw[hk],<- F7 F,hm];refine Jb (λp=>F<|(p+1) % (2 * m)) m λi hi=>?_;obtain⟨c,h1,h2⟩:=W.at' (2 * i+1) (by omega);rw[hm,show(1:Int) - 2 * (((2 * i+1:Nat):Int) % 2)=-1 by omega]at h2;show(match w[(2 * i+1+1) % (2 * m)]? with | some x=>χ (other n x) | none=>false)=(match w[(2 * i+1) % (2 * m)]? with | some x=>χ (other n x) | none=>false);rw[h2,Ce (show 2 * i+1 < 2 * m by omega),h1];have hc:=W.ends c<|As h1;show χ (other n<|go (-1) n c)=χ (other n c);rw[<- RY T hc];exact(h.go _<|cX T<|gF T hc).symm
 rw[a1,a2];rfl
def bo(zs:Ñ)(t s:Str->Bool):Bool:=aj<|zs.map λz=>t z && s z
def Jc(zs:Ñ)(t u s:Str->Bool):bo zs (λz=>t z ^^ u z) s=(bo zs t s ^^ bo zs u s):=by
 unfold bo;rw[<- gY (λz=>t z && s z) λz=>u z && s z]
 congr 1
 refine Aq λz _=>?_;show((t z ^^ u z) && s z)=_;cases t z <;> cases u z <;> cases s z <;> rfl
theorem wg{s:Str->Bool}{y:Str}:∀{zs:Ñ},zs.Nodup->y∈zs->bo zs (λz=>decide (z=y)) s=s y
 | z :: zs,hn,hy=>by
  have hn:=Bf.mp hn;show((decide (z=y) && s z) ^^ bo zs (λz=>decide (z=y)) s)=s y
  by_cases h:z=y
  ·subst h;have:bo zs (λx=>decide (x=z)) s=false:=by
    unfold bo;have e:(zs.map λx=>decide (x=z) && s x)=zs.map λ_=>false:=Aq λx hx=>by
     have ne:¬ x=z:=λq=>hn.1<|q ▸ hx;rw[BR ne];rfl
    rw[e,iR]
   rw[this,BW rfl];cases s z <;> rfl
  ·rw[BR h,wg hn.2<|(Ak.mp hy).resolve_left<|CK h];cases s y <;> rfl
theorem Jd{n:Net}{zs:Ñ}(hz:zs.Nodup){t:Str->Bool}:∀{L:Ñ},(∀ y∈L,y∈zs)->bo zs t (λz=>decide (L.count z % 2=1))=aj (L.map t)
 | L,hL=>by
  unfold bo;have e:(zs.map λz=>t z && decide (L.count z % 2=1))=zs.map λz=>aj (L.map λy=>t z && decide (z=y)):=Aq λz _=>by
   rw[qP];cases t z
   ·show false=aj (L.map λ_=>false);rw[iR]
   ·rfl
  rw[e,we λz y=>t z && decide (z=y)]
  congr 1
  refine Aq λy hy=>?_;have:=wg (s:=t) hz<|hL y hy;rw[<- this];unfold bo
  congr 1
  refine Aq λz _=>?_;rw[Ga]
theorem R1{n:Net}(T:av n)(hN:(n.map (·.1)).Nodup){ss zs:Ñ}(hz:zs.Nodup)(hm:∀ z,z∈zs↔z∈ag n){x:Str}{b:Bool}(h:Way (dN n ss) (bX n) x b) :
  ∃ t:Str->Bool,(∀ r,r < n.length->aj ((row n r).map t)=(decide (aF n r=bX n) ^^ decide (aF n r=x)))/\bo zs t (λz=>decide (z∈ss))=b:=by
 have add:∀{x y:Str} {o b:Bool},(∃ e z,aK n e=some z/\((x=aF n e.1/\y=aF n (other n e).1)\/(y=aF n e.1/\x=aF n (other n e).1))/\o=decide (z∈ss))->(∃ t:Str->Bool,(∀ r,r < n.length->aj ((row n r).map t)=(decide (aF n r=bX n) ^^ decide (aF n r=x)))/\bo zs t (λz=>decide (z∈ss))=b) ->
   ∃ t:Str->Bool,(∀ r,r < n.length->aj ((row n r).map t)=(decide (aF n r=bX n) ^^ decide (aF n r=y)))/\bo zs t (λz=>decide (z∈ss))=(b != o):=by
  rintro x y o b ⟨e,z,fj,FA,rfl⟩ ⟨t,h1,h2⟩;refine⟨λu=>t u ^^ decide (u=z),λr hr=>?_,?_⟩
  ·rw[gY t λu=>decide (u=z),h1 r hr,Qi T fj r];have e1:∀ i,i < n.length->decide (r=i)=decide (aF n r=aF n i):=λi hi=>decide_eq_decide.mpr ⟨λq=>by rw[q],λq=>P' hN hr hi q⟩;rw[e1 _<|cz fj,e1 _<|sF T fj]
   rcases FA with ⟨a1,a2⟩ | ⟨a1,a2⟩
   ·rw[<- a1,<- a2];cases decide (aF n r=bX n) <;> cases decide (aF n r=x) <;> cases decide (aF n r=y) <;> rfl
   ·rw[<- a1,<- a2];cases decide (aF n r=bX n) <;> cases decide (aF n r=x) <;> cases decide (aF n r=y) <;> rfl
  ·rw[Jc,h2,wg hz<|(hm z).mpr<|dG fj]
 have lk:∀{x y:Str} {o:Bool},(x,y,o)∈dN n ss->∃ e z,aK n e=some z/\((x=aF n e.1/\y=aF n (other n e).1))/\o=decide (z∈ss):=λ{x y o} hm=>by
  obtain⟨e,z,h1,h2⟩:=(P9 (n:=n) (ss:=ss)).fro _ hm;exact⟨e,z,h1,⟨BZ (·.1) h2,BZ (·.2.1) h2⟩,BZ (·.2.2) h2⟩
 induction h with
 | here=>exact⟨λ_=>false,λr _=>by rw[iR];cases decide (aF n r=bX n) <;> rfl,by unfold bo;exact iR zs⟩
 | there _ ht ih=>
  obtain⟨e,z,h1,h2,h3⟩:=lk ht;exact add ⟨e,z,h1,.inl h2,h3⟩ ih
 | back _ ht ih=>
  obtain⟨e,z,h1,h2,h3⟩:=lk ht;exact add ⟨e,z,h1,.inr ⟨h2.1,h2.2⟩,h3⟩ ih
def k2r{n:Net}(T:av n)(hg:c9 n)(hN:(n.map (·.1)).Nodup)(h0:0 < n.length){ss zs:Ñ}(hz:zs.Nodup)(hm:∀ z,z∈zs↔z∈ag n)(hs:∀ z∈ss,z∈ag n)(Je:∀ t,dL n t->bo zs t (λz=>decide (z∈ss))=false):∃ sd,a7 n ss sd:=by
 classical
 have uniq:∀{x b c},Way (dN n ss) (bX n) x b->Way (dN n ss) (bX n) x c->b=c:=λ{x b c} h1 h2=>by
  obtain⟨t,t1,t2⟩:=R1 T hN hz hm h1;obtain⟨u,u1,u2⟩:=R1 T hN hz hm h2;have:=Je (λz=>t z ^^ u z) λr=>by
   by_cases hr:r < n.length
   ·rw[gY t u,t1 r hr,u1 r hr];cases decide (aF n r=bX n) <;> cases decide (aF n r=x) <;> rfl
   ·have:row n r=[]:=by
     unfold row;rw[Be<|by omega];rfl
    rw[this];rfl
  rw[Jc,t2,u2]at this;cases b <;> cases c <;> first | rfl | cases this
 have next:∀{e:End} {z:Str} {b:Bool},aK n e=some z->Way (dN n ss) (bX n) (aF n e.1) b->Way (dN n ss) (bX n) (aF n (other n e).1) (b != decide (z∈ss)):=λ{e z b} he h=>by
  rcases (P9 (n:=n) (ss:=ss)).to e z he with t | t
  ·exact .there h t
  ·exact .back h t
 have all:∀ r,r < n.length->∃ b,Way (dN n ss) (bX n) (aF n r) b:=λr hr=>by
  have:=hg (λx=>∃ b,Way (dN n ss) (bX n) x b) ⟨n[0],Bn h0,false,by rw[<- n9 h0];exact .here⟩ (λr hr s l7 t tr ts ⟨b,hb⟩=>?_) n[r]<|Bn hr
  ·rw[<- n9 hr]at this;exact this
  ·obtain⟨i,hi,rfl⟩:=Dx.mp hr;obtain⟨j,hj,rfl⟩:=Dx.mp l7;obtain⟨p,hp⟩:=Bm tr;obtain⟨q,hq⟩:=Bm ts;have h1:aK n (i,p)=some t:=by show(row n i)[p]?=_;rw[ko hi];exact hp
   have h2:aK n (j,q)=some t:=by show(row n j)[q]?=_;rw[ko hj];exact hq
   rcases (mF T h1).mp h2 with e | e
   ·have:j=i:=BZ (·.1) e;subst this;exact⟨b,hb⟩
   ·rw[<- n9 hi]at hb;have:=next h1 hb;rw[<- e]at this;exact⟨_,by rw[<- n9 hj];exact this⟩
 obtain⟨sd,h1,h2⟩:=RU<|((List.range n.length).filter λ(r:Nat)=>decide (Way (dN n ss) (bX n) (aF n r) true)).map<|aF n;have mem:∀ r,r < n.length->∀ b,Way (dN n ss) (bX n) (aF n r) b->decide (aF n r∈sd)=b:=λr hr b hb=>by
  have:aF n r∈sd↔b=true:=by
   rw[h2,Ap]
   constructor
   ·rintro ⟨i,hi,e⟩;rw[Ba,Bw]at hi;have:=P' hN hi.1 hr e;subst this;exact uniq hb<|BX hi.2
   ·intro e;subst e;exact⟨r,Ba.mpr ⟨Bw.mpr hr,BW hb⟩,rfl⟩
  by_cases q:b=true
  ·rw[q];exact BW<|this.mpr q
  ·rw[Bool.not_eq_true]at q;rw[q];exact BR λk=>by rw[this.mp k]at q;cases q
 refine⟨sd,h1,λx hx=>?_,λhx=>?_,λz=>?_⟩
 ·obtain⟨i,hi,rfl⟩:=Ap.mp<|(h2 x).mp hx;exact js<|Bw.mp (Ba.mp hi).1
 ·have:=mem 0 h0 false .here;exact absurd hx<|FW this
 ·by_cases fj:z∈ag n
  ·obtain⟨p,hp⟩:∃ p,p∈pos n z:=by
    have:pos n z≠[]:=λq=>by have:=pP n z;rw[q,T z fj]at this;cases this
    exact Fv _ this
   have he:=aM.mp hp;obtain⟨b,hb⟩:=all p.1<|cz he;have hc:=next he hb;rw[lB T he,mem _ (cz he) b hb,mem _ (sF T he) _ hc]
   constructor
   ·intro h;rw[BW h];cases b <;> rfl
   ·intro h;refine DN λk=>?_;rw[BR k]at h;cases b <;> cases h
  ·exact⟨λh=>absurd (hs z h) fj,λh=>absurd (lz h) fj⟩
def Jf{n:Net}(T:av n){e:End}(h:e∈ends n):two n (other n<|two n e)=other n e:=by
 have g1:=gF (c:=1) T h;have h2:=mB T h;obtain⟨z,hz⟩:=af.mp h2;obtain⟨y,hy⟩:=af.mp g1;have e1:go 1 n (other n<|two n e)=other n (go 1 n e):=by
  show dH 1 n (other n<|other n<|two n e)=_;rw[(du T hz).2.1];show dH 1 n (dH (-1) n<|other n<|go 1 n e)=_;have:=qe (c:=-1)<|cX T g1;rw[Int.neg_neg]at this;exact this
 show go (-1) n (go 1 n<|other n<|two n e)=_;rw[e1];show dH (-1) n (other n<|other n<|go 1 n e)=_;rw[(du T hy).2.1];exact qe<|cX T h
def jU{n:Net}(T:av n){e:End}(h:e∈ends n)(k:Nat):it (two n) k e∈ends n:=ki (λa ha=>mB T ha) h k
theorem R3{α:Type}(f:α->α)(a:α):∀ k,it f k (f a)=it f (k+1) a
 | 0=>rfl
 | k+1=>by show f (it f k<|f a)=f (it f (k+1) a);rw[R3 f a k]
theorem sY{α:Type}(f:α->α)(a:α)(i:Nat):∀ j,it f (i+j) a=it f j (it f i a)
 | 0=>rfl
 | j+1=>by show f (it f (i+j) a)=f (it f j<|it f i a);rw[sY f a i j]
def q85{n:Net}(T:av n){e:End}(h:e∈ends n):two n e≠other n e:=λq=>by
 have g1:=gF (c:=1) T h;obtain⟨y,hy⟩:=af.mp g1;have h1:dH (-1) n (go 1 n e)=other n e:=qe<|cX T h;have h2:dH (-1) n (other n<|go 1 n e)=other n e:=q;exact(du T hy).2.2<|Py (c:=-1) (cX T g1) g1<|h2.trans h1.symm
theorem R5{n:Net}(T:av n):∀(k:Nat) {e:End},e∈ends n->it (two n) k e≠other n e
 | 0,e,h=>λq=>by
  obtain⟨z,hz⟩:=af.mp h;exact(du T hz).2.2 q.symm
 | 1,e,h=>q85 T h
 | k+2,e,h=>λq=>by
  have e1:two n (it (two n) (k+1) e)=two n (other n<|two n e):=by rw[Jf T h];exact q
  have e2:=uU T (jU T h<|k+1) (cX T<|mB T h) e1;rw[<- R3]at e2;exact R5 T k (mB T h) e2
def zv{n:Net}(T:av n){a b:End}(ha:a∈ends n)(hb:b∈ends n)(h:aD n a=aD n b):b=a\/b=other n a:=by
 obtain⟨z,hz⟩:=af.mp ha;obtain⟨y,hy⟩:=af.mp hb;rw[fJ hz,fJ hy]at h;subst h;exact(mF T hz).mp hy
def x0y{n:Net}(T:av n){e:End}(h:e∈ends n){k:Nat}(p:jr n e k){i j:Nat}(eR:i < j)(hj:j < k):it (two n) i e≠it (two n) j e:=λq=>by
 have inj:∀(m:Nat) {a b:End},a∈ends n->b∈ends n->it (two n) m a=it (two n) m b->a=b:=λm=>by
  induction m with
  | zero=>intro a b _ _ q;exact q
  | succ m ih=>intro a b ha hb q;exact ih ha hb<|uU T (jU T ha m) (jU T hb m) q
 have e1:it (two n) j e=it (two n) i (it (two n) (j - i) e):=by rw[<- sY,show j - i+i=j by omega]
 rw[e1]at q;have:=inj i h (jU T h _) q;exact p.first (j - i) (by omega) (by omega) this.symm
def k55{n:Net}(T:av n){e:End}(h:e∈ends n){k:Nat}(p:jr n e k){i j:Nat}(eR:i < j)(hj:j < k):aD n (it (two n) i e)≠aD n (it (two n) j e):=λq=>by
 rcases zv T (jU T h i) (jU T h j) q with c | c
 ·exact x0y T h p eR hj c.symm
 ·rw[show j=i+(j - i) by omega,sY]at c;exact R5 T (j - i) (jU T h i) c
def q6t{n:Net}(T:av n){x y:End}(hx:x∈ends n)(hy:y∈ends n)(q:aD n (go 1 n x)=aD n (go 1 n y)):x=y\/two n y=other n x:=by
 have g1:=gF (c:=1) T hx
 rcases zv T g1 (gF (c:=1) T hy) q with c | c
 ·exact .inl (go_inj T hy hx c).symm
 ·refine .inr ?_;obtain⟨z,hz⟩:=af.mp g1;show go (-1) n (go 1 n y)=_;rw[c];show dH (-1) n (other n<|other n<|go 1 n x)=_;rw[(du T hz).2.1];exact qe<|cX T hx
theorem R9(n:Net)(e:End):∀ k,((wk n e k).map<|aD n).Perm<|((List.range k).map λi=>aD n<|it (two n) i e)++(List.range k).map λi=>aD n<|go 1 n<|it (two n) i e
 | 0=>List.Perm.refl _
 | k+1=>by
  rw[Du,Ag,Ag];show((wk n e k++[it (two n) k e,go 1 n<|it (two n) k e]).map<|aD n).Perm _;rw[Ag];refine((R9 n e k).append_right _).trans ?_;generalize ((List.range k).map λi=>aD n<|it (two n) i e)=A;generalize ((List.range k).map λi=>aD n<|go 1 n<|it (two n) i e)=B;show(A++B++[aD n<|it (two n) k e,aD n<|go 1 n<|it (two n) k e]).Perm ((A++[aD n<|it (two n) k e])++(B++[aD n<|go 1 n<|it (two n) k e]));rw[At,At];refine LK A ?_;show(B++([aD n<|it (two n) k e]++[aD n<|go 1 n<|it (two n) k e])).Perm ([aD n<|it (two n) k e]++(B++[aD n<|go 1 n<|it (two n) k e]));rw[<- At,<- At];exact TF _ Cm
noncomputable def dh(n:Net)(e:End):List End:=au<|walker n e
def Jg{n:Net}{e:End}{k:Nat}(p:jr n e k):dh n e=(List.range k).map λi=>it (two n) i e:=by
 unfold dh walker;rw[uW p,q13]
theorem Sd{n:Net}{e:End}{k:Nat}(h:it (two n) k e=e):∀ m,it (two n) (k * m) e=e
 | 0=>rfl
 | m+1=>by rw[Nat.mul_succ,VD,sY,h,Sd h m]
def lF{n:Net}(T:av n){e:End}(h:e∈ends n){x:End}:x∈dh n e↔∃ i,it (two n) i e=x:=by
 obtain⟨k,p,_⟩:=sw T h;rw[Jg p,Ap]
 constructor
 ·rintro ⟨i,_,q⟩;exact⟨i,q⟩
 ·rintro ⟨i,q⟩;have p0:=p.pos;refine⟨i % k,Bw.mpr<|Gx _ p0,?_⟩;rw[<- q];have:=Nat.div_add_mod i k
  conv=>rhs;rw[<- this]
  rw[sY,Sd p.back]
def zx{n:Net}(T:av n){e:End}(h:e∈ends n):∀ x∈dh n e,x∈ends n:=λx hx=>by
 obtain⟨i,q⟩:=(lF T h).mp hx;rw[<- q];exact jU T h i
def Se{n:Net}(T:av n){e:End}(h:e∈ends n){x:End}(hx:x∈dh n e):∃ y∈dh n e,two n y=x:=by
 obtain⟨i,q⟩:=(lF T h).mp hx;obtain⟨k,p,_⟩:=sw T h;have p0:=p.pos;refine⟨it (two n) (i+k - 1) e,(lF T h).mpr ⟨_,rfl⟩,?_⟩;show it (two n) (i+k - 1+1) e=x;rw[show i+k - 1+1=k+i by omega,sY,p.back,q]
def Jh{n:Net}(T:av n){e:End}(h:e∈ends n){x:End}(hx:x∈dh n e):two n x∈dh n e:=by
 obtain⟨i,q⟩:=(lF T h).mp hx;exact(lF T h).mpr ⟨i+1,by rw[<- q];rfl⟩
def Sg{n:Net}(T:av n){e:End}(h:e∈ends n){x:End}(hx:x∈ends n):aD n x∈(dh n e).map (aD n)↔x∈dh n e\/other n x∈dh n e:=by
 rw[Ap]
 constructor
 ·rintro ⟨y,hy,q⟩
  rcases zv T hx (zx T h y hy) q.symm with c | c
  ·exact .inl<|c ▸ hy
  ·exact .inr<|c ▸ hy
 ·rintro (c | c)
  ·exact⟨x,c,rfl⟩
  ·refine⟨_,c,?_⟩;obtain⟨z,hz⟩:=af.mp hx;rw[fJ hz,fJ (du T hz).1]
def Sh{n:Net}(T:av n){e:End}(h:e∈ends n):other n (other n e)=e:=by
 obtain⟨z,hz⟩:=af.mp h;exact(du T hz).2.1
def wj(n:Net)(told:Ñ):Prop:=∀ x∈ends n,(aD n (two n x)∈told↔aD n x∈told)
theorem Si{n:Net}(T:av n){told:Ñ}(C:wj n told){e:End}(h:e∈ends n):∀ i,aD n (it (two n) i e)∈told↔aD n e∈told
 | 0=>Iff.rfl
 | i+1=>(C _<|jU T h i).trans<|Si T C h i
def q8j{n:Net}(T:av n){e:End}(h:e∈ends n):wj n ((dh n e).map<|aD n):=λx hx=>by
 rw[Sg T h<|mB T hx,Sg T h hx]
 constructor
 ·rintro (c | c)
  ·obtain⟨y,hy,q⟩:=Se T h c;exact .inl<|uU T (zx T h y hy) hx q ▸ hy
  ·have:=Jh T h c;rw[Jf T hx]at this;exact .inr this
 ·rintro (c | c)
  ·exact .inl<|Jh T h c
  ·obtain⟨y,hy,q⟩:=Se T h c;have zy:=zx T h y hy;have e1:two n x=other n y:=by
    rw[<- Sh T hx,<- q,Jf T zy]
   exact .inr<|by rw[e1,Sh T zy];exact hy
structure oI(n:Net)(es:List End)(told:Ñ)(ws:List<|List End):Prop where
 nd:((ws.flatMap au).map<|aD n).Nodup
 new:∀ x∈ws.flatMap au,x∈ends n/\aD n x∉told
 cov:∀ e∈es,aD n e∈told\/aD n e∈(ws.flatMap au).map (aD n)
 wk:∀ w∈ws,∃ e,e∈ends n/\w=walker n e
theorem Ji{n:Net}(T:av n):∀(es:List End) (told:Ñ),(∀ e∈es,e∈ends n)->wj n told->oI n es told (dI n es told)
 | [],told,_,_=>by
  unfold dI;exact⟨Ch,λx hx=>(nomatch hx),λe he=>(nomatch he),λw hw=>(nomatch hw)⟩
 | e :: r,told,he,C=>by
  have h:=he e<|Af ..;unfold dI
  by_cases q:aD n e∈told
  ·rw[BL q];have I:=Ji T r told (λa ha=>he a<|Ah _ ha) C;refine⟨I.nd,I.new,λa ha=>?_,I.wk⟩
   rcases Ak.mp ha with rfl | ha
   ·exact .inl q
   ·exact I.cov a ha
  ·rw[BK q];have C':wj n (told++(au<|walker n e).map (aD n)):=λx hx=>by
    rw[Al,Al];exact or_congr (C x hx)<|q8j T h x hx
   have I:=Ji T r _ (λa ha=>he a<|Ah _ ha) C';have fresh:∀ x∈dh n e,x∈ends n/\aD n x∉told:=λx hx=>by
    obtain⟨i,k⟩:=(lF T h).mp hx;refine⟨zx T h x hx,λz=>q ?_⟩;rw[<- k]at z;exact(Si T C h i).mp z
   refine⟨?_,λx hx=>?_,λa ha=>?_,λw hw=>?_⟩
   ·rw[Cc,Ag,Bt];refine⟨?_,I.nd,λa ha b hb k=>?_⟩
    ·obtain⟨k,p,_⟩:=sw T h;show((dh n e).map<|aD n).Nodup;rw[Jg p,Cn,Co,Eu,Bu];intro i j hi hj eR;rw[Fa,Fa];rw[Fh]at hj;exact k55 T h p eR hj
    ·subst k;obtain⟨x,hx,rfl⟩:=Ap.mp hb;exact(I.new x hx).2<|Aw _ ha
   ·rw[Cc]at hx
    rcases Al.mp hx with k | k
    ·exact fresh x k
    ·exact⟨(I.new x k).1,λz=>(I.new x k).2<|Bc _ z⟩
   ·rw[Cc,Ag]
    rcases Ak.mp ha with rfl | ha
    ·exact .inr<|Bc _<|Ap.mpr ⟨a,(lF T h).mpr ⟨0,rfl⟩,rfl⟩
    ·rcases I.cov a ha with k | k
     ·rcases Al.mp k with k | k
      ·exact .inl k
      ·exact .inr<|Bc _ k
     ·exact .inr<|Aw _ k
   ·rcases Ak.mp hw with rfl | hw
    ·exact⟨e,h,rfl⟩
    ·exact I.wk w hw
def Sj{n:Net}(T:av n){e:End}(h:e∈ends n):((walker n e).map<|aD n).Perm ((dh n e).map (aD n)++(dh n e).map λx=>aD n<|go 1 n x):=by
 obtain⟨k,p,_⟩:=sw T h;rw[Jg p,Cn,Cn];unfold walker;rw[uW p];exact R9 n e k
theorem Sl{n:Net}(T:av n):∀{ws:List (List End)},(∀ w∈ws,∃ e,e∈ends n/\w=walker n e)->(ws.flatMap λw=>w.map<|aD n).Perm ((ws.flatMap au).map (aD n)++(ws.flatMap au).map λx=>aD n<|go 1 n x)
 | [],_=>List.Perm.refl _
 | w :: ws,h=>by
  obtain⟨e,he,rfl⟩:=h w<|Af ..;have I:=Sl T (ws:=ws) λw hw=>h w<|Ah _ hw;rw[Cc,Cc,Ag,Ag];refine((Sj T he).append I).trans ?_;show(((dh n e).map (aD n)++(dh n e).map λx=>aD n<|go 1 n x)++_).Perm (((dh n e).map (aD n)++_)++((dh n e).map (λx=>aD n<|go 1 n x)++_));generalize (dh n e).map (aD n)=A;generalize ((dh n e).map λx=>aD n<|go 1 n x)=B;generalize (ws.flatMap au).map (aD n)=D;generalize ((ws.flatMap au).map λx=>aD n<|go 1 n x)=F;rw[At,At];refine LK A ?_;rw[<- At,<- At];exact TF _ Cm
noncomputable abbrev bh(n:Net):List (List End):=dI n (ends n) []
def q4c(n:Net):wj n []:=λx _=>by simp
def qR{n:Net}(T:av n):oI n (ends n) [] (bh n):=Ji T (ends n) [] (λ_ h=>h)<|q4c n
def Jj{n:Net}(T:av n){z:Str}(hz:z∈ag n):(((bh n).flatMap au).map<|aD n).count z=1:=by
 have I:=qR T;rw[List.Nodup.count I.nd,BL];have:pos n z≠[]:=λq=>by have:=pP n z;rw[q,T z hz]at this;cases this
 obtain⟨p,hp⟩:=Fv _ this;have hp:=aM.mp hp;have:=I.cov p<|af.mpr ⟨z,hp⟩;rw[fJ hp]at this
 rcases this with k | k
 ·cases k
 ·exact k
def q42{n:Net}(T:av n){x:End}(hx:x∈(bh n).flatMap au):two n x∈(bh n).flatMap au:=by
 obtain⟨w,hw,hx⟩:=Dh.mp hx;obtain⟨e,he,rfl⟩:=(qR T).wk w hw;exact Dh.mpr ⟨_,hw,Jh T he hx⟩
theorem Sn{α β:Type}{f:α->β}:∀{l:List α},l.Nodup->(∀ a∈l,∀ b∈l,f a=f b->a=b)->(l.map f).Nodup
 | [],_,_=>Ch
 | a :: l,h,inj=>by
  have h:=Bf.mp h;refine Bf.mpr ⟨λhm=>?_,Sn h.2 λx hx y hy=>inj x (Ah _ hx) y<|Ah _ hy⟩;obtain⟨b,hb,q⟩:=Ap.mp hm;have:=inj a (Af ..) b (Ah _ hb) q.symm;exact h.1<|this ▸ hb
theorem Jk{α β:Type}{f:α->β}:∀{l:List α},(l.map f).Nodup->∀ a∈l,∀ b∈l,f a=f b->a=b
 | c :: l,h,a,ha,b,hb,q=>by
  rw[Bj,Bf]at h
  rcases Ak.mp ha with ea | yG
  ·rcases Ak.mp hb with eb | nS
   ·rw[ea,eb]
   ·exact absurd (Ap.mpr ⟨b,nS,by rw[<- q,ea]⟩) h.1
  ·rcases Ak.mp hb with eb | nS
   ·exact absurd (Ap.mpr ⟨a,yG,by rw[q,eb]⟩) h.1
   ·exact Jk h.2 a yG b nS q
theorem Jl{α β:Type}{f:α->β}:∀{l:List α},(l.map f).Nodup->l.Nodup
 | [],_=>Ch
 | a :: l,h=>by
  rw[Bj,Bf]at h;exact Bf.mpr ⟨λk=>h.1<|Ap.mpr ⟨a,k,rfl⟩,Jl h.2⟩
def Sq{n:Net}(T:av n):(((bh n).flatMap au).map λx=>aD n<|go 1 n x).Perm (((bh n).flatMap au).map<|aD n):=by
 have I:=qR T;refine uZ (Sn (Jl I.nd) λx hx y hy q=>?_) (λz hz=>?_)<|by rw[Aa,Aa];exact Ao _
 ·have jf:=(I.new x hx).1;have zy:=(I.new y hy).1
  rcases q6t T jf zy q with c | c
  ·exact c
  ·exfalso
   have t:aD n (two n y)=aD n x:=by
    obtain⟨z,hz⟩:=af.mp jf;rw[c,fJ hz,fJ (du T hz).1]
   have:=Jk I.nd _ (q42 T hy) x hx t;obtain⟨z,hz⟩:=af.mp jf;exact(du T hz).2.2<|c.symm.trans this
 ·obtain⟨x,hx,rfl⟩:=Ap.mp hz;obtain⟨y,hy⟩:=af.mp<|gF (c:=1) T (I.new x hx).1;rw[fJ hy];refine Bs.mp ?_;rw[Jj T<|dG hy];exact Fm
def k7r{n:Net}(T:av n){z:Str}(hz:z∈ag n):((bh n).flatMap λw=>w.map<|aD n).count z=2:=by
 rw[(Sl T (qR T).wk).count_eq,Cq,(Sq T).count_eq,Jj T hz]
theorem Ss(n:Net)(z:Str):∀ ws:List<|List End,(ws.flatMap λw=>w.map<|aD n).count z=(ws.map λw=>(w.map<|aD n).count z).sum
 | []=>rfl
 | w :: ws=>by rw[Cc,Cq,Ss n z ws];rfl
theorem Sv:∀(l:List Nat) (x:Nat),x∈l->x<=l.sum
 | y :: l,x,h=>by
  rw[Fz]
  rcases Ak.mp h with rfl | h
  ·omega
  ·have:=Sv l x h;omega
def q2t{n:Net}(T:av n){z:Str}(hz:z∈ag n){w:List End}(hw:w∈bh n):(w.map<|aD n).count z<=2:=by
 have h:=k7r T hz;rw[Ss]at h;have:=Sv ((bh n).map λw=>(w.map<|aD n).count z) _<|Ap.mpr ⟨w,hw,rfl⟩;omega
def zA{n:Net}{w:List End}{ss:Ñ}(hw:∀ c∈w,c∈ends n)(h:∀ z,z∈ss↔(w.map<|aD n).count z=1):∀ z∈ss,z∈ag n:=λz hz=>by
 have:=Bs.mp (by rw[(h z).mp hz];exact Fm);obtain⟨e,he,rfl⟩:=Ap.mp this;obtain⟨y,hy⟩:=af.mp<|hw e he;rw[fJ hy];exact dG hy
def Jm{n:Net}(T:av n){w:List End}(hw:w∈bh n){ss:Ñ}(h:∀ z,z∈ss↔(w.map<|aD n).count z=1){z:Str}(hz:z∈ag n):decide (z∈ss)=cA n w z:=by
 have:=q2t T hz hw;unfold cA;refine decide_eq_decide.mpr<|(h z).trans ?_;omega
def k8c{n:Net}(T:av n){w:List End}(hw:w∈bh n){ss:Ñ}(h:∀ z,z∈ss↔(w.map<|aD n).count z=1):bV n ss=true:=by
 refine k7u (k9d T<|nU T (ends n) [] (λ_ h=>h) w hw) λz hz=>?_;rw[<- Jm T hw h hz]
 by_cases k:z∈ss
 ·rw[BW k];exact Bk.mpr k
 ·rw[BR k];exact Es.mpr λq=>k<|Bk.mp q
end Nt
namespace L2
open PySem PySem.Spec PyProof.Rows
section
variable{X:Cx}{σ:St}{H:Hp}
def q87(K:PySem.W.Frag):V->List V->Hp->VK->Prop:=λx vs H Q=>∃(l:Addr) (zs:Ñ) (z:Str) (j:Nat),x = .ref l/\vs=[.str z]/\ak K H l (zs.map V.str)/\zs[j]?=some z/\z∉zs.take j/\j < 100000/\Q (.int (j:Int)) H
def q2i:pf X "list.index" (q87 X.K):=by
 intro pins s σ H x vs v us Q I rx rv h;obtain⟨l,zs,z,j,rfl,rfl,hH,hj,hno,iw,q⟩:=h;cases rx;obtain⟨u,rfl,ru⟩:=rv.one;obtain⟨tk,rfl⟩:=ru;obtain⟨its,r,pl,hz⟩:=I.list hH;have hlen:=r.length;rw[Aa]at hlen;have kq:=(Ac.mp hj).1;have val:∀(m:Nat) (hm:m < its.length),∃ y t,zs[m]?=some y/\its[m]=Value.str y t:=λm hm=>by
  obtain⟨w,hw,e9⟩:=r.get (i:=m) (x:= .str<|zs[m]'(by omega)) (by rw[Aj,Ab<|by omega];rfl);rw[Ab hm]at hw;obtain⟨t,rfl⟩:=e9;exact⟨_,t,Ab (by omega),Option.some.inj hw⟩
 obtain⟨⟨cls,dd,data,sl⟩,ho,hc,n,hd⟩:=id pl.isList;simp only at hc hd;subst hc hd;refine MN RN ⟨_,ho,rfl⟩ PySem.F.entry_list_index (PySem.F.args_list_index_2 _ _) (SeqAt.list_indexAt l its.toArray n dd sl (.str z tk) (fV<|.str z) j (by simp;omega) (by omega) ?_ λm hm bd=>?_) ⟨ho,λy hy=>rA (show RelV (.str z) (.str z tk) from⟨tk,rfl⟩) rfl r (iu zs) y (by simpa using hy),?_⟩
 ·obtain⟨y,t,e1,e2⟩:=val j (by omega);rw[hj]at e1;cases e1;show fV (.str z) its[j]=true;rw[e2];show(z == z)=true;simp
 ·obtain⟨y,t,e1,e2⟩:=val m (by simpa using hm);show fV (.str z) (its[m]'(by simpa using hm))=false;rw[e2];show(y == z)=false;refine beq_eq_false_iff_ne.mpr λk=>hno ?_;rw[<- k];exact As (i:=m)<|by rw[List.getElem?_take,BL bd];exact e1
 ·exact⟨.int (j:Int),H,I.tok _,⟨_,rfl⟩,q⟩
end
structure Xo(h:Heap)(e T:Addr)(C fl:Value):Prop where
 ex:∃ oe vs,h.get? e=some oe/\oe.cls=C/\oe.dict=none/\oe.data = .fields vs/\vs[1]?=some (.ref T)/\vs[2]?=some .none
 ne:T≠e
 tr:∃ oT ts,h.get? T=some oT/\oT.data = .fields ts/\ts[3]?=some fl
structure Kp(fs bad:List Addr)(h h':Heap):Prop where
 keep:∀ b o,h.get? b=some o->b∉fs->b∉bad->h'.get? b=some o
 slot:∀ b o,h.get? b=some o->b∈fs->∃ sl,h'.get? b=some {o with slots:=sl}
def j7y(o:Obj)(f:Array Value->Array Value):(o.mapFields f).dict=o.dict:=by
 obtain⟨c,d,dt,sl⟩:=o;cases dt <;> rfl
section
variable{M:Model}{A:Around}{E:Î}{s:Shared}
def Sw{base:Heap}{env:Env}{outer:List Env}{L e:Addr}{oe:Obj}{vs:Array Value}{head:Value}{nx:Bool}{Q:Unit->Shared->Prop}(jK:A.frames=some (env :: outer))(hl:s.heap.FunFrames base<|env :: outer)(hf:env.frame=some L)
  (he:s.heap.get? e=some oe) (hd:oe.data = .fields vs) (wm:oe.dict=none) (h1:1 < vs.size) (h2:vs[2]?=some .none)
  (h:∀ h' T,s.heap.get? T=none->Xo h' e T oe.cls .none->Kp (d7<|env :: outer) [e] s.heap h'->Q () {s with heap:=h'}) :
  wpAny M A (do let a <- frameOf env;let pl <- entryPlaceOf L nx;let b <- EntryCells.newEntry head a .none (rawInt L) .none pl;setField (.ref e) 1 b) (λ_ s'=>wpAny M A (setFlight (.ref e) none) Q E s') E s:=by
 have Sx:e∉d7 (env :: outer):=λhm=>by
  obtain⟨_,o,ho,hn⟩:=hl.mem hm;rw[he]at ho;cases ho;exact hn vs hd
 refine BJ<|wpAny_frameOf_fun jK hl hf λha sa=>?_;refine BJ<|wpAny_entryPlaceOf λpl ip=>?_;unfold EntryCells.newEntry newFields;refine BJ<|CZ ?_<|ip.sizeOk5 _ _ _ _ _;generalize hT:({cls:= .type "traceback",dict:=none,data:= .fields ([head,.ref L,.none,rawInt L,.none]++(if pl.isEmpty then List.replicate 6 Value.none else pl)).toArray}:Obj)=oT;have ea:ha.get? e=some oe:=(sa.2.1 e Sx).trans he;have eb:(ha.push oT).get? e=some oe:=Ai _ ea;have tb:(ha.push oT).get? ha.objs.size=some oT:=Av ha (by rw[<- hT];rfl);have Jn:ha.objs.size≠e:=Ct<|Au ea;refine DR eb hd h1 ?_;have dc:=QF hd (·.setIfInBounds 1 (Value.ref ha.objs.size));have ec:=Di (Obj.mapFields (·.setIfInBounds 1 (Value.ref ha.objs.size))) eb<|MF dc;have tc:((ha.push oT).update e (Obj.mapFields (·.setIfInBounds 1 (Value.ref ha.objs.size)))).get? ha.objs.size=some oT:=(Cg _ _<|CK Jn).trans tb;unfold setFlight;refine BJ (JF ec dc (x:= .ref ha.objs.size) (by simp[h1]) ?_);rw[BL (show(Value.ref ha.objs.size != Value.none)=true from by simp)];have dT:oT.data = .fields ([head,.ref L,.none,rawInt L,.none]++(if pl.isEmpty then List.replicate 6 Value.none else pl)).toArray:=by rw[<- hT]
 have sz:3 < ([head,.ref L,.none,rawInt L,.none]++(if pl.isEmpty then List.replicate 6 Value.none else pl)).toArray.size:=by
  simp only[Ay,Ad,Ar,Dc];omega
 refine DR tc dT sz<|h _ ha.objs.size (by
  cases hq:s.heap.get? ha.objs.size with
  | none=>rfl
  | some o=>
   obtain⟨sl,z⟩:=sa.2.2 _ o hq;exact absurd (Au z)<|De _) ?_ ?_
 ·have dd:=QF dT (·.setIfInBounds 3 ((none:Option Addr).elim Value.none λf=>rawInt f));refine⟨⟨_,_,(Cg _ _ Jn).trans ec,Obj.cls_mapFields _ _,by rw[j7y];exact wm,dc,by simp[h1],by rw[Array.getElem?_setIfInBounds_ne<|by decide];exact h2⟩,Jn,⟨_,_,Di _ tc<|MF dd,dd,?_⟩⟩;rw[Array.getElem?_setIfInBounds_self_of_lt sz];rfl
 ·have kp:∀ b o,b≠e->ha.get? b=some o->(((ha.push oT).update e (Obj.mapFields (·.setIfInBounds 1 (Value.ref ha.objs.size)))).update ha.objs.size (Obj.mapFields (·.setIfInBounds 3 ((none:Option Addr).elim Value.none λf=>rawInt f)))).get? b=some o:=λb o hb q=>by
   rw[Cg _ _<|Ct<|Au q,Cg _ _<|CK hb];exact Ai _ q
  refine⟨λb o q nf nb=>kp b o (λz=>nb<|by simp[z])<|(sa.2.1 b nf).trans q,λb o q hb=>?_⟩;obtain⟨sl,z⟩:=sa.2.2 b o q;exact⟨sl,kp b _ (λy=>Sx<|y ▸ hb) z⟩
def q1r{base:Heap}{env:Env}{outer:List Env}{L e:Addr}{oe:Obj}{vs:Array Value}{Q:Unit->Shared->Prop}(jK:A.frames=some (env :: outer))(hl:s.heap.FunFrames base<|env :: outer)(hf:env.frame=some L)
  (he:s.heap.get? e=some oe) (hd:oe.data = .fields vs) (wm:oe.dict=none) (h1:vs[1]?=some .none) (h2:vs[2]?=some .none)
  (h:∀ h' T,s.heap.get? T=none->Xo h' e T oe.cls .none->Kp (d7<|env :: outer) [e] s.heap h'->Q () {s with heap:=h'}) :
  wpAny M A (noteFrame (.ref e) env) (λ_ s'=>wpAny M A (setFlight (.ref e) none) Q E s') E s:=by
 unfold noteFrame;simp only[hf];refine BJ<|JF he hd h1 ?_;rw[BK<|by decide];exact Sw jK hl hf he hd wm (Fq.mp h1).1 h2 h
def q5t{base:Heap}{env:Env}{outer:List Env}{L e T:Addr}{C:Value}{Q:Unit->Shared->Prop}(jK:A.frames=some (env :: outer))(hl:s.heap.FunFrames base<|env :: outer)(hf:env.frame=some L)(x:Xo s.heap e T C .none)
  (h:∀ h' T',s.heap.get? T'=none->Xo h' e T' C .none->Kp (d7<|env :: outer) [e,T] s.heap h'->Q () {s with heap:=h'}) :
  wpAny M A (noteFrame (.ref e) env) (λ_ s'=>wpAny M A (setFlight (.ref e) none) Q E s') E s:=by
 obtain⟨⟨oe,vs,he,hc,wm,hd,h1,h2⟩,bn,⟨oT,ts,hT,dT,h3⟩⟩:=x;subst hc;unfold noteFrame;simp only[hf];refine BJ<|JF he hd h1 ?_;rw[BL (show(Value.ref T != Value.none)=true from by simp)];refine BJ<|JF hT dT h3 ?_;rw[BK (show ¬((Value.none == rawInt L)=true)from by simp[rawInt])];refine BJ<|DR hT dT (Fq.mp h3).1 ?_;have nT:∀ b,b≠T->(s.heap.update T (Obj.mapFields (·.setIfInBounds 3 Value.none))).get? b=s.heap.get? b:=λb hb=>Cg _ _<|CK hb;have Sy:∀ b o,s.heap.get? b=some o->(∀ vs,o.data ≠ .fields vs)->b≠T:=λb o q hn z=>by
  rw[z,hT]at q;cases q;exact hn ts dT
 have nf:T∉d7 (env :: outer):=λhm=>by
  obtain⟨_,o,ho,hn⟩:=hl.mem hm;exact Sy T o ho hn rfl
 refine Sw jK (hl.of_keeps λb o q hn=>⟨o,(nT b<|Sy b o q hn).trans q,rfl⟩) hf ((nT e<|CK bn).trans he) hd wm (Fq.mp h1).1 h2 λh' T' z x k=>h h' T' ?_ x ⟨λb o q n1 n2=>?_,λb o q hb=>?_⟩
 ·cases hq:s.heap.get? T' with
  | none=>rfl
  | some o=>
   by_cases y:T'=T
   ·have:=Di (Obj.mapFields (·.setIfInBounds 3 Value.none)) hT<|MF<|QF dT _;rw[y]at z;exact absurd (this.symm.trans z)<|by simp
   ·have:=(nT T' y).trans hq;exact absurd (this.symm.trans z)<|by simp
 ·have n3:b≠T:=λy=>n2 (by simp[y]);exact k.keep b o ((nT b n3).trans q) n1 λy=>n2<|by simp at y;simp[y]
 ·exact k.slot b o ((nT b λy=>nf<|y ▸ hb).trans q) hb
end
def Jo{fs f2 bad:List Addr}{H H':Hp}{h h1 h2:Heap}(u:Un fs [] H H' h h1)(k:Kp f2 bad h1 h2)(hf:∀ b o,h.get? b=some o->b∈f2->b∈fs)(hb:∀ b∈bad,h.get? b=none):Un fs [] H H' h h2:=by
 have nb:∀ b o,h.get? b=some o->b∉bad:=λb o q z=>by rw[hb b z]at q;cases q
 refine⟨λb o q n nf _=>k.keep b o (u.keep b o q n nf<|by simp) (λz=>nf<|hf b o q z)<|nb b o q,λb o q n hm _=>?_,u.free,λb o q _=>?_,u.fm,u.d6,u.fq⟩
 ·obtain⟨sl,z⟩:=u.slot b o q n hm<|by simp
  by_cases y:b∈f2
  ·obtain⟨xk,z'⟩:=k.slot b _ z y;exact⟨xk,z'⟩
  ·exact⟨sl,k.keep b _ z y<|nb b o q⟩
 ·obtain⟨o',z⟩:=u.there b o q<|by simp
  by_cases y:b∈f2
  ·obtain⟨xk,z'⟩:=k.slot b _ z y;exact⟨_,z'⟩
  ·exact⟨o',k.keep b _ z y<|nb b o q⟩
def Sz{P:Program}{w:World}{f2 bad:List Addr}{H:Hp}{h1 h2:Heap}(x:b9 P w H h1)(k:Kp f2 bad h1 h2)(hf:∀ b∈f2,H b=none)(hb:∀ b∈bad,H b=none):b9 P w H h2:=λa o e=>by
 refine(x a o e).g8 (λb u hh q=>k.keep b u q (λz=>?_) λz=>?_) (λ_ q=>q) λ_ _ q=>q
 ·have:=hf b z
  rcases hh with y | y
  ·rw[y,e]at this;cases this
  ·rw[y]at this;cases this
 ·have:=hb b z
  rcases hh with y | y
  ·rw[y,e]at this;cases this
  ·rw[y]at this;cases this
theorem q7v{P:Program}{w:World}{H:Hp}{h:Heap}{a:Addr}{o:HO}(x:aB P w H h a o):∃ u,h.get? a=some u:=by
 cases o with
 | lst xs=>obtain⟨_,_,_,_,q⟩:=x;exact⟨_,q⟩
 | tup xs=>obtain⟨_,_,_,u,q,_⟩:=x;exact⟨_,q⟩
 | dK kvs=>obtain⟨_,_,_,_,u,_,_,q,_⟩:=x;exact⟨_,q⟩
 | dT kvs=>obtain⟨_,_,_,_,u,_,_,q,_⟩:=x;exact⟨_,q⟩
 | set S n=>obtain⟨u,_,_,_,q,_⟩:=x;exact⟨_,q⟩
 | ins C dx fs=>obtain⟨_,_,_,q,_⟩:=x;exact⟨_,q⟩
 | own y=>exact x
 | xd fs=>obtain⟨_,⟨_,_,_,q,_⟩,_⟩:=x;exact⟨_,q⟩
 | xg lo hi=>obtain⟨_,_,_,q⟩:=x;exact⟨_,q⟩
 | b7 ob u=>obtain⟨q,_⟩:=x;exact⟨_,q⟩
 | m6 ps=>exact⟨_,x⟩
 | met f y=>exact⟨_,x⟩
 | ext φ=>obtain⟨_,q,_⟩:=x;exact q
def XF(P:Program)(w:World):gP:=λouter H s E e s'=>∃(ea T:Addr) (C:Value) (H':Hp),e = .ref ea/\E C none H'/\s'.os=s.os/\AllBare s'.gens/\Un (d7 outer) [] H H' s.heap s'.heap/\b9 P w H' s'.heap/\Xo s'.heap ea T C .none /\
 s.heap.get? ea=none/\s.heap.get? T=none/\H' ea=none/\H' T=none
section
variable{P:Program}{w:World}{K:PySem.W.Frag}{mg:Ò}{base:Heap}{N:Ñ}{qual:Str}{scope:Scope}{f:Addr}{cd:Value}{A:Around}{outer:List Env}{s:Shared}{H:Hp}{E:XK}
def SA:d7 (envOfC qual scope s.heap.objs.size f cd :: outer)=s.heap.objs.size :: d7 outer:=rfl
theorem wn{b:Addr}{fs ex:List Addr}{Ha Hb:Hp}{h h1:Heap}(u:Un fs ex Ha Hb h h1)(hx:b∉ex)(n:h1.get? b=none):h.get? b=none:=by
 cases q:h.get? b with
 | none=>rfl
 | some o=>obtain⟨o',z⟩:=u.there b o q hx;rw[n]at z;cases z
theorem Jp{P:Program}{w:World}{Ha:Hp}{h1:Heap}{b:Addr}(x:b9 P w Ha h1)(n:h1.get? b=none):Ha b=none:=by
 cases q:Ha b with
 | none=>rfl
 | some o=>
  exfalso
  obtain⟨u,z⟩:=q7v<|x b o q;rw[n]at z;cases z
def q3v{pins:Ð}{σ:St}{H1:Hp}{s1:Shared}{e T:Addr}{C:Value}(I:Inv (c7 (XF P w) P w K mg base N qual scope f cd A outer s H E) pins σ H1 s1)(x:Xo s1.heap e T C .none)(hE:E C none H1)
  (n1:s.heap.get? e=none) (n2:s.heap.get? T=none) (n3:H1 e=none) (n4:H1 T=none):(c7 (XF P w) P w K mg base N qual scope f cd A outer s H E).xe (.ref e) s1:=by
 show wpAny (model P w) (A.deeper<|envOfC qual scope s.heap.objs.size f cd) (leaving (envOfC qual scope s.heap.objs.size f cd)<|.ref e) _ _ s1;unfold leaving;refine BJ<|q5t (base:=base) (outer:=outer) I.ok.frames I.stack rfl x λh' T' z x' k=>?_;refine⟨e,T',C,H1,rfl,hE,I.os,I.bare,Jo (H:=H) (h:=s.heap) I.base k (λb o q hb=>?_) λb hb=>?_,Sz I.aI k (λb hb=>I.dk b hb) λb hb=>?_,x',n1,wn (ex:=[]) (Hb:=H1) I.base (by simp) z,n3,Jp I.aI z⟩
 ·rw[SA]at hb
  rcases Ak.mp hb with y | y
  ·exact absurd (Au q)<|by rw[y];exact De _
  ·exact y
 ·rcases Ak.mp hb with y | y
  ·rw[y];exact n1
  ·rw[Ae.mp y];exact n2
 ·rcases Ak.mp hb with y | y
  ·rw[y];exact n3
  ·rw[Ae.mp y];exact n4
def x0h:lR (XF P w) (c7 (XF P w) P w K mg base N qual scope f cd A outer s H E) E:=by
 rintro pins σ H1 s1 e s2 I ⟨ea,T,C,H',rfl,hE,os,bare,un,aI,x,n1,n2,n3,n4⟩;have I2:=I.call' (ch:=[]) os un aI bare (λb z=>absurd z<|by simp);exact q3v I2 x hE (wn (ex:=[]) (Hb:=H1) I.base (by simp) n1) (wn (ex:=[]) (Hb:=H1) I.base (by simp) n2) n3 n4
end
abbrev mV:Ó:=[.type "ValueError",.type "Exception",.type "BaseException",.type "object"]
def XC(K:PySem.W.Frag)(C:Addr):Prop:=PySem.W.excIn K C mV "ValueError.__new__" = true
def XC.obj{K:PySem.W.Frag}{h:Heap}{C:Addr}(q:XC K C)(X:K.In h):∃ bm N nm qn bs hdct sn sub ab col dd k0 k1 k2 k3 k5 mN,h.get? C=some (excClassObj nm qn C N bs bm hdct sn sub ab col dd k0 k1 k2 k3 k5 "ValueError.__new__")/\h.Ns N mN/\mN "__init__" = none/\OwnTail h mV bm:=by
 unfold XC PySem.W.excIn at q
 split at q
 ·rename_i dd cd sl ho
  split at q
  ·rename_i D bm k0 k1 k2 k3 n k5 hm hs;simp only[By,HX,JG]at q;obtain⟨⟨⟨⟨⟨eD,en⟩,wo⟩,ht⟩,aI⟩,oD⟩:=q;obtain⟨nm,bs,mro,ns,qn,hd,sn,sub,ab,col,del⟩:=cd
   dsimp only at hm wo aI oD
   subst eD en hm wo;have esl:sl=#[k0,k1,k2,k3,some<|.builtin "ValueError.__new__",k5]:=by
    cases sl;simp only at hs;rw[hs]
   subst esl;exact⟨bm,ns,nm,qn,bs,hd,sn,sub,ab,col,dd,k0,k1,k2,k3,k5,_,X _ _ ho,.of_isNs<|PySem.W.isNs_of_in X aI,PySem.W.nsMap_none_of_in X aI oD,PySem.W.tail_of_in X ht⟩
  ·cases q
 ·cases q
section
variable{X:Cx}{σ:St}{H:Hp}{D:Ends}{rest:Õ}
def Rz(X:Cx)(E:St->XK):Prop:=∀(pins:Ð) (σ:St) (H:Hp) (s:Shared) (h':Heap) (e C:Addr) (args:Ó),Inv X pins σ H s->Heap.MadeExcOf s.heap h' e (.ref C) args->E σ (.ref C) none H->X.xe (.ref e) {s with heap:=h'}
def k71{E:St->XK}(hz:Rz X E){x:Str}{C:Addr}{a:Expr}{np cp pos:Pos}(hm:X.mg x=some (.ref C))(hC:XC X.K C)(hc:X.calm=true)(h:Ea X [a] σ H λvs H1=>vs.length<=sizeLine/\E σ (.ref C) none H1)(hg:Gl X x:=by rfl)(di:(x == ("__debug__" : Str))=false:=by decide)
  (he:starEach [a] X.env=(false,eval a X.env) :: starEach [] X.env:=by rfl):Run X (.Raise (some<|.Call (.Name x np) [a] [] cp) none pos :: rest) D σ H:=by
 refine lX (t:=λD σ H=>Ea X [a] σ H λvs H1=>vs.length<=sizeLine/\E σ (.ref C) none H1) ?_ h;intro pins s σ H D I h;obtain⟨bm,N,nm,qn,bs,hdct,sn,sub,ab,col,dd,k0,k1,k2,k3,k5,mN,oC,oN,oi,oT⟩:=hC.obj I.ok.mod.ri;refine wpAny_Raise_call_subT (C:=C) (nm:=nm) (q:=qn) (N:=N) (bs:=bs) (bm:=bm) (hdct:=hdct) (sn:=sn) (sub:=sub) (ab:=ab) (col:=col) (dd:=dd) (k0:=k0) (k1:=k1) (k2:=k2) (k3:=k3) (k5:=k5) PySem.F.excBase_ValueError (mN:=mN) (oT.hasType PySem.F.excBase_ValueError.hasBase) (I.ok.hd hc) (by rw[he];rfl) oi<|Mf I hg hm ⟨rfl,?_⟩ di;have q:=h.run cp pins s I;rw[he]at q ⊢;refine MK<|aU q λus s2 ⟨vs,H2,I2,r,z2,q2⟩=>⟨rfl,by rw[<- r.length];exact z2,I2.bk _ _ oC,oN.keeps I2.bk,oT.keeps I2.bk,λh' e hx=>hz pins σ H2 s2 h' e C us I2 hx q2⟩
end
section
variable{P:Program}{w:World}{K:PySem.W.Frag}{mg:Ò}{base:Heap}{N:Ñ}{qual:Str}{scope:Scope}{f:Addr}{cd:Value}{A:Around}{outer:List Env}{s:Shared}{H:Hp}{E:XK}
def q9q{h h':Heap}(k:∀ b o,h.get? b=some o->h'.get? b=some o):Kp [] [] h h':=⟨λb o q _ _=>k b o q,λb o q z=>absurd z<|by simp⟩
def x0p:Rz (c7 (XF P w) P w K mg base N qual scope f cd A outer s H E) (λ_=>E):=by
 intro pins σ H1 s1 h' e C args I hx hE;obtain⟨t,he,_,_⟩:=hx.there;show wpAny (model P w) (A.deeper<|envOfC qual scope s.heap.objs.size f cd) (leaving (envOfC qual scope s.heap.objs.size f cd)<|.ref e) _ _ _;unfold leaving;have n0:H1 e=none:=Jp I.aI hx.new;have k1:=q9q hx.keeps;refine BJ<|q1r (s:={s1 with heap:=h'}) (base:=base) (outer:=outer) I.ok.frames (I.stack.of_keeps λb o q _=>⟨o,hx.keeps b o q,rfl⟩) rfl he rfl rfl rfl rfl λh2 T z x k=>?_;have Jq:b9 P w H1 h':=I.aI.kept hx.keeps;have un1:Un (d7 outer) [] H H1 s.heap h':=Jo (H:=H) (h:=s.heap) I.base k1 (λb o q hb=>absurd hb<|by simp) λb hb=>absurd hb (by simp);have nT:s1.heap.get? T=none:=by
  cases q:s1.heap.get? T with
  | none=>rfl
  | some o=>have:=hx.keeps _ _ q;exact absurd (this.symm.trans z)<|by simp
 have ns:s.heap.get? e=none:=wn (ex:=[]) (Hb:=H1) I.base (by simp) hx.new;refine⟨e,T,.ref C,H1,rfl,hE,I.os,I.bare,Jo un1 k (λb o q hb=>?_) λb hb=>?_,Sz Jq k (λb hb=>I.dk b hb) λb hb=>?_,x,ns,wn (ex:=[]) (Hb:=H1) I.base (by simp) nT,n0,Jp I.aI nT⟩
 ·rw[SA]at hb
  rcases Ak.mp hb with y | y
  ·exact absurd (Au q)<|by rw[y];exact De _
  ·exact y
 ·rw[Ae.mp hb];exact ns
 ·rw[Ae.mp hb];exact n0
def Jr(N:Ñ)(qual:Str)(scope:Scope)(P:Program)(w:World)(K:PySem.W.Frag)(mg:Ò)(base:Heap)(b:rH):Cx:=c7 (XF P w) P w K mg base N qual scope b.f b.bH b.A b.outer b.s b.H b.E
def bv.gx{x:Str}{st:Stmt}{fd:FuncData}{ps:Ñ}{k:Nat}{sp:Sp}(F:bv K x qual st f fd)(S:ao N ps<|aT st)(len:∀ vs H Q E,sp vs H Q E->vs.length=ps.length)
  (cM:∀(b:rH) (H:Hp) (vs:List V) (Q:VK),bC k (b.A.deeper<|envOfC qual (aT st) b.s.heap.objs.size b.f b.bH)->sp vs H Q b.E->Run (Jr N qual (aT st) P w K mg base b) (i6 st) (En Q) (start N vs) H):aE P w K mg base (XF P w) (k+1) f fd ps sp:=by
 obtain⟨oc,od,kV,doc,pm,an,bH,ct,kZ,rfl,lk,iB⟩:=F.ex;refine MM lk iB S len λA outer s H vs Q E hr dQ=>?_;exact⟨_,px,cM ⟨f,bH,A,outer,s,H,E⟩ H vs Q hr dQ⟩
def x0x{b:rH}:lR (XF P w) (Jr N qual scope P w K mg base b) b.E:=x0h
def rzX{b:rH}:Rz (Jr N qual scope P w K mg base b) (λ_=>b.E):=x0p
end
structure fM(P:Program)(w:World)(K:PySem.W.Frag)(mg:Ò)(base:Heap)(k:Nat)(x:Str)(ps:Ñ)(sp:Sp):Prop where
 ex:∃ f fd,aE P w K mg base (XF P w) k f fd ps sp/\Binds K fd ps []/\PySem.W.keepIn K (.ref f)=true/\mg x=some (.ref f)
def fM.mono{P:Program}{w:World}{K:PySem.W.Frag}{mg:Ò}{base:Heap}{j k:Nat}{x:Str}{ps:Ñ}{sp:Sp}(h:fM P w K mg base j x ps sp)(le:j<=k):fM P w K mg base k x ps sp:=
 let ⟨f,fd,F,r⟩:=h.ex;⟨f,fd,F.mono le,r⟩
def SD{X:Cx}{k:Nat}{ps:Ñ}{sp:Sp}{x:Str}{e:Expr}{es:Ô}{σ:St}{H:Hp}{Q:VK}{E:XK}{p pos:Pos}(G:fM X.prog X.w X.K X.mg X.base k x ps sp)(hr:bC k X.A)(hx:lR (XF X.prog X.w) X E)
  (h:Ea X (e :: es) σ H λvs H1=>sp vs H1 Q E) (hg:Gl X x:=by rfl) (di:(x == ("__debug__" : Str))=false:=by decide) (hs:noStar (e :: es)=true:=by rfl):Ev X (.Call (.Name x p) (e :: es) [] pos) σ H Q:=
 let ⟨_,_,F,b,kp,m⟩:=G.ex;Nj F hr m kp b hx h hg di hs
def Df.wq{P:Program}{w:World}{K:PySem.W.Frag}{mg:Ò}{h base:Heap}{k:Nat}{x:Str}{st:Stmt}{ps:Ñ}{sp:Sp}(d:Df K x st)(X:K.In h)(G:h.Ns mainGlobals mg)
  (hb:∀(kV doc pm:Value) (an:Option Addr) (bH ct:Value) (us:Ó),us.length=ps.length->bindArgs (PySem.W.fnOf x x (ni st) (i6 st) (aT st) .none kV doc pm an bH ct) ⟨us,[]⟩=pure (ps.zip us))
  (ok:∀{f:Addr} {fd:FuncData},bv K x x st f fd->aE P w K mg base (XF P w) k f fd ps sp):fM P w K mg base k x ps sp:=
 let ⟨f,fd,a,F⟩:=d;⟨f,fd,ok F,F.binds hb,F.kp,KR X G a⟩
section
variable{X:Cx}{CX:gP}{k:Nat}{f:Addr}{fd:FuncData}{ps:Ñ}{sp:Sp}{E:XK}{x:Str}{p pos:Pos}{e:Expr}{es:Ô}{σ:St}{H:Hp}{Q:VK}
end
section
variable{X:Cx}{pins:Ð}{σ:St}{H:Hp}{s:Shared}{b:Addr}
end
def SE(K:PySem.W.Frag)(C S:Addr):Bool:=match K.lookup C with
 | some ⟨_,_,.cls cd,_⟩=>cd.mro.contains<|.ref S
 | _=>false
section
variable{M:Model}{A:Around}{E:Î}{K:PySem.W.Frag}{s:Shared}
end
section
variable{X:Cx}{pins:Ð}{σ:St}{H:Hp}{s:Shared}
end
open PySem.W
section
variable{prog:Program}{w:World}{A:Around}{E:Î}{s:Shared}{K:Frag}{a C:Addr}{o:Obj}
def SF(K:Frag)(C:Addr):Bool:=findIn K (.ref C) "__getattribute__" == some (some<|.builtin "BaseException.__getattribute__") && findIn K (.ref C) "__getattr__" == some none && findIn K (.ref C) "__class__" == some (some<|.builtin "object.__class__") &&
 mroIn K C (.type "object") == some true && mroIn K C (.type "BaseException") == some true && (clsIn K C).isSome
end
end L2
namespace L2
open PySem PySem.Spec PyProof.Rows
section
variable{prog:Program}{w:World}{A:Around}{E:Î}{s:Shared}
end
open bw
section
variable{X:Cx}{a b e:Expr}{es:Ô}{σ:St}{H:Hp}{Q:VK}{pos p kp cp:Pos}{j:Nat}
end
end L2
namespace L2
open PySem PySem.Spec PyProof.Rows bA
section
variable{X:Cx}{elt t1 i1 t2 i2 t3 i3:Expr}{f1 f2 f3:Ô}{scope:Scope}{pos:Pos}{σ:St}{H:Hp}{acc:Value}{env:Env}
end
section
variable{X:Cx}{tg:Expr}{ifs:Ô}{inner:Sem Unit}{σ:St}{H:Hp}{a:Addr}{xs:List V}{after:St->Hp->Prop}
end
section
variable{X:Cx}{σ:St}{H:Hp}{Q:VK}
end
end L2
namespace Nt
open PySem L2 Classical
def iV{α:Type}(k:Nat)(w:List α):List α:=au<|w.drop k
def fN(k:Nat):Nat->List (List End)->List (Nat×End)
 | _,[]=>[]
 | m,w :: ws=>((iV k w).map λe=>(m,e))++fN k (m+1) ws
def iW(k:Nat)(ws:List<|List End):List (Nat×End):=fN k 0 ws
theorem SG(k:Nat):∀(m:Nat) (ws:List<|List End),(fN k m ws).map (·.2)=ws.flatMap (iV k)
 | m,[]=>rfl
 | m,w :: ws=>by
  unfold fN;rw[Ag,SG k (m+1) ws,Cn,Cc]
  congr 1
  exact List.map_id' _
def Js{n:Net}{e:End}:iV 1 (walker n e)=(au<|walker n e).map (go 1 n):=by
 unfold walker iV;have l:=qf n e<|uV n e;apply Dz;intro i;rw[Aj,qd,qd,Fc]
 by_cases h:i < uV n e
 ·rw[show 1+2 * i=2 * i+1 by omega,yw n e _ i h,qg n e _ i h];rfl
 ·rw[Be (by omega),Be<|by omega];rfl
theorem SH{n:Net}:∀{ws:List (List End)},(∀ w∈ws,∃ e,e∈ends n/\w=walker n e)->ws.flatMap (iV 1)=(ws.flatMap au).map (go 1 n)
 | [],_=>rfl
 | w :: ws,h=>by
  obtain⟨e,_,rfl⟩:=h w<|Af ..;rw[Cc,Cc,Ag,Js,SH λv hv=>h v<|Ah _ hv]
theorem SK{n:Net}(T:av n){k:Nat}(hk:k<=1):((iW k<|bh n).map λp=>aD n p.2).Perm (((bh n).flatMap au).map<|aD n):=by
 have e:((iW k<|bh n).map λp=>aD n p.2)=((bh n).flatMap<|iV k).map (aD n):=by
  unfold iW;rw[<- SG k 0<|bh n,Cn];rfl
 rw[e]
 match k,hk with
 | 0,_=>exact List.Perm.refl _
 | 1,_=>
  rw[SH (qR T).wk,Cn];exact Sq T
def k9p{n:Net}(T:av n){k:Nat}(hk:k<=1):((iW k<|bh n).map λp=>aD n p.2).Nodup:=(SK T hk).nodup_iff.mpr (qR T).nd
def q3r{n:Net}(T:av n){k:Nat}(hk:k<=1){z:Str}:z∈((iW k<|bh n).map λp=>aD n p.2)↔z∈ag n:=by
 rw[(SK T hk).mem_iff];refine⟨λh=>?_,λh=>Bs.mp<|by rw[Jj T h];exact Fm⟩;obtain⟨x,hx,rfl⟩:=Ap.mp h;obtain⟨y,hy⟩:=af.mp ((qR T).new x hx).1;rw[fJ hy];exact dG hy
noncomputable def eW(n:Net)(k:Nat)(z:Str):List (Nat×End):=(iW k<|bh n).filter λp=>decide (aD n p.2=z)
theorem SL{α:Type}{f:α->Str}:∀{l:List α},(l.map f).Nodup->∀{p:α},p∈l->(l.filter λx=>decide (f x=f p))=[p]
 | a :: l,hn,p,hp=>by
  rw[Bj,Bf]at hn;rw[Dg]
  by_cases h:f a=f p
  ·rw[BL<|BW h];have e:a=p:=by
    rcases Ak.mp hp with q | q
    ·exact q.symm
    ·exact absurd (by rw[h];exact Ap.mpr ⟨p,q,rfl⟩) hn.1
   subst e
   congr 1
   rw[Gj];intro x hx q;exact hn.1<|by rw[<- BX q];exact Ap.mpr ⟨x,hx,rfl⟩
  ·rw[BK λq=>h<|BX q]
   rcases Ak.mp hp with q | q
   ·exact absurd (by rw[q]) h
   ·exact SL hn.2 q
def SR{n:Net}(T:av n){k:Nat}(hk:k<=1){z:Str}(hz:z∈ag n):∃ p,p∈iW k (bh n)/\aD n p.2=z/\eW n k z=[p]:=by
 obtain⟨p,hp,rfl⟩:=Ap.mp<|(q3r T hk).mpr hz;exact⟨p,hp,rfl,SL (k9p T hk) hp⟩
theorem Jt{n:Net}(T:av n):∀(es:List End) (told:Ñ),(∀ e∈es,e∈ends n)->∀(i:Nat) w,(dI n es told)[i]?=some w ->
  ∃ e l r,es=l++e :: r/\(∀ x∈l,aD n x∈told++(((dI n es told).take i).flatMap au).map (aD n))/\aD n e∉told++(((dI n es told).take i).flatMap au).map (aD n)/\w=walker n e
 | [],told,_,i,w,h=>by simp[dI]at h
 | e :: r,told,hE,i,w,h=>by
  have hr:∀ a∈r,a∈ends n:=λa ha=>hE a<|Ah _ ha;unfold dI at h ⊢
  by_cases c:aD n e∈told
  ·rw[BL c]at h ⊢;obtain⟨x,l,r',h1,h2,h3,h4⟩:=Jt T r told hr i w h;refine⟨x,e :: l,r',by rw[h1];rfl,λy hy=>?_,h3,h4⟩
   rcases Ak.mp hy with q | q
   ·rw[q];exact Bc _ c
   ·exact h2 y q
  ·rw[BK c]at h ⊢
   match i with
   | 0=>
    cases h;refine⟨e,[],r,rfl,λy hy=>(nomatch hy),?_,rfl⟩
    simpa using c
   | i+1=>
    obtain⟨x,l,r',h1,h2,h3,h4⟩:=Jt T r (told++(au<|walker n e).map (aD n)) hr i w h;have eq:(told++(((walker n e :: dI n r (told++(au<|walker n e).map (aD n))).take<|i+1).flatMap au).map (aD n))=(told++(au<|walker n e).map (aD n))++(((dI n r<|told++(au<|walker n e).map (aD n)).take i).flatMap au).map (aD n):=by
     rw[List.take_succ_cons,Cc,Ag,At]
    rw[eq];refine⟨x,e :: l,r',by rw[h1];rfl,λy hy=>?_,h3,h4⟩
    rcases Ak.mp hy with q | q
    ·rw[q];refine Bc _<|Aw _<|Ap.mpr ⟨e,?_,rfl⟩;exact(lF T<|hE e<|Af ..).mpr ⟨0,rfl⟩
    ·exact h2 y q
noncomputable def SU(n:Net)(i:Nat):Ñ:=(((bh n).take i).flatMap au).map<|aD n
def k9t{n:Net}(T:av n){i:Nat}{w:List End}(h:(bh n)[i]?=some w):∃ e l r,ends n=l++e :: r/\(∀ x∈l,aD n x∈SU n i)/\aD n e∉SU n i/\w=walker n e:=by
 obtain⟨e,l,r,h1,h2,h3,h4⟩:=Jt T (ends n) [] (λ_ h=>h) i w h;exact⟨e,l,r,h1,h2,h3,h4⟩
def k2o{n:Net}(T:av n){e:End}(h:e∈ends n):(walker n e)[0]?=some e:=by
 obtain⟨k,p,_⟩:=sw T h;unfold walker;rw[uW p];have:=qg n e k 0 p.pos;exact this
structure g7(n:Net)(s:Str->Bool)(c:Nat->Bool)(χ:End->Bool):Prop where
 face:aZ n s χ
 cut:∀ e z,aK n e=some z->s z=(c e.1 ^^ c (other n e).1)
def jE(n:Net)(c:Nat->Bool)(χ:End->Bool)(x:End):Bool:=c x.1 ^^ χ (other n x)
def tj(c:Nat->Bool)(χ:End->Bool)(y:End):Bool:=c y.1 ^^ χ y
section
variable{n:Net}{s:Str->Bool}{c:Nat->Bool}{χ:End->Bool}
def g7.odd(T:av n)(D:g7 n s c χ){x:End}(hx:x∈ends n):tj c χ (go 1 n x)=jE n c χ x:=by
 obtain⟨z,hz⟩:=af.mp hx;have h1:=D.face.go x hx;rw[PD T hx]at h1;have h2:=D.face.cY x z hz;have h3:=D.cut x z hz;unfold tj jE;rw[h1,show(go 1 n x).1=(other n x).1 from rfl];rw[h2]at h3
 revert h3
 cases χ x <;> cases χ (other n x) <;> cases c x.1 <;> cases c (other n x).1 <;> simp
def g7.even(T:av n)(D:g7 n s c χ){y:End}(hy:y∈ends n):jE n c χ (go (-1) n y)=tj c χ y:=by
 obtain⟨z,hz⟩:=af.mp hy;have h1:=D.face.go _<|cX T<|gF T hy (c:=-1);rw[RY T hy]at h1;have h2:=D.face.cY y z hz;have h3:=D.cut y z hz;unfold tj jE;rw[<- h1,show(go (-1) n y).1=(other n y).1 from rfl];rw[h2]at h3
 revert h3
 cases χ y <;> cases χ (other n y) <;> cases c y.1 <;> cases c (other n y).1 <;> simp
def g7.two(T:av n)(D:g7 n s c χ){x:End}(hx:x∈ends n):jE n c χ (Nt.two n x)=jE n c χ x:=by
 rw[show Nt.two n x=go (-1) n (go 1 n x)from rfl,D.even T<|gF T hx,D.odd T hx]
theorem g7.it(T:av n)(D:g7 n s c χ){x:End}(hx:x∈ends n):∀ k,jE n c χ (Nt.it (Nt.two n) k x)=jE n c χ x
 | 0=>rfl
 | k+1=>by
  show jE n c χ (Nt.two n<|Nt.it (Nt.two n) k x)=_;rw[D.two T<|jU T hx k,D.it T hx k]
theorem SV(k:Nat):∀(m:Nat) (ws:List<|List End) {i:Nat} {e:End},(i,e)∈fN k m ws->∃ j w,ws[j]?=some w/\i=m+j/\e∈iV k w
 | m,[],i,e,h=>by simp[fN]at h
 | m,w :: ws,i,e,h=>by
  unfold fN at h
  rcases Al.mp h with h | h
  ·obtain⟨x,hx,q⟩:=Ap.mp h;cases q;exact⟨0,w,rfl,rfl,hx⟩
  ·obtain⟨j,v,h1,h2,h3⟩:=SV k (m+1) ws h;exact⟨j+1,v,h1,by omega,h3⟩
def Ju{k:Nat}{ws:List (List End)}{i:Nat}{e:End}(h:(i,e)∈iW k ws):∃ w,ws[i]?=some w/\e∈iV k w:=by
 obtain⟨j,w,h1,h2,h3⟩:=SV k 0 ws h;rw[Er]at h2;subst h2;exact⟨w,h1,h3⟩
noncomputable def jF(n:Net)(c:Nat->Bool)(χ:End->Bool)(i:Nat):Bool:=match (bh n)[i]? with
 | some (e :: _)=>jE n c χ e
 | _=>false
theorem SW(T:av n){i:Nat}{e:End}(he:e∈ends n)(h:(bh n)[i]?=some (walker n e)):jF n c χ i=jE n c χ e:=by
 have h0:=k2o T he;unfold jF;rw[h];cases hw:walker n e with
 | nil=>rw[hw]at h0;cases h0
 | cons a l=>rw[hw]at h0;cases h0;rfl
def Jv(T:av n){i:Nat}{w:List End}(h:(bh n)[i]?=some w):∃ e,e∈ends n/\w=walker n e:=by
 obtain⟨e,l,r,heq,_,_,hw⟩:=k9t T h;exact⟨e,by rw[heq];simp,hw⟩
def g7.j8(T:av n)(D:g7 n s c χ){i:Nat}{x:End}(h:(i,x)∈iW 0 (bh n)):x∈ends n/\jE n c χ x=jF n c χ i:=by
 obtain⟨w,hw,hx⟩:=Ju h;obtain⟨e,he,rfl⟩:=Jv T hw;have hx:x∈dh n e:=hx;obtain⟨k,rfl⟩:=(lF T he).mp hx;rw[SW T he hw];exact⟨jU T he k,D.it T he k⟩
def g7.wt(T:av n)(D:g7 n s c χ){i:Nat}{y:End}(h:(i,y)∈iW 1 (bh n)):y∈ends n/\tj c χ y=jF n c χ i:=by
 obtain⟨w,hw,hy⟩:=Ju h;obtain⟨e,he,rfl⟩:=Jv T hw;rw[Js]at hy;obtain⟨x,hx,rfl⟩:=Ap.mp hy;have hx:x∈dh n e:=hx;obtain⟨k,rfl⟩:=(lF T he).mp hx;rw[SW T he hw];have:=jU T he k;exact⟨gF T this,by rw[D.odd T this,D.it T he k]⟩
def g7.cY(T:av n)(D:g7 n s c χ){p q:Nat×End}(hp:p∈iW 0 (bh n))(hq:q∈iW 1 (bh n))(h:aD n p.2=aD n q.2):s (aD n p.2)=(jF n c χ p.1 ^^ jF n c χ q.1):=by
 obtain⟨i,x⟩:=p;obtain⟨j,y⟩:=q;obtain⟨hx,e1⟩:=D.j8 T hp;obtain⟨hy,e2⟩:=D.wt T hq;show s (aD n x)=(jF n c χ i ^^ jF n c χ j);obtain⟨z,hz⟩:=af.mp hx;have h2:=D.face.cY x z hz;have h3:=D.cut x z hz;rw[<- e1,<- e2,fJ hz];unfold jE tj
 rcases zv T hx hy h with k | k
 ·subst k;rw[h2];cases χ y <;> cases χ (other n y) <;> cases c y.1 <;> rfl
 ·subst k;rw[h3];cases χ (other n x) <;> cases c x.1 <;> cases c (other n x).1 <;> rfl
end
def q38{α:Type}(k:Nat):iV k ([]:List α)=[]:=by unfold iV;rw[List.drop_nil];rfl
theorem SY(k i:Nat):∀(m:Nat) (ws:List<|List End),((fN k m ws).filter λp=>decide (p.1=i))=if m<=i then((iV k<|ws[i - m]?.getD []).map λe=>(i,e))else []
 | m,[]=>by
  rw[List.getElem?_nil];show []=if m<=i then((iV k ([]:List End)).map λe=>(i,e))else [];rw[q38]
  split <;> rfl
 | m,w :: ws=>by
  unfold fN;rw[Cu,SY k i (m+1) ws]
  by_cases h:m=i
  ·subst h;rw[BL<|Ao _,BK (by omega),Bh,Ed];rw[List.filter_eq_self.mpr λa ha=>by obtain⟨x,_,rfl⟩:=Ap.mp ha;exact BW rfl];rfl
  ·rw[Gj.mpr λa ha=>by obtain⟨x,_,rfl⟩:=Ap.mp ha;exact λq=>h<|BX q,Ff]
   by_cases c:m<=i
   ·rw[BL c,BL (by omega),show i - m=(i - (m+1))+1 by omega];rfl
   ·rw[BK c,BK<|by omega]
theorem SZ{α:Type}(f:α->Str)(z:Str):∀ l:List α,(l.map f).count z=(l.filter λx=>decide (f x=z)).length
 | []=>rfl
 | a :: l=>by
  rw[Bj,Cz,SZ f z l,Dg]
  by_cases h:f a=z
  ·rw[BL (by rw[h];exact LC z),BL<|BW h,Ar]
  ·rw[BK (by rw[HX];exact h),BK λq=>h<|BX q];rfl
def S0{n:Net}{k:Nat}{z:Str}{p:Nat×End}(hp:eW n k z=[p]){i:Nat}{w:List End}(hw:(bh n)[i]?=some w):((iV k w).map<|aD n).count z=if p.1=i then 1 else 0:=by
 have h1:=SY k i 0<|bh n;rw[BL<|Cf _,RD,hw]at h1;have h1:(iW k<|bh n).filter (λp=>decide (p.1=i))=(iV k w).map λe=>(i,e):=h1;have h2:(((iW k<|bh n).filter λp=>decide (p.1=i)).filter λp=>decide (aD n p.2=z))=(eW n k z).filter λp=>decide (p.1=i):=by
  unfold eW;rw[List.filter_filter,List.filter_filter]
  congr 1
  funext p
  exact Ga ..
 rw[h1,hp,List.filter_map]at h2;have h3:=BZ List.length h2;rw[Aa]at h3;rw[SZ];refine Eq.trans h3 ?_;rw[Dg]
 by_cases c:p.1=i
 ·rw[BL<|BW c,BL c];rfl
 ·rw[BK λq=>c<|BX q,BK c];rfl
def q2p{n:Net}(T:av n){z:Str}{p q:Nat×End}(hp:eW n 0 z=[p])(hq:eW n 1 z=[q]){i:Nat}{w:List End}(hw:(bh n)[i]?=some w):cA n w z=(decide (p.1=i) ^^ decide (q.1=i)):=by
 obtain⟨e,he,rfl⟩:=Jv T hw;have c0:=S0 hp hw;have c1:=S0 hq hw;rw[Js,Cn]at c1;have c0:((dh n e).map<|aD n).count z=_:=c0;have c1:((dh n e).map λx=>aD n<|go 1 n x).count z=_:=c1;unfold cA;rw[(Sj T he).count_eq,Cq,c0,c1]
 by_cases a:p.1=i <;> by_cases b:q.1=i <;> simp[a,b]
theorem S6{m a:Nat}(h:a < m)(f:Nat->Bool):aj ((List.range m).map λi=>f i && decide (a=i))=f a:=by
 induction m with
 | zero=>omega
 | succ m ih=>
  rw[Du,Ag,gX];show(_ ^^ ((f m && decide (a=m)) ^^ false))=_;rw[Fp]
  by_cases c:a=m
  ·subst c;have:aj ((List.range a).map λi=>f i && decide (a=i))=false:=by
    have e:((List.range a).map λi=>f i && decide (a=i))=(List.range a).map λ_=>false:=Aq λi hi=>by
     rw[BR (λq=>by have:=Bw.mp hi;omega),Gw]
    rw[e,iR]
   rw[this,BW rfl,Bool.and_true,Fo]
  ·rw[ih (by omega),BR c,Gw,Fp]
def k41{n:Net}(T:av n)(ch:Nat->Bool){z:Str}{p q:Nat×End}(hp:eW n 0 z=[p])(hq:eW n 1 z=[q]) :
  aj ((List.range (bh n).length).map λi=>ch i && cA n ((bh n)[i]?.getD []) z)=(ch p.1 ^^ ch q.1):=by
 have lt:∀{k:Nat} {p:Nat×End},eW n k z=[p]->p.1 < (bh n).length:=λ{k p} h=>by
  have:p∈eW n k z:=by rw[h];exact Ae.mpr rfl
  obtain⟨w,hw,_⟩:=Ju (i:=p.1) (e:=p.2) (Ba.mp this).1;exact(Ac.mp hw).1
 have e:((List.range (bh n).length).map λi=>ch i && cA n ((bh n)[i]?.getD []) z)=(List.range (bh n).length).map λi=>(ch i && decide (p.1=i)) ^^ (ch i && decide (q.1=i)):=Aq λi hi=>by
  have hw:=Ab<|Bw.mp hi;have ho:=q2p T hp hq hw;rw[hw,Option.getD_some,ho];cases ch i <;> rfl
 rw[e,gY,S6<|lt hp,S6<|lt hq]
structure cD(n:Net)(cs:List<|List Str):Prop where
 len:cs.length=(bh n).length
 mem:∀(i:Nat) c w,cs[i]?=some c->(bh n)[i]?=some w->∀ z,z∈c↔(w.map<|aD n).count z=1
 og:∀ c∈cs,bP c
section
variable{n:Net}{cs:List Ñ}{ss zs:Ñ}{c:Nat->Bool}{χ:End->Bool}
def cD.at'(C:cD n cs)(T:av n){i:Nat}(hi:i < (bh n).length){z:Str}(hz:z∈ag n):decide (z∈cs[i]?.getD [])=cA n ((bh n)[i]?.getD []) z:=by
 have h1:=Ab hi;have h2:=Ab (show i < cs.length by rw[C.len];exact hi);rw[h1,h2];exact Jm T (Bn hi) (C.mem i _ _ h2 h1) hz
theorem Jw{α:Type}(g f:α->Bool):∀ l:List α,aj ((l.filter g).map f)=aj (l.map λi=>g i && f i)
 | []=>rfl
 | a :: l=>by
  rw[Dg];have ih:=Jw g f l;cases h:g a with
  | true=>
   rw[BL rfl];show(f a ^^ aj ((l.filter g).map f))=((g a && f a) ^^ aj (l.map λi=>g i && f i));rw[ih,h,Gz]
  | false=>
   rw[BK (by decide),ih];show _=((g a && f a) ^^ aj (l.map λi=>g i && f i));rw[h,TJ,Fo]
end
section
variable{n:Net}
end
abbrev bQ(n:Net):Ñ:=n.map (·.1)
noncomputable def bj(n:Net)(p:Str->Bool)(z:Str):Bool:=aj<|n.map λr=>p r.1 && decide (r.2.count z % 2=1)
noncomputable def kP(n:Net)(p s:Str->Bool):Bool:=aj<|n.map λr=>p r.1 && aj (r.2.map s)
noncomputable def pr(f:Str->Bool)(os:Ñ):Bool:=aj<|os.map f
def Jx{α:Type}(b:Bool)(f:α->Bool)(l:List α):(b && aj (l.map f))=aj (l.map λx=>b && f x):=by
 cases b
 ·show false=aj (l.map λ_=>false);rw[iR]
 ·rfl
def Jy{α:Type}(b:Bool)(f:α->Bool)(l:List α):(aj (l.map f) && b)=aj (l.map λx=>f x && b):=by
 rw[Ga,Jx]
 congr 1
 exact Aq λx _=>Ga _ _
def Jz{n:Net}{Z:Ñ}(hz:Z.Nodup)(hm:∀ z∈ag n,z∈Z)(p s:Str->Bool):kP n p s=bo Z (bj n p) s:=by
 unfold kP bo bj;have e:(Z.map λz=>aj (n.map λr=>p r.1 && decide (r.2.count z % 2=1)) && s z)=Z.map λz=>aj (n.map λr=>p r.1 && (s z && decide (r.2.count z % 2=1))):=Aq λz _=>by
  rw[Jy]
  congr 1
  refine Aq λr _=>?_;cases p r.1 <;> cases s z <;> simp
 rw[e,we λz (r:Str×List Str)=>p r.1 && (s z && decide (r.2.count z % 2=1))]
 congr 1
 refine Aq λr hr=>?_;rw[<- Jx]
 congr 1
 exact(Jd (n:=n) hz λy hy=>hm y<|Dh.mpr ⟨r,hr,hy⟩).symm
def wu(Z:Ñ)(s t:Str->Bool):bo Z s t=bo Z t s:=by
 unfold bo
 congr 1
 exact Aq λz _=>Ga _ _
def JA{Z:Ñ}{s s' t t':Str->Bool}(h:∀ z∈Z,s z=s' z)(k:∀ z∈Z,t z=t' z):bo Z s t=bo Z s' t':=by
 unfold bo
 congr 1
 exact Aq λz hz=>by rw[h z hz,k z hz]
def sym{n:Net}(p q:Str->Bool):kP n p (bj n q)=kP n q (bj n p):=by
 obtain⟨Z,hs,hm⟩:=oh<|ag n;rw[Jz (ga hs) λz hz=>(hm z).mpr hz,Jz (ga hs) λz hz=>(hm z).mpr hz,wu]
def k8i{c:Ñ}(h:c.Nodup)(z:Str):decide (c.count z % 2=1)=decide (z∈c):=by
 by_cases k:z∈c
 ·have:c.count z=1:=Nat.le_antisymm (Gq.mp h z)<|Bs.mpr k;rw[this,BW k];rfl
 ·rw[Dr k,BR k];rfl
def wv{Z c:Ñ}(hz:Z.Nodup)(hc:c.Nodup)(hm:∀ z∈c,z∈Z)(f:Str->Bool):pr f c=bo Z f (λz=>decide (z∈c)):=by
 unfold pr;rw[<- Jd (n:=[]) hz hm];exact JA (λ_ _=>rfl) λz _=>k8i hc z
abbrev cS(a b c:Ñ):Prop:=∀ z,z∈c↔(if z∈a then z∉b else z∈b)
def tq{a b c:Ñ}(h:cS a b c)(z:Str):decide (z∈c)=(decide (z∈a) ^^ decide (z∈b)):=by
 have:=h z
 by_cases x:z∈a <;> by_cases y:z∈b <;> simp[x,y]at this <;> simp[x,y,this]
def q8s{a b c:Ñ}(ha:a.Nodup)(hb:b.Nodup)(hc:c.Nodup)(h:cS a b c)(f:Str->Bool):pr f c=(pr f a ^^ pr f b):=by
 obtain⟨Z,hs,hm⟩:=oh<|a++b;have nz:=ga hs;rw[wv nz ha λz hz=>(hm z).mpr<|Al.mpr<|.inl hz,wv nz hb λz hz=>(hm z).mpr<|Al.mpr<|.inr hz,
  wv nz hc (λz hz=>(hm z).mpr (by
   have:=(h z).mp hz;rw[Al]
   by_cases k:z∈a
   ·exact .inl k
   ·rw[BK k]at this;exact .inr this))]
 rw[wu Z f,wu Z f,wu Z f,<- Jc];exact JA (λz _=>tq h z) λ_ _=>rfl
noncomputable def cn(s:Str->Bool)(r:Str×List Str):Bool:=aj<|r.2.map s
def cT(n:Net)(s:Str->Bool)(os:Ñ):Prop:=os.Perm ((n.filter<|cn s).map (·.1))
def cT.pr{n:Net}{s:Str->Bool}{os:Ñ}(h:cT n s os)(f:Str->Bool):pr f os=kP n f s:=by
 unfold Nt.pr kP;rw[P4<|h.map f,Cn,Jw]
 congr 1
 exact Aq λr _=>Ga _ _
def cT.nd{n:Net}{s:Str->Bool}{os:Ñ}(h:cT n s os)(hN:(bQ n).Nodup):os.Nodup:=h.nodup_iff.mpr<|hN.sublist<|List.filter_sublist.map _
def cT.sub{n:Net}{s:Str->Bool}{os:Ñ}(h:cT n s os):∀ x∈os,x∈bQ n:=λx hx=>by
 obtain⟨r,hr,rfl⟩:=Ap.mp<|h.mem_iff.mp hx;exact Ap.mpr ⟨r,(Ba.mp hr).1,rfl⟩
def S7{n:Net}(hN:(bQ n).Nodup){r q:Str×List Str}(hr:r∈n)(hq:q∈n)(h:r.1=q.1):r=q:=Jk hN r hr q hq h
def cT.mem{n:Net}{s:Str->Bool}{os:Ñ}(h:cT n s os)(hN:(bQ n).Nodup){r:Str×List Str}(hr:r∈n):decide (r.1∈os)=cn s r:=by
 cases k:cn s r
 ·refine BR λhx=>?_;obtain⟨q,hq,e⟩:=Ap.mp<|h.mem_iff.mp hx;obtain⟨q1,q2⟩:=Ba.mp hq;rw[S7 hN q1 hr e,k]at q2;cases q2
 ·exact BW<|h.mem_iff.mpr<|Ap.mpr ⟨r,Ba.mpr ⟨hr,k⟩,rfl⟩
def S8{n:Net}(hN:(bQ n).Nodup){r:Str×List Str}(hr:r∈n)(s:Str->Bool):kP n (λx=>decide (x=r.1)) s=cn s r:=by
 unfold kP;have e:(n.map λq=>decide (q.1=r.1) && aj (q.2.map s))=n.map λq=>decide (q=r) && aj (r.2.map s):=Aq λq hq=>by
  by_cases k:q.1=r.1
  ·rw[S7 hN hq hr k,BW rfl,BW rfl]
  ·rw[BR k,BR λe=>k<|by rw[e]];rfl
 rw[e,<- Jy];have one:∀{l:List (Str×List Str)},l.Nodup->r∈l->aj (l.map λq=>decide (q=r))=true:=by
  intro l
  induction l with
  | nil=>intro _ h;cases h
  | cons a l ih=>
   intro nd h;have u6:=Bf.mp nd;show(decide (a=r) ^^ aj (l.map _))=true
   by_cases k:a=r
   ·have:(l.map λq=>decide (q=r))=l.map λ_=>false:=Aq λq hq=>BR λe=>u6.1 (by rw[k,<- e];exact hq);rw[this,iR,BW k];rfl
   ·rw[BR k,ih u6.2<|by rcases Ak.mp h with e | e;exact absurd e.symm k;exact e];rfl
 rw[one (Jl hN) hr];rfl
noncomputable def cq(n:Net)(ps:Ñ)(r:Str×List Str):Bool:=cn (bj n λy=>decide (y∈ps)) r
def S9(n:Net)(p q:Str->Bool)(z:Str):bj n (λy=>p y ^^ q y) z=(bj n p z ^^ bj n q z):=by
 unfold bj;rw[<- gY]
 congr 1
 refine Aq λr _=>?_;show((p r.1 ^^ q r.1) && decide (r.2.count z % 2=1))=_;generalize decide (r.2.count z % 2=1)=c;generalize p r.1=a;generalize q r.1=b;cases a <;> cases b <;> cases c <;> rfl
def q2j{n:Net}{a b c:Ñ}(h:cS a b c)(r:Str×List Str):cq n c r=(cq n a r ^^ cq n b r):=by
 unfold cq cn;rw[<- gY]
 congr 1
 refine Aq λz _=>?_;rw[<- S9]
 congr 1
 funext y
 exact tq h y
def tu{n:Net}(T:av n)(ps:Ñ)(z:Str):bj n (λy=>decide (y∈ps)) z=decide (dv n ps z):=by
 have h:=Qe T ps z;rw[decide_eq_decide.mpr h];unfold bj;rw[qP];have fl:∀ l:Net,aj ((ag l).map λy=>decide (z=y))=aj (l.map λr=>decide (r.2.count z % 2=1)):=by
  intro l
  induction l with
  | nil=>rfl
  | cons a l ih=>
   show aj ((a.2++ag l).map _)=(_ ^^ aj (l.map _));rw[Ag,gX,ih,<- qP]
 rw[fl,Jw]
abbrev cU:=List<|List Str×List Str
structure JE(n:Net)(st:cU):Prop where
 ne:∀ s∈st,s.2≠[]
 nd:∀ s∈st,s.1.Nodup/\s.2.Nodup
 sub:∀ s∈st,(∀ x∈s.1,x∈bQ n)/\∀ x∈s.2,x∈bQ n
 im:∀ s∈st,∀ r∈n,cq n s.1 r=decide (r.1∈s.2)
 JI:st.Pairwise λa b=>∀ p,a.2.head?=some p->p∉b.2
structure gK(n:Net)(st:cU)(ps os cE bZ:Ñ):Prop where
 nd:cE.Nodup/\bZ.Nodup
 sub:(∀ x∈cE,x∈bQ n)/\∀ x∈bZ,x∈bQ n
 fn:∀ f:Str->Bool,(∀ s∈st,pr f s.2=false)->pr f bZ=pr f os
 zB:∀ s∈st,∀ p,s.2.head?=some p->p∉bZ
 im:∀ r∈n,(decide (r.1∈bZ) ^^ cq n cE r)=(decide (r.1∈os) ^^ cq n ps r)
def gK.start{n:Net}{ps os:Ñ}(h1:ps.Nodup)(h2:os.Nodup)(h3:∀ x∈ps,x∈bQ n)(h4:∀ x∈os,x∈bQ n):gK n [] ps os ps os:=⟨⟨h1,h2⟩,⟨h3,h4⟩,λ_ _=>rfl,λs h=>(by cases h),λ_ _=>rfl⟩
def wx{α:Type}{l:List α}{i:Nat}{a:α}(h:l[i]?=some a):l.take (i+1)=l.take i++[a]:=by rw[Cb,h];rfl
def gK.skip{n:Net}{st:cU}{i:Nat}{s:List Str×List Str}{ps os cE bZ:Ñ}(h:gK n (st.take i) ps os cE bZ)(hs:st[i]?=some s){p:Str}(hp:s.2.head?=some p)(hn:p∉bZ):gK n (st.take<|i+1) ps os cE bZ:=by
 rw[wx hs];refine⟨h.nd,h.sub,λf hf=>h.fn f λs hs=>hf s<|Al.mpr<|.inl hs,λt ht q hq=>?_,h.im⟩
 rcases Al.mp ht with k | k
 ·exact h.zB t k q hq
 ·rw[Ae.mp k,hp]at hq;cases hq;exact hn
theorem Ta{l:Ñ}{p:Str}(h:l.head?=some p):p∈l:=by
 cases l with
 | nil=>cases h
 | cons a l=>cases h;exact Af
def gK.step{n:Net}{st:cU}(I:JE n st){i:Nat}{s:List Str×List Str}{ps os cE bZ p2 o2:Ñ}(h:gK n (st.take i) ps os cE bZ)(hs:st[i]?=some s){p:Str}(hp:s.2.head?=some p)(hn:p∈bZ)
  (n1:p2.Nodup) (n2:o2.Nodup) (x1:cS cE s.1 p2) (x2:cS bZ s.2 o2):gK n (st.take<|i+1) ps os p2 o2:=by
 have iw:=As hs;have fD:=(Ac.mp hs).1;rw[wx hs];have un:∀{a b c:Ñ},cS a b c->(∀ x∈a,x∈bQ n)->(∀ x∈b,x∈bQ n)->∀ x∈c,x∈bQ n:=λ{a b c} X ha hb x hx=>by
  have:=(X x).mp hx
  by_cases k:x∈a
  ·exact ha x k
  ·rw[BK k]at this;exact hb x this
 refine⟨⟨n1,n2⟩,⟨un x1 h.sub.1 (I.sub s iw).1,un x2 h.sub.2 (I.sub s iw).2⟩,λf hf=>?_,λt ht q hq=>?_,λr hr=>?_⟩
 ·rw[q8s h.nd.2 (I.nd s iw).2 n2 x2,hf s<|Al.mpr<|.inr<|Ae.mpr rfl,Fp];exact h.fn f λs hs=>hf s<|Al.mpr<|.inl hs
 ·rw[x2 q]
  rcases Al.mp ht with k | k
  ·rw[BK<|h.zB t k q hq];obtain⟨j,hj⟩:=Bm k;have kq:=(Ac.mp hj).1;rw[Bg]at kq;have eV:st[j]?=some t:=by rw[Ds<|by omega]at hj;exact hj
   have ej:=(Ac.mp eV).2;have ei:=(Ac.mp hs).2;have:=Bu.mp I.JI j i (by omega) fD (by omega);rw[ej,ei]at this;exact this q hq
  ·rw[Ae.mp k]at hq;rw[hp]at hq;cases hq;rw[BL hn];exact λk=>k<|Ta hp
 ·rw[tq x2,q2j x1,I.im s iw r hr,<- h.im r hr];cases decide (r.1∈bZ) <;> cases decide (r.1∈s.2) <;> cases cq n cE r <;> rfl
theorem Tc:∀{st:cU},(∀ s∈st,s.2≠[])->(∀ s∈st,s.2.Nodup)->(st.Pairwise λa b=>∀ p,a.2.head?=some p->p∉b.2)->∀{o:Ñ},o.Nodup->o≠[]->(∀ s∈st,∀ p,s.2.head?=some p->p∉o)->∃ f:Str->Bool,(∀ s∈st,pr f s.2=false)/\pr f o=true
 | [],_,_,_,o,nd,ne,_=>by
  cases o with
  | nil=>exact absurd rfl ne
  | cons a o=>
   refine⟨λx=>decide (x=a),λs h=>(by cases h),?_⟩;have:(o.map λx=>decide (x=a))=o.map λ_=>false:=Aq λx hx=>BR λe=>(Bf.mp nd).1 (by rw[<- e];exact hx);show(decide (a=a) ^^ aj (o.map λx=>decide (x=a)))=true;rw[this,iR,BW rfl];rfl
 | s :: st,h1,h2,h3,o,nd,ne,hp=>by
  obtain⟨f,f1,f2⟩:=Tc (st:=st) (λt ht=>h1 t<|Ah _ ht) (λt ht=>h2 t<|Ah _ ht) (Cv.mp h3).2 nd ne λt ht=>hp t<|Ah _ ht;obtain⟨p,JO⟩:∃ p,s.2.head?=some p:=by
   cases k:s.2 with
   | nil=>exact absurd k<|h1 s Af
   | cons a l=>exact⟨a,rfl⟩
  have add:∀(l:Ñ),l.Nodup->pr (λx=>f x ^^ decide (x=p)) l=(pr f l ^^ decide (p∈l)):=λl hl=>by
   show aj (l.map _)=_;rw[gY]
   congr 1
   have:=wv (Z:=l) hl hl (λ_ h=>h) λx=>decide (x=p);have e2:aj (l.map λx=>decide (x=p))=pr (λx=>decide (x=p)) l:=rfl
   by_cases k:p∈l
   ·rw[e2,this,wg hl k]
   ·rw[BR k];have:(l.map λx=>decide (x=p))=l.map λ_=>false:=Aq λx hx=>BR λe=>k (by rw[<- e];exact hx);rw[this,iR]
  cases k:pr f s.2
  ·refine⟨f,λt ht=>?_,f2⟩
   rcases Ak.mp ht with rfl | ht
   ·exact k
   ·exact f1 t ht
  ·refine⟨λx=>f x ^^ decide (x=p),λt ht=>?_,?_⟩
   ·rw[add _<|h2 t ht]
    rcases Ak.mp ht with rfl | ht
    ·rw[k,BW<|Ta JO];rfl
    ·rw[f1 t ht,BR<|(Cv.mp h3).1 t ht p JO];rfl
   ·rw[add _ nd,f2,BR<|hp s Af p JO];rfl
structure jV(n:Net)(k:Nat)(st:cU):Prop where
 cr:JE n st
 len:st.length<=k
 span:∀ f:Str->Bool,(∀ s∈st,pr f s.2=false)->∀ x∈(bQ n).take k,kP n f (bj n λy=>decide (y∈[x]))=false
def jV.start(n:Net):jV n 0 []:=⟨⟨λs h=>(by cases h),λs h=>(by cases h),λs h=>(by cases h),λs h=>(by cases h),List.Pairwise.nil⟩,Ao _,λf _ x hx=>(by rw[Fr]at hx;cases hx)⟩
def q96{n:Net}{x:Str}{st:cU}(hN:(bQ n).Nodup){os cE bZ:Ñ}(hO:cT n (bj n λy=>decide (y∈[x])) os)(h:gK n st [x] os cE bZ):∀ r∈n,cq n cE r=decide (r.1∈bZ):=λr hr=>by
 have a:=h.im r hr;rw[hO.mem hN hr]at a;have:cq n [x] r=cn (bj n λy=>decide (y∈[x])) r:=rfl;rw[this,Bool.xor_self]at a
 revert a
 cases decide (r.1∈bZ) <;> cases cq n cE r <;> simp
def jV.skip{n:Net}(hN:(bQ n).Nodup){k:Nat}{st:cU}(I:jV n k st){x:Str}(hx:(bQ n)[k]?=some x){os cE:Ñ}(hO:cT n (bj n λy=>decide (y∈[x])) os)(h:gK n st [x] os cE []):jV n (k+1) st:=by
 refine⟨I.cr,QK I.len,λf hf y hy=>?_⟩;rw[wx hx]at hy
 rcases Al.mp hy with q | q
 ·exact I.span f hf y q
 ·rw[Ae.mp q,<- hO.pr,<- h.fn f hf];rfl
def jV.step{n:Net}(hN:(bQ n).Nodup){k:Nat}{st:cU}(I:jV n k st){x:Str}(hx:(bQ n)[k]?=some x){os cE bZ:Ñ}(hO:cT n (bj n λy=>decide (y∈[x])) os)(h:gK n st [x] os cE bZ)(bn:bZ≠[]):jV n (k+1) (st++[(cE,bZ)]):=by
 have al:∀{P:List Str×List Str->Prop},(∀ s∈st,P s)->P (cE,bZ)->∀ s∈st++[(cE,bZ)],P s:=λ{P} a b s hs=>by
  rcases Al.mp hs with q | q
  ·exact a s q
  ·rw[Ae.mp q];exact b
 refine⟨⟨al I.cr.ne bn,al I.cr.nd h.nd,al I.cr.sub h.sub,al I.cr.im<|q96 hN hO h,?_⟩,by rw[Ad];exact QW I.len,λf hf y hy=>?_⟩
 ·rw[List.pairwise_append];refine⟨I.cr.JI,Ge _ _,λa ha b hb p hp=>?_⟩;rw[Ae.mp hb];exact h.zB a ha p hp
 ·have Td:∀ s∈st,pr f s.2=false:=λs hs=>hf s<|Al.mpr<|.inl hs;rw[wx hx]at hy
  rcases Al.mp hy with q | q
  ·exact I.span f Td y q
  ·rw[Ae.mp q,<- hO.pr,<- h.fn f Td];exact hf (cE,bZ)<|Al.mpr<|.inr<|Ae.mpr rfl
def mW(n:Net)(s:Str->Bool):Prop:=∀ f:Str->Bool,(∀ r∈n,cn (bj n f) r=false)->kP n f s=false
def jV.whole{n:Net}(hN:(bQ n).Nodup){st:cU}(I:jV n n.length st){s:Str->Bool}(ho:mW n s){os cE bZ:Ñ}(hO:cT n s os)(h:gK n st [] os cE bZ):∀ r∈n,cq n cE r=cn s r:=by
 have he:bZ=[]:=by
  refine DN λbn=>?_;obtain⟨f,f1,f2⟩:=Tc I.cr.ne (λs hs=>(I.cr.nd s hs).2) I.cr.JI h.nd.2 bn h.zB;have hd:∀ r∈n,cn (bj n f) r=false:=λr hr=>by
   rw[<- S8 hN hr,sym];have:=I.span f f1 r.1 (by rw[Bz<|by rw[Aa];exact Ao _];exact Ap.mpr ⟨r,hr,rfl⟩);have e:(λy=>decide (y∈[r.1]))=λy=>decide (y=r.1):=by
    funext y
    exact decide_eq_decide.mpr Ae
   rw[e]at this;exact this
  have:=ho f hd;rw[<- hO.pr,<- h.fn f f1,f2]at this;cases this
 subst he;intro r hr;have a:=h.im r hr;have z:cq n [] r=false:=by
  unfold cq cn bj;have:(r.2.map λz=>aj<|n.map λq=>decide (q.1∈([]:Ñ)) && decide (q.2.count z % 2=1))=r.2.map λ_=>false:=Aq λz _=>by
   have:(n.map λq=>decide (q.1∈([]:Ñ)) && decide (q.2.count z % 2=1))=n.map λ_=>false:=Aq λq _=>by
    rw[BR (λh=>by cases h),TJ]
   rw[this,iR]
  rw[this,iR]
 rw[z,hO.mem hN hr,Fp,BR (λh=>by cases h),Fo]at a;exact a
def q6f{n:Net}{i:Nat}(h:i < n.length):∃ r∈n,row n i=r.2:=⟨n[i],Bn h,by unfold row;rw[Ab h];rfl⟩
def k1m{n:Net}(T:av n){ss ps cs rs:Ñ}(h:∀ r∈n,cq n ps r=cn (λz=>decide (z∈ss)) r)(hc:∀ z,z∈cs↔dv n ps z)(hx:cS ss cs rs):bV n rs=true:=by
 refine cR.mpr λr hr=>?_;have a:=h r hr;unfold cq cn at a;have e:(r.2.map<|bj n λy=>decide (y∈ps))=r.2.map λz=>decide (z∈cs):=Aq λz _=>by rw[tu T,decide_eq_decide.mpr<|hc z]
 rw[e]at a;have b:aj (r.2.map λz=>decide (z∈rs))=false:=by
  have:(r.2.map λz=>decide (z∈rs))=r.2.map λz=>decide (z∈ss) ^^ decide (z∈cs):=Aq λz _=>tq hx z;rw[this,gY,a,Bool.xor_self]
 have c:(r.2.filter λz=>rs.contains z)=r.2.filter λz=>decide (z∈rs):=by
  congr 1
  funext z
  rw[Cp,CN];exact Bk
 rw[c];rw[sI]at b;have:=FW b;omega
def qS(n:Net)(ss:Ñ):Prop:=∃ cs,cD n cs/\∀ c∈cs,(c.filter λz=>ss.contains z).length % 2=0
end Nt
namespace E7
open PySem L2 Nt bw bA
open PyProof.Rows (sortedS)
def zC:Sp:=λvs H Q _=>∃(R p:Addr) (as:Ï) (n:Net) (ps:Ñ),vs=[.ref R,.ref p]/\ai H R as n/\av n/\n.length<=60/\(ag n).length<=60/\H p=some (Ls ps) /\
 ∀(L:Addr) (cs:Ñ) (H':Hp),ah H H'->H L=none->H' L=some (Ls cs)->bP cs->(∀ z,z∈cs↔dv n ps z)->cs.length<=60->Q (.ref L) H'
def zD:Sp:=λvs H Q _=>∃(a b:Addr) (xs ys:Ñ),vs=[.ref a,.ref b]/\H a=some (Ls xs)/\H b=some (Ls ys)/\xs.length+ys.length < 64 /\
 ∀ l ss H',ah H H'->H l=none->H' l=some (Ls ss)->sortedS ss=true->ss.Nodup->(∀ z,z∈ss↔(if z∈xs then z∉ys else z∈ys))->Q (.ref l) H'
def JP:Sp:=λvs H Q _=>∃(R:Addr) (as:Ï) (n:Net),vs=[.ref R]/\ai H R as n/\n.length<=1000/\∀ L H',ah H H'->H L=none->H' L=some (Ls (n.map (·.1)))->Q (.ref L) H'
section
variable{P:Program}{w:World}{K:PySem.W.Frag}{mg:Ò}{base:Heap}
def wy(ps:Ñ)(x:Lk):Bool:=decide (x.2.1∈ps) != decide (x.2.2∈ps)
def dj(ps:Ñ)(ls:List Lk):Ñ:=(ls.filter<|wy ps).map (·.1)
def q02{ps:Ñ}{ls:List Lk}(h:zq ls):bP (dj ps ls):=by
 unfold bP dj;rw[Eu];exact h.sublist Gv
def q1k{n:Net}(T:av n){ps:Ñ}{ls:List Lk}(h:∀ x,x∈ls↔oa n x)(z:Str):z∈dj ps ls↔dv n ps z:=by
 unfold dj;rw[Ap]
 constructor
 ·rintro ⟨x,hx,rfl⟩;rw[Ba]at hx;exact(yI T<|(h x).mp hx.1).mpr hx.2
 ·intro hc;obtain⟨e,he,_⟩:=id hc
  rcases q0v T he with q | q
  ·exact⟨_,Ba.mpr ⟨(h _).mpr q,(yI T q).mp hc⟩,rfl⟩
  ·exact⟨_,Ba.mpr ⟨(h _).mpr q,(yI T q).mp hc⟩,rfl⟩
def Te(ps:Ñ)(ls:List Lk):(dj ps ls).length<=ls.length:=by
 unfold dj;rw[Aa];exact Dj _ _
def k6a(ps:Ñ)(ls:List Lk)(x:Lk):dj ps (ls++[x])=dj ps ls++(if wy ps x=true then [x.1]else []):=by
 unfold dj;rw[Cu,Ag]
 congr 1
 cases h:wy ps x <;> simp[h]
def tD(zs:Ñ)(z:Str):zs.contains z=decide (z∈zs):=by
 rw[Cp,CN];exact Bk
abbrev Tg:Ñ:=["rows","points"]
abbrev wz:Ñ:=["rows","points","tie","one","other"]
def JS:ao Tg ["rows","points"] (aT yj):=⟨rfl,rfl,rfl,by decide +kernel,rfl,by decide +kernel,by decide +kernel⟩
def JU:wz.Nodup:=by decide +kernel
def q7e{f:Addr}{fd:FuncData}(F:bv K "cut_of" "cut_of" yj f fd)(T:Txt mg)
  (G:aS P w K mg base 1 "links_of" ["rows"] IU) :
  aE P w K mg base bD 2 f fd ["rows","points"] zC:=by
 refine F.gb JS (λvs H Q E h=>?_) λb0 H vs Q E hr h=>?_
 ·obtain⟨R,p,as,n,ps,rfl,_⟩:=h;rfl
 obtain⟨R,p,as,n,ps,rfl,hR,hT,hn,ht,hp,q⟩:=h;show Run _ _ _ [some<|.ref R,some<|.ref p] H;refine bN (fY (aT yj) Tg wz 3 (dD bx)<|bz G hr<|aq<|ae 0<|az ⟨R,as,n,rfl,hR,hT,by omega,ht,λL us ls H1 s1 n1 eL fe mv qO hlen=>?_⟩);refine⟨L,rfl,⟨_,ak.of eL⟩,λD hD=>?_⟩;have HM:L≠D:=bq eL hD;have II:p≠D:=bq (s1 _ _ hp) hD;have sV:=fe.1;refine mw (xs:=us.map V.ref) (λi σ' H'=>(∃ v1 v2 v3,σ'=[some<|.ref R,some<|.ref p]++[v1,v2,v3])/\H'=upd H1 D (Ls<|dj ps<|ls.take i)) ⟨⟨_,_,_,rfl⟩,rfl⟩ ?_ ?_ ?_
 ·rintro i σ' H' _ ⟨_,rfl⟩;exact ak.of<|by rw[ax HM];exact eL
 ·rintro i x σ' H' hx ⟨⟨v1,v2,v3,rfl⟩,rfl⟩;rw[Aj,Az]at hx;obtain⟨u,jo,rfl⟩:=hx;have hi:i < ls.length:=by
   have:=(Ac.mp jo).1;omega
  have rN:ls[i]?=some ls[i]:=Ab hi;have vW:=fe.2 i u _ jo rN;have qL:ls.take (i+1)=ls.take i++[ls[i]]:=by rw[Cb,rN];rfl
  rw[qL,k6a];generalize ls[i]=lx at vW;obtain⟨ti,on,ot⟩:=lx;have JY:(upd H1 D<|Ls<|dj ps<|ls.take i) u=some (.tup [.str ti,.str on,.str ot]):=by rw[ax<|bq vW hD];exact vW
  have sN:(upd H1 D<|Ls<|dj ps<|ls.take i) p=some (Ls ps):=by rw[ax II];exact s1 _ _ hp
  intro cl C' s₀ H₀ ex;refine k6m rfl (aP.of JY) (a8 2 JU<|a8 3 JU<|a8 4 JU ?_);intro cl C' s₀ H₀ ex;refine jL<|b8 Mw<|xG k4<|ae 3<|ae 1 ⟨p,_,rfl,.inl<|ak.of sN,rfl,iu _,?_⟩;refine xG k4<|ae 4<|ae 1 ⟨p,_,rfl,.inl<|ak.of sN,rfl,iu _,rfl,_,rfl,?_⟩;have fF:∀(x y:Bool),(if false=true then x else y)=y:=λ_ _=>rfl;rw[fF,fF,iN,iN,tD,tD,AW];show if wy ps (ti,on,ot)=true then _ else _;have jh:=Bq (Te ps<|ls.take i) (show(ls.take i).length<=ls.length by rw[Bg];omega)
  by_cases hc:wy ps (ti,on,ot)=true
  ·rw[BL hc];intro cl C' s₀ H₀ ex;refine ae 2 ⟨_,aw,by rw[Aa];exact bS (by omega),⟨_,_,_,rfl⟩,?_⟩;rw[zX,BL hc];exact OW
  ·rw[BK hc];refine⟨⟨_,_,_,rfl⟩,?_⟩;rw[BK hc,Bh]
 ·rintro σ' H' ⟨_,rfl⟩;rw[Aa,sV,Br];have jh:=Te ps ls;exact q D _ _ (s1.trans<|aH hD _) (iT s1 hD) aw (q02 mv) (q1k hT qO)<|by omega
def kQ(ss:Ñ)(r:Str×List Str):Bool:=(r.2.filter λz=>ss.contains z).length % 2 == 0
def zE:Sp:=λvs H Q _=>∃(R a:Addr) (as:Ï) (n:Net) (ss:Ñ),vs=[.ref R,.ref a]/\ai H R as n/\n.length<=60/\(ag n).length<=1000/\H a=some (Ls ss) /\
 ∀(L:Addr) (zs:Ñ) (H':Hp),ah H H'->H L=none->H' L=some (Ls zs)->zs.Perm ((n.filter λr=>!kQ ss r).map (·.1))->Q (.ref L) H'
abbrev NR:Ñ:=["rows","some"]
abbrev J0:Ñ:=["rows","some","point","ties"]
abbrev Ti:Ñ:=["rows","some","point","ties","tie"]
def q7g:ao NR ["rows","some"] (aT iq):=⟨rfl,rfl,rfl,by decide +kernel,rfl,by decide +kernel,by decide +kernel⟩
def wA:J0.Nodup:=by decide +kernel
def x0u:Ti.Nodup:=by decide +kernel
def x0l:Scope:=match i6 iq with
 | [.Return (some<|.Call _ [.ListComp _ _ sc _] _ _) _]=>sc
 | _=>aT iq
def J1:Scope:=relabel x0l<|PyProof.Rows.envOfC "odd_points" (aT iq) 0 0 .none
def q9l{f:Addr}{fd:FuncData}(F:bv K "odd_points" "odd_points" iq f fd)(T:Txt mg):aE P w K mg base bD 1 f fd ["rows","some"] zE:=by
 refine F.gb q7g (λvs H Q E h=>?_) λb0 H vs Q E hr h=>?_
 ·obtain⟨R,a,as,n,ss,rfl,_⟩:=h;rfl
 obtain⟨R,a,as,n,ss,rfl,hR,hn,ht,ha,q⟩:=h;have bF:=hR.len;show Run _ _ _ [some<|.ref R,some<|.ref a] H;refine bN<|cF D4 T.sorted DY<|aq<|fY (aT iq) NR J0 2 (dD bx)<|ae 0 ⟨R,rfl,⟨_,ak.of hR.lst⟩,λD hD=>?_⟩;refine mw (xs:=as.map λa=>V.ref a.1) (λi σ' H'=>(∃ v1 v2,σ'=[some<|.ref R,some<|.ref a]++[v1,v2])/\H' D=some (.lst<|((n.take i).filter λr=>!kQ ss r).map λr=>V.str r.1)/\ah H H') ⟨⟨none,none,rfl⟩,aw,aH hD _⟩ ?_ ?_ ?_
 ·rintro i σ' H' _ ⟨_,_,sm⟩;exact ak.of<|sm _ _ hR.lst
 ·rintro i x σ' H' hx ⟨⟨v1,v2,rfl⟩,eD,sm⟩;have hi:i < n.length:=by
   have:=(Ac.mp hx).1;rw[Aa]at this;omega
  obtain⟨b,eb,dY,et,el,er⟩:=(hR.same sm).at hi;rw[Aj,eb]at hx;cases hx;have gZ:(row n i).length<=1000:=Bq (gB n i) ht;have qk:n.take (i+1)=n.take i++[n[i]]:=by rw[Cb,Ab hi];rfl
  intro cl C' s₀ H₀ ex;refine jq rfl (aP.of et) (a8 2 wA<|a8 3 wA ?_);intro cl C' s₀ H₀ ex;refine jL<|b8 i5<|aX cW<|cF dR T.len DX<|aq<|fY J1 J0 Ti 1 (dD bx)<|ae 3 ⟨b.2,rfl,⟨_,ak.of el⟩,λD2 jz=>?_⟩;refine p9 (σ:=[some<|.ref R,some<|.ref a,some<|.str n[i].1,some<|.ref b.2]) (λz=>ss.contains z) (bS<|by omega) el jz (λcl C s₀ H₀ ex v v0 H' R' h=>a8 4 x0u h) (λcl C s₀ H₀ ex z ys T' h=>?_) (λcl C s₀ H₀ ex z H' R' h=>ae 4 h) ?_
  ·refine jL (b8 k4<|ae 4<|ae 1 ⟨a,_,rfl,.inl (ak.of<|by rw[ax<|bq (sm _ _ ha) jz];exact sm _ _ ha),rfl,iu _,_,rfl,?_⟩);show T' (j6 (.str z)<|ss.map V.str) _;rw[iN];exact h
  ·have nDD:D≠D2:=bq eD jz;have s2:=aH jz<|.lst<|((row n i).filter λz=>ss.contains z).map V.str;refine az ⟨D2,_,rfl,.inl<|ak.of aw,aC ⟨_,_,rfl,rfl,(by show(0:Int) < 2;decide),aC ⟨rfl,_,rfl,?_⟩⟩⟩;have ek:decide (V.int ((((((row n i).filter λz=>ss.contains z).map V.str).length:Nat):Int) % 2)=V.int 1) = !kQ ss n[i]:=by
    unfold kQ;rw[Aa,er]
    by_cases hc:(n[i].2.filter λz=>ss.contains z).length % 2=0
    ·rw[BR (λh=>by have:=V.int.inj h;omega),beq_iff_eq.mpr hc];rfl
    ·rw[BW (BZ V.int<|by omega),beq_eq_false_iff_ne.mpr hc];rfl
   show if decide (V.int ((((((row n i).filter λz=>ss.contains z).map V.str).length:Nat):Int) % 2)=V.int 1)=true then _ else _;rw[ek];refine j9 (λc=>?_) λc=>?_
   ·intro cl C' s₀ H₀ ex;refine ae 2 ⟨_,s2 _ _ eD,?_,⟨_,_,rfl⟩,?_,dX (sm.trans s2) hD⟩
    ·rw[Aa];refine bS<|Bq (Dj ..) ?_;rw[Bg];omega
    ·rw[aw,qk,Cu,Ag];have:[n[i]].filter (λr=>!kQ ss r)=[n[i]]:=by rw[RM<|by simpa using c];rfl
     rw[this];rfl
   ·refine⟨⟨_,_,rfl⟩,?_,sm.trans s2⟩;rw[qk,Cu];have:[n[i]].filter (λr=>!kQ ss r)=[]:=by rw[List.filter_cons_of_neg<|by simpa using c];rfl
    rw[this,Bh];exact s2 _ _ eD
 ·rintro σ' H' ⟨_,eD,sm⟩;rw[Aa,bF,Br]at eD;have e2:((n.filter λr=>!kQ ss r).map λr=>V.str r.1)=(((n.filter λr=>!kQ ss r).map (·.1)).map V.str):=by rw[Cn];rfl
  rw[e2]at eD;refine az ⟨D,_,rfl,ak.of eD,?_,λl zs hl hp _=>?_⟩
  ·rw[Aa];exact QC (Dj ..)<|by omega
  ·exact q l zs _ (sm.trans<|aH hl _) (iT sm hl) aw hp
def q1u:ao ["one","other"] ["one","other"] (aT EH):=⟨rfl,rfl,rfl,by decide +kernel,rfl,by decide +kernel,by decide +kernel⟩
def k7v{f:Addr}{fd:FuncData}(F:bv K "summed" "summed" EH f fd)(T:Txt mg):aE P w K mg base bD 1 f fd ["one","other"] zD:=by
 refine F.gb q1u (λvs H Q E h=>?_) λb0 H vs Q E hr h=>?_
 ·obtain⟨a,b,xs,ys,rfl,_⟩:=h;rfl
 obtain⟨a,b,xs,ys,rfl,ha,hb,hl,q⟩:=h;show Run _ _ _ [some<|.ref a,some<|.ref b] H;refine bN (cF (Ov rfl) T.sorted DY<|aq<|aX YK<|nr (Ou rfl) T.p5 LR<|aq<|ae 0<|az ⟨a,xs,rfl,ak.of ha,by omega,λc hc=>?_⟩);have h1:=aH hc<|bf P w c<|made xs;refine nr (Ou rfl) T.p5 LR (aq<|ae 1<|az ⟨b,ys,rfl,ak.of<|h1 _ _ hb,by omega,λd hd=>?_⟩);have h2:=aH hd<|bf P w d<|made ys;have l1:=DL xs;have l2:=DL ys;refine⟨c,d,made xs,made ys,rfl,rfl,h2 _ _ aw,aw,by omega,by omega,λe zc he hn hm=>?_⟩;have h3:=aH he<|bf P w e zc;have Tj:∀ z,z∈zc↔(if z∈xs then z∉ys else z∈ys):=λz=>by
  rw[hm z];simp only[Yh]
 have hlen:zc.length<=(xs++ys).length:=bg hn λz hz=>by
  have:=(Tj z).mp hz;rw[Al]
  by_cases c:z∈xs
  ·exact .inl c
  ·rw[BK c]at this;exact .inr this
 rw[Ad]at hlen;refine az ⟨e,zc,rfl,aw,by omega,λl ss hl hp hs=>?_⟩;have h4:=aH hl<|Ls ss;exact q l ss _ (h1.trans<|h2.trans<|h3.trans h4) (h1.free<|h2.free<|h3.free hl) aw hs (hp.nodup_iff.mpr hn) λz=>by
  rw[hp.mem_iff];exact Tj z
abbrev Tl:Ñ:=["rows"]
abbrev wB:Ñ:=["rows","point","ties"]
def J2:ao Tl ["rows"] (aT yh):=⟨rfl,rfl,rfl,by decide +kernel,rfl,by decide +kernel,by decide +kernel⟩
def To:wB.Nodup:=by decide +kernel
def q9z{f:Addr}{fd:FuncData}(F:bv K "points_of" "points_of" yh f fd)(T:Txt mg):aE P w K mg base bD 1 f fd ["rows"] JP:=by
 refine F.gb J2 (λvs H Q E h=>?_) λb0 H vs Q E hr h=>?_
 ·obtain⟨R,as,n,rfl,_⟩:=h;rfl
 obtain⟨R,as,n,rfl,hR,hn,q⟩:=h;have bF:=hR.len;show Run _ _ _ [some<|.ref R] H;refine bN<|fY (aT yh) Tl wB 2 (dD bx)<|ae 0 ⟨R,rfl,⟨_,ak.of hR.lst⟩,λD hD=>?_⟩;refine mw (xs:=as.map λa=>V.ref a.1) (λi σ' H'=>(∃ v1 v2,σ'=[some<|.ref R]++[v1,v2])/\H' D=some (Ls ((n.take i).map (·.1)))/\ah H H') ⟨⟨none,none,rfl⟩,aw,aH hD _⟩ ?_ ?_ ?_
 ·rintro i σ' H' _ ⟨_,_,sm⟩;exact ak.of<|sm _ _ hR.lst
 ·rintro i x σ' H' hx ⟨⟨v1,v2,rfl⟩,eD,sm⟩;have hi:i < n.length:=by
   have:=(Ac.mp hx).1;rw[Aa]at this;omega
  obtain⟨b,eb,dY,et,el,er⟩:=(hR.same sm).at hi;rw[Aj,eb]at hx;cases hx;intro cl C' s₀ H₀ ex;refine jq rfl (aP.of et) (a8 1 To<|a8 2 To ?_);intro cl C' s₀ H₀ ex;refine iF<|cP ?_;intro cl C' s₀ H₀ ex;refine ae 1 ⟨_,eD,?_,⟨_,_,rfl⟩,?_,dX sm hD⟩
  ·rw[Aa,Aa,Bg];exact bS<|by omega
  ·rw[aw,Cb,Ab hi,Ag];show _=some (HO.lst<|List.map V.str<|_++_);rw[Ag];rfl
 ·rintro σ' H' ⟨_,eD,sm⟩;rw[Aa,bF,Br]at eD;exact q D H' sm hD eD
end
end E7
namespace E7
open PySem L2 Nt bw
open PyProof.Rows (sortedS)
def J3:Sp:=λvs H Q _=>∃(R W:Addr) (as:Ï) (n:Net) (ts:List Addr) (es:List Nt.End),vs=[.ref R,.ref W]/\ai H R as n/\(n.map (·.1)).Nodup/\n.length<=1000/\(ag n).length<=1000/\H W=some (.lst<|ts.map V.ref)/\d3 n H ts es/\(∀ e∈es,e∈ends n)/\es.length<=1000/\(∀ l:Ñ,l.Nodup->(∀ z∈l,z∈es.map (aD n))->l.length < 64) /\
 ∀(l:Addr) (ss:Ñ) (H':Hp),ah H H'->H l=none->H' l=some (Ls ss)->bP ss->(∀ z,z∈ss↔(es.map<|aD n).count z=1)->Q (.ref l) H'
def J5(L:Ñ):(L.filter λz=>decide (L.count z=1)).Nodup:=by
 rw[Gq];intro z
 by_cases h:L.count z=1
 ·rw[List.count_filter<|by simpa using h];omega
 ·rw[Dr]
  ·omega
  ·intro hm;exact h<|BX (Ba.mp hm).2
def q0g(L:Ñ)(z:Str):z∈(L.filter λz=>decide (L.count z=1))↔L.count z=1:=by
 rw[Ba,CN];exact⟨λh=>h.2,λh=>⟨Bs.mp (by omega),h⟩⟩
section
variable{P:Program}{w:World}{K:PySem.W.Frag}{mg:Ò}{base:Heap}
abbrev J6:Ñ:=["rows","walker","names","gone"]
abbrev wC:Ñ:=["rows","walker","names","gone","end"]
abbrev wD:Ñ:=["rows","walker","names","gone","tie"]
def wF:ao J6 ["rows","walker"] (aT uI):=⟨rfl,rfl,rfl,by decide +kernel,rfl,by decide +kernel,by decide +kernel⟩
def q8u:wC.Nodup:=by decide +kernel
def q7r:wD.Nodup:=by decide +kernel
def q50{f:Addr}{fd:FuncData}(F:bv K "core_of" "core_of" uI f fd)(T:Txt mg)
  (GT:aS P w K mg base 2 "ties_by_end" ["rows"] mQ):aE P w K mg base bD 3 f fd ["rows","walker"] J3:=by
 refine F.gb wF (λvs H Q E h=>?_) λb0 H vs Q E hr h=>?_
 ·obtain⟨R,W,as,n,ts,es,rfl,_⟩:=h;rfl
 obtain⟨R,W,as,n,ts,es,rfl,hR,hN,hn,g6,hW,hE,uS,hle,wG,q⟩:=h;have nd:=wF.nd;have jo:=hr.u1;have hl:=hE.1;show Run _ _ _ [some<|.ref R,some<|.ref W,none,none] H;refine aW 2 nd<|bz GT hr<|aq<|ae 0<|az ⟨R,as,n,rfl,hR,hN,hn,g6,λd kvs H1 s1 F5 ed pI=>?_⟩;show Run _ _ _ [some<|.ref R,some<|.ref W,some<|.ref d,none] H1;have Tq:=s1 _ _ hW;have hE1:=hE.same s1;refine aW 3 nd<|fY (aT uI) J6 wC 1 (dD bx)<|ae 1 ⟨W,rfl,⟨_,ak.of Tq⟩,λD hD=>?_⟩;refine mw (xs:=ts.map V.ref) (λi σ' H'=>(∃ v,σ'=[some<|.ref R,some<|.ref W,some<|.ref d,none]++[v])/\ah H1 H'/\H' D=some (Ls<|(es.take i).map<|aD n)) ⟨⟨none,rfl⟩,aH hD _,aw⟩ ?_ ?_ ?_
 ·rintro i σ' H' _ ⟨_,sm,_⟩;exact ak.of<|sm _ _ Tq
 ·rintro i x σ' H' hx ⟨⟨v,rfl⟩,sm,eD⟩;rw[Aj,Az]at hx;obtain⟨t,ht,rfl⟩:=hx;have hi:i < es.length:=by have:=(Ac.mp ht).1;omega
  have he:es[i]?=some es[i]:=Ab hi;have qk:es.take (i+1)=es.take i++[es[i]]:=by rw[Cb,he];rfl
  generalize sW:es[i]=e at he qk;have ou:=sm _ _<|hE1.2 i t e ht he;have yv:=uS e<|As he;obtain⟨z,hz⟩:=af.mp yv;have mK:aD n e=z:=fJ hz;intro cl C s₀ H₀ ex;refine a8 4 q8u ?_;intro cl C s₀ H₀ ex;refine iF ?_;rw[BL rfl];intro cl C s₀ H₀ ex;refine jm jo<|ae 2<|ae 4 ⟨d,.str z,rfl,(by rw[<- pI e z hz];exact bE.t (k:=key n e) (sm _ _ ed) ou),_,eD,?_,⟨_,rfl⟩,dX sm hD,?_⟩
  ·rw[Aa,Aa,Bg];exact bS<|by omega
  ·rw[aw,qk,Ag];show some (HO.lst<|((es.take i).map<|aD n).map V.str++[V.str z])=some (HO.lst<|((es.take i).map (aD n)++[aD n e]).map V.str);rw[Ag];show some (HO.lst<|((es.take i).map<|aD n).map V.str++[V.str z])=some (HO.lst<|((es.take i).map<|aD n).map V.str++[V.str<|aD n e]);rw[mK]
 rintro σ' H' ⟨_,sm,eD⟩;have J7:es.take (ts.map V.ref).length=es:=Bz (by rw[Aa];omega);rw[J7]at eD;show Run _ _ _ [some<|.ref R,some<|.ref W,some<|.ref d,some<|.ref D] H';generalize hLL:es.map (aD n)=L at eD wG q;have Ra:L.length<=1000:=by rw[<- hLL,Aa];exact hle
 refine bN<|cF D4 T.sorted DY<|aq<|fY (aT uI) J6 wD 1 (dD bx)<|ae 3 ⟨D,rfl,⟨_,ak.of eD⟩,λD3 J8=>?_⟩;have n3:D≠D3:=bq eD J8;refine p9 (λz=>decide (L.count z=1)) (bS<|by omega) eD J8 (λcl C s0 H0 ex v v0 H' R' h=>a8 4 q7r h) (λcl C s0 H0 ex z zs T' h=>jL<|b8 i5<|rT DK JZ KC Ja<|ae 3 (v:= .ref D) ⟨Or.inl ⟨rfl,_,ak.of<|by rw[ax n3];exact eD⟩,ae 4 ⟨D,L,z,rfl,rfl,ak.of (by rw[ax n3];exact eD),aC ⟨rfl,_,rfl,?_⟩⟩⟩) (λcl C s0 H0 ex z H' R' h=>ae 4 h) ?_
 ·have ek:decide (V.int (L.count z:Int)=V.int 1)=decide (L.count z=1):=decide_eq_decide.mpr ⟨λk=>by have:=V.int.inj k;omega,λk=>by rw[k];rfl⟩;show T' (decide (V.int (L.count z:Int)=V.int 1)) _;rw[ek];exact h
 refine az ⟨D3,_,rfl,ak.of aw,wG _ (J5 L) λz hz=>(Ba.mp hz).1,λl ss j7 ji mv=>?_⟩;have s3:=s1.trans<|sm.trans<|aH J8<|Ls<|L.filter λz=>decide (L.count z=1);exact q l ss _ (s3.trans<|aH j7 _) (s3.free j7) aw (yH mv<|ji.nodup_iff.mpr<|J5 L) λz=>by rw[ji.mem_iff];exact q0g L z
end
end E7
namespace L2
open PySem PySem.Spec PyProof.Rows bw
section
variable{X:Cx}
end
end L2
namespace L2
open PySem PySem.Spec PyProof.Rows
section
variable{X:Cx}{σ:St}{H:Hp}{D:Ends}{body rest:Õ}{a b:Expr}
end
end L2
namespace bA
open PySem SetTable
section
variable{t:SetTable}{es:Array (Int×Value)}{Z:List Ze}
end
section
variable{prog:Program}{w:World}{K:Type} [DecidableEq K]
variable{A:Around}{E:Î}{s:Shared}{a b:Addr}{knd:HeapKind prog w K}{k:K}{Y:List (Nat×K×Addr)}
end
section
variable{prog:Program}{w:World}{K:Type} [DecidableEq K] {knd:KeyKind prog w K}
end
end bA
namespace L2
open PySem PySem.Spec PyProof.Rows bA Classical
section
variable{prog:Program}{w:World}{A:Around}{E:Î}{s:Shared}{a b:Addr}{Y:List Yt}{k:List Key}
end
section
variable{X:Cx}{σ:St}{H:Hp}{Q:VK}{pins:Ð}{s:Shared}{a b:Addr}{Y:List Yt}
end
end L2
namespace L2
open PySem PySem.Spec PyProof.Rows
section
variable{X:Cx}{σ:St}{H:Hp}{Q:VK}
end
section
variable{X:Cx}{elt tg:Expr}{ifs:Ô}{scope:Scope}{σ:St}{H:Hp}{N':Ñ}{A a:Addr}{xs:List V}{after:Hp->Prop}
end
end L2
namespace E7
open PySem L2 Nt bw bA
open PyProof.Rows (sortedS)
open Classical
def eX(H:Hp)(L:Addr)(us:List Addr)(cs:List<|List Str):Prop:=H L=some (.lst<|us.map V.ref)/\us.length=cs.length/\∀(i:Nat) u c,us[i]?=some u->cs[i]?=some c->H u=some (Ls c)
def eX.same{H H':Hp}{L:Addr}{us:List Addr}{cs:List Ñ}(h:eX H L us cs)(s:ah H H'):eX H' L us cs:=⟨s _ _ h.1,h.2.1,λi u c a b=>s _ _<|h.2.2 i u c a b⟩
def J9:Sp:=λvs H Q _=>∃(R:Addr) (as:Ï) (n:Net),vs=[.ref R]/\ai H R as n/\(n.map (·.1)).Nodup/\av n/\n.length<=60/\(ag n).length<=60 /\
 ∀(L:Addr) (us:List Addr) (cs:List<|List Str) (H':Hp),ah H H'->H L=none->eX H' L us cs->cD n cs->(∀ u∈us,H u=none)->Q (.ref L) H'
structure mX(n:Net)(H:Hp)(D:Addr)(us:List Addr)(cs:List<|List Str)(i:Nat):Prop where
 lst:H D=some (.lst<|us.map V.ref)
 lu:us.length=i
 lc:cs.length=i
 at':∀(j:Nat) u c,us[j]?=some u->cs[j]?=some c->H u=some (Ls c)/\u≠D
 mem:∀(j:Nat) c w,cs[j]?=some c->(bh n)[j]?=some w->∀ z,z∈c↔(w.map<|aD n).count z=1
 og:∀ c∈cs,bP c
def mX.step{n:Net}{H H2:Hp}{D k:Addr}{us:List Addr}{cs:List Ñ}{i:Nat}{ks:Ñ}{es:List Nt.End}(I:mX n H D us cs i)(s2:ah H H2)(nk:H k=none)(e2:H2 k=some (Ls ks))(so:bP ks)(hw:(bh n)[i]?=some es)(m2:∀ z,z∈ks↔(es.map<|aD n).count z=1):mX n (upd H2 D<|.lst<|us.map V.ref++[.ref k]) D (us++[k]) (cs++[ks]) (i+1):=by
 have lu:=I.lu;have lc:=I.lc;have Tr:k≠D:=λe=>by rw[e,I.lst]at nk;cases nk
 have zero:∀{α:Type} {l:List α} {a b:α} {j:Nat},¬ j < l.length->(l++[a])[j]?=some b->j=l.length/\a=b:=λ{α l a b j} h e=>by
  rw[Am<|by omega]at e;have hj:j - l.length=0:=by have:=(Ac.mp e).1;simp at this;omega
  rw[hj]at e;exact⟨by omega,by cases e;rfl⟩
 refine⟨by rw[aw,Ag];rfl,by rw[Ad,lu];rfl,by rw[Ad,lc];rfl,λj u c h1 h2=>?_,λj c w h1 h2=>?_,λc hc=>?_⟩
 ·by_cases hj:j < us.length
  ·rw[An hj]at h1;rw[An<|by omega]at h2;obtain⟨q1,q2⟩:=I.at' j u c h1 h2;exact⟨by rw[ax q2];exact s2 _ _ q1,q2⟩
  ·obtain⟨_,rfl⟩:=zero hj h1;obtain⟨_,rfl⟩:=zero (by omega) h2;exact⟨by rw[ax Tr];exact e2,Tr⟩
 ·by_cases hj:j < cs.length
  ·rw[An hj]at h1;exact I.mem j c w h1 h2
  ·obtain⟨ej,rfl⟩:=zero hj h1;rw[ej,lc,hw]at h2;cases h2;exact m2
 ·rcases Al.mp hc with h | h
  ·exact I.og c h
  ·rw[Ae.mp h];exact so
def mX.start{n:Net}{H:Hp}{D:Addr}(h:H D=some (.lst [])):mX n H D [] [] 0:=⟨h,rfl,rfl,λj u c h=>by simp at h,λj c w h=>by simp at h,λc h=>by cases h⟩
def mX.whole{n:Net}{H:Hp}{D:Addr}{us:List Addr}{cs:List Ñ}(I:mX n H D us cs (bh n).length):eX H D us cs/\cD n cs:=⟨⟨I.lst,I.lu.trans I.lc.symm,λi u c a b=>(I.at' i u c a b).1⟩,I.lc,I.mem,I.og⟩
def x0v{n:Net}{es:List Nt.End}(h:∀ e∈es,e∈ends n):∀ z∈es.map (aD n),z∈ag n:=λz hz=>by
 obtain⟨e,he,rfl⟩:=Ap.mp hz;obtain⟨y,hy⟩:=af.mp<|h e he;rw[fJ hy];exact dG hy
section
variable{P:Program}{w:World}{K:PySem.W.Frag}{mg:Ò}{base:Heap}
abbrev Ts:Ñ:=["rows"]
abbrev wH:Ñ:=["rows","walker"]
def wI:ao Ts ["rows"] (aT yk):=⟨rfl,rfl,rfl,by decide +kernel,rfl,by decide +kernel,by decide +kernel⟩
def q86:wH.Nodup:=by decide +kernel
def q2o{f:Addr}{fd:FuncData}(F:bv K "cores_of" "cores_of" yk f fd)(T:Txt mg)(GW:aS P w K mg base 4 "walkers_of" ["rows"] Ip)(GC:aS P w K mg base 4 "core_of" ["rows","walker"] J3):aE P w K mg base bD 5 f fd ["rows"] J9:=by
 refine F.gb wI (λvs H Q E h=>?_) λb0 H vs Q E hr h=>?_
 ·obtain⟨R,as,n,rfl,_⟩:=h;rfl
 obtain⟨R,as,n,rfl,hR,hN,hT,hn,g6,q⟩:=h;have nd:=wI.nd;have sK:=jN n;show Run _ _ _ [some<|.ref R] H;refine bN (fY (aT yk) Ts wH 1 (dD bx)<|bz GW hr<|aq<|ae 0<|az ⟨R,as,n,rfl,hR,hN,hT,by omega,by omega,λW ls H1 s1 n1 hW fW=>⟨W,rfl,⟨_,ak.of hW.lst⟩,λD hD=>?_⟩⟩);have wl:(bh n).length<=(ends n).length:=yx n (ends n) [];have qT:=nU hT (ends n) [] λe he=>he;have Tv:ls.length=(bh n).length:=hW.len;refine mw (xs:=ls.map V.ref) (λi σ' H'=>(∃ v,σ'=[some<|.ref R]++[v])/\ah H1 H'/\∃ us cs,mX n H' D us cs i/\∀ u∈us,H u=none) ⟨⟨none,rfl⟩,aH hD _,[],[],mX.start aw,λu h=>(by cases h)⟩ ?_ ?_ ?_
 ·rintro i σ' H' _ ⟨_,sm,_⟩;exact ak.of<|sm _ _ hW.lst
 ·rintro i x σ' H' hx ⟨⟨v,rfl⟩,sm,us,cs,I,fu⟩;rw[Aj,Az]at hx;obtain⟨l,hl,rfl⟩:=hx;have fD:i < (bh n).length:=by have:=(Ac.mp hl).1;rw[<- Tv];exact this
  have jW:=Ab fD;obtain⟨ts,el,hE⟩:=(hW.same sm).at' i l _ hl jW;have wk:=qT _<|As jW;generalize (bh n)[i]=es at jW hE wk;have few:=wk.few;have lu:=I.lu;intro cl C s₀ H₀ ex;refine a8 1 q86 ?_;intro cl C s₀ H₀ ex;refine iF<|cP ?_;intro cl C s₀ H₀ ex;refine bz GC hr<|aq<|ae 0<|aq<|ae 1<|az ⟨R,l,as,n,ts,es,rfl,hR.same<|s1.trans sm,hN,by omega,by omega,el,hE,wk.ends,by omega,λl hn hm=>?_,λk ks H2 s2 n2 e2 so2 m2=>?_⟩
  ·have:=bg hn λz hz=>x0v wk.ends z<|hm z hz;omega
  exact⟨_,s2 _ _ I.lst,by rw[Aa];exact bS (by omega),⟨_,rfl⟩,dX (sm.trans s2) hD,_,_,I.step s2 n2 e2 so2 jW m2,λu hu=>(Al.mp hu).elim (fu u) λh=>by rw[Ae.mp h];exact(s1.trans sm).free n2⟩
 ·rintro σ' H' ⟨_,sm,us,cs,I,fu⟩;rw[Aa,Tv]at I;exact q D us cs H' (s1.trans sm) (s1.free hD) I.whole.1 I.whole.2 fu
end
end E7
namespace Nt
open PySem L2 Classical
abbrev less(T:Ñ)(t:Str):Ñ:=T.filter λz=>!decide (z=t)
def aO{T:Ñ}{t z:Str}:z∈less T t↔z∈T/\z≠t:=by
 rw[Ba,JG,FQ]
def tE(n:Net)(z:Str)(w:Str)(ss:Ñ):Prop:=bP ss/\(∀ y∈ss,y∈ag n)/\z∈ss /\
  ((w = "double" ∧ bV n ss = true ∧ (∃ sd, a7 n ss sd) ∧ ∃ cs, cD n cs ∧ ss ∈ cs) ∨
   (w = "cut"/\(∃ sd,a7 n ss sd)/\bV n (less ss z)=true/\qS n [z]) \/
   (w = "round"/\bV n ss=true/\(∃ sd,a7 n (less ss z) sd)/\qS n [z]))
def q57{c:Ñ}(h:c.Nodup)(z:Str):(c.filter λy=>[z].contains y).length=if z∈c then 1 else 0:=by
 have e:(c.filter λy=>[z].contains y)=c.filter λy=>y == z:=by
  congr 1
  funext y
  rw[Cp,Bk,Ae,HX]
 rw[e,<- List.count_eq_length_filter]
 by_cases k:z∈c
 ·rw[BL k];exact Nat.le_antisymm (Gq.mp h z)<|Bs.mpr k
 ·rw[BK k];exact Dr k
def tF{ss:Ñ}(h:bP ss)(z:Str):bP (less ss z):=h.sublist Gv
def q4r{a b:Ñ}{z:Str}(ha:bP a)(hb:bP b)(hx:cS [z] a b)(h:z∈a):less a z=b:=by
 refine va (tF ha z) hb λy=>?_;rw[aO,hx y]
 by_cases k:y=z
 ·rw[BL<|Ae.mpr k,k];exact⟨λq=>absurd rfl q.2,λq=>absurd h q⟩
 ·rw[BK λq=>k<|Ae.mp q];exact⟨λq=>q.1,λq=>⟨q,k⟩⟩
def q0y{a b:Ñ}{z:Str}(ha:bP a)(hb:bP b)(hx:cS [z] a b)(h:z∉a):z∈b/\less b z=a:=by
 have hz:z∈b:=(hx z).mpr (by rw[BL<|Ae.mpr rfl];exact h);refine⟨hz,va (tF hb z) ha λy=>?_⟩;rw[aO,hx y]
 by_cases k:y=z
 ·rw[k];exact⟨λq=>absurd rfl q.2,λq=>absurd q h⟩
 ·rw[BK λq=>k<|Ae.mp q];exact⟨λq=>q.1,λq=>⟨q,k⟩⟩
def q4u{n:Net}(T:av n)(h0:0 < n.length){z:Str}{rs cs ps:Ñ}(ec:qS n [z])(qU:bP rs)(jX:bP cs)(jC:bV n rs=true)(eY:∀ y,y∈cs↔dv n ps y)(hx:cS [z] cs rs)(h:z∈cs):tE n z "cut" cs:=
 ⟨jX,λy hy=>lz<|(eY y).mp hy,h,.inr<|.inl ⟨rfl,yJ T h0 ⟨jX,ps,eY⟩,by rw[q4r jX qU hx h];exact jC,ec⟩⟩
def k7e{n:Net}(T:av n)(h0:0 < n.length){z:Str}(hz:z∈ag n){rs cs ps:Ñ}(ec:qS n [z])(qU:bP rs)(jX:bP cs)(jC:bV n rs=true)(eY:∀ y,y∈cs↔dv n ps y)(hx:cS [z] cs rs)(h:z∉cs):tE n z "round" rs:=by
 obtain⟨h1,h2⟩:=q0y jX qU hx h;refine⟨qU,λy hy=>?_,h1,.inr<|.inr ⟨rfl,jC,by rw[h2];exact yJ T h0 ⟨jX,ps,eY⟩,ec⟩⟩;have:=(hx y).mp hy
 by_cases k:y∈[z]
 ·rw[Ae.mp k];exact hz
 ·rw[BK k]at this;exact lz<|(eY y).mp this
def KK(n:Net)(z:Str)(w:Str)(ss:Ñ):Prop:=bP ss/\(∀ y∈ss,y∈ag n)/\z∈ss /\
 ((w = "double"/\bV n ss=true/\∃ sd,a7 n ss sd)\/(w = "cut"/\(∃ sd,a7 n ss sd)/\bV n (less ss z)=true)\/(w = "round"/\bV n ss=true/\∃ sd,a7 n (less ss z) sd))
def tE.kk{n:Net}{z w:Str}{ss:Ñ}(h:tE n z w ss):KK n z w ss:=by
 obtain⟨a,b,c,⟨rfl,d,e,_⟩ | ⟨rfl,d,e,_⟩ | ⟨rfl,d,e,_⟩⟩:=h
 ·exact⟨a,b,c,.inl ⟨rfl,d,e⟩⟩
 ·exact⟨a,b,c,.inr<|.inl ⟨rfl,d,e⟩⟩
 ·exact⟨a,b,c,.inr<|.inr ⟨rfl,d,e⟩⟩
noncomputable def mt(a b:Ñ):Bool:=aj<|a.map λz=>decide (z∈b)
def J'(a b:Ñ):mt a b=decide ((a.filter λz=>b.contains z).length % 2=1):=by
 unfold mt;rw[sI];have e:(a.filter λz=>b.contains z)=a.filter λz=>decide (z∈b):=by
  congr 1
  funext z
  rw[Cp,CN];exact Bk
 rw[e]
def Tw{n:Net}(T:av n){a b sd:Ñ}(ha:bV n a=true)(hn:a.Nodup)(hb:a7 n b sd):mt a b=false:=by
 rw[J',k62 T ha hn hb.cut];rfl
def q6u{a b:Ñ}(ha:a.Nodup)(hb:b.Nodup):mt a b=mt b a:=by rw[J',J',q09 ha hb]
def Tx{n:Net}(T:av n){z:Str}{d a b sd sb:Ñ}(hd:bV n d=true)(dn:d.Nodup)(mY:a7 n d sd)(hz:z∈d)(ha:bV n a=true)(an:a.Nodup)(hb:a7 n b sb)(hx:cS a b [z]):False:=by
 have h1:mt d b=false:=Tw T hd dn hb;have h2:mt d a=false:=by rw[q6u dn an];exact Tw T ha an mY
 have h3:mt d [z]=(mt d a ^^ mt d b):=by
  unfold mt;rw[<- gY]
  congr 1
  exact Aq λy _=>tq hx y
 rw[h1,h2]at h3;have h4:mt d [z]=true:=by
  unfold mt;have e:(d.map λy=>decide (y∈[z]))=d.map λy=>decide (y=z) && true:=Aq λy _=>by
   rw[Bool.and_true];exact decide_eq_decide.mpr Ae
  rw[e];exact wg (s:=λ_=>true) dn hz
 rw[h4]at h3;cases h3
def Tz{a:Ñ}{z:Str}(h:z∈a):cS (less a z) a [z]:=λy=>by
 rw[Ae]
 by_cases k:y=z
 ·subst k;have:y∉less a y:=λq=>(aO.mp q).2 rfl;rw[BK this];exact⟨λ_=>h,λ_=>rfl⟩
 ·by_cases m:y∈a
  ·rw[BL<|aO.mpr ⟨m,k⟩];exact⟨λq=>absurd q k,λq=>absurd m q⟩
  ·rw[BK λq=>m (aO.mp q).1];exact⟨λq=>absurd q k,λq=>absurd q m⟩
def q4q{a b c:Ñ}(h:cS a b c):cS b a c:=λy=>by
 have:=h y
 by_cases p:y∈a <;> by_cases q:y∈b <;> simp[p,q]at this <;> simp[p,q,this]
def Ka{n:Net}(T:av n){z:Str}{a b:Ñ}(h:KK n z "double" a)(k:KK n z "cut" b):False:=by
 obtain⟨a1,a2,a3,⟨_,a4,sd,a5⟩ | ⟨q,_⟩ | ⟨q,_⟩⟩:=h
 case inr.inl=>exact absurd q<|by decide
 case inr.inr=>exact absurd q<|by decide
 obtain⟨b1,b2,b3,⟨q,_⟩ | ⟨_,⟨sb,b4⟩,b5⟩ | ⟨q,_⟩⟩:=k
 ·exact absurd q<|by decide
 ·exact Tx T a4 (ga a1) a5 a3 b5 (ga<|tF b1 z) b4<|Tz b3
 ·exact absurd q<|by decide
def TB{n:Net}(T:av n){z:Str}{a b:Ñ}(h:KK n z "double" a)(k:KK n z "round" b):False:=by
 obtain⟨a1,a2,a3,⟨_,a4,sd,a5⟩ | ⟨q,_⟩ | ⟨q,_⟩⟩:=h
 case inr.inl=>exact absurd q<|by decide
 case inr.inr=>exact absurd q<|by decide
 obtain⟨b1,b2,b3,⟨q,_⟩ | ⟨q,_⟩ | ⟨_,b4,sb,b5⟩⟩:=k
 ·exact absurd q<|by decide
 ·exact absurd q<|by decide
 ·exact Tx T a4 (ga a1) a5 a3 b4 (ga b1) b5<|q4q<|Tz b3
def a7.wJ{n:Net}{ss sd:Ñ}(so:bP ss)(h:a7 n ss sd):kE n ss:=⟨so,sd,h.cut⟩
def TC(a b:Ñ):∃ c,bP c/\cS a b c:=by
 obtain⟨c,h1,h2⟩:=oh<|(a++b).filter λz=>decide (z∈a) ^^ decide (z∈b);refine⟨c,h1,λz=>?_⟩;rw[h2,Ba,Al]
 by_cases p:z∈a <;> by_cases q:z∈b <;> simp[p,q]
def TD{n:Net}(T:av n)(h0:0 < n.length){z:Str}{a b:Ñ}(h:KK n z "cut" a)(k:KK n z "round" b):False:=by
 have h':=h;obtain⟨a1,a2,a3,⟨q,_⟩ | ⟨_,⟨sa,a4⟩,a5⟩ | ⟨q,_⟩⟩:=h
 ·exact absurd q<|by decide
 case inr.inr=>exact absurd q<|by decide
 obtain⟨b1,b2,b3,⟨q,_⟩ | ⟨q,_⟩ | ⟨_,b4,sb,b5⟩⟩:=k
 ·exact absurd q<|by decide
 ·exact absurd q<|by decide
 obtain⟨d,d1,d2⟩:=TC a<|less b z;have dc:=q60 T (a4.wJ a1) (b5.wJ<|tF b1 z) d1 d2;have dx:cS (less a z) b d:=λy=>by
  rw[d2 y];have l1:y∈less b z↔y∈b/\y≠z:=aO;have l2:y∈less a z↔y∈a/\y≠z:=aO
  by_cases e:y=z
  ·subst e;rw[BL a3,BK λq=>(l2.mp q).2 rfl];exact⟨λ_=>b3,λ_ q=>(l1.mp q).2 rfl⟩
  ·by_cases p:y∈a
   ·rw[BL p,BL<|l2.mpr ⟨p,e⟩];exact⟨λq k=>q<|l1.mpr ⟨k,e⟩,λq k=>q (l1.mp k).1⟩
   ·rw[BK p,BK λq=>p (l2.mp q).1];exact⟨λq=>(l1.mp q).1,λq=>l1.mpr ⟨q,e⟩⟩
 have de:=q0x a5 b4 dx;obtain⟨sd,mY⟩:=yJ T h0 dc;have hz:z∈d:=(d2 z).mpr (by rw[BL a3];exact λq=>(aO.mp q).2 rfl);refine Ka T (a:=d) ⟨d1,λy hy=>?_,hz,.inl ⟨rfl,de,sd,mY⟩⟩ h';have:=(d2 y).mp hy
 by_cases p:y∈a
 ·exact a2 y p
 ·rw[BK p]at this;exact b2 y (aO.mp this).1
def TH{n:Net}{z w:Str}{a:Ñ}(h:KK n z w a):w = "double"\/w = "cut"\/w = "round":=by
 obtain⟨_,_,_,⟨q,_⟩ | ⟨q,_⟩ | ⟨q,_⟩⟩:=h
 ·exact .inl q
 ·exact .inr<|.inl q
 ·exact .inr<|.inr q
def q7y{n:Net}(T:av n)(h0:0 < n.length){z w v:Str}{a b:Ñ}(h:KK n z w a)(k:KK n z v b):w=v:=by
 rcases TH h with rfl | rfl | rfl <;> rcases TH k with rfl | rfl | rfl
 ·rfl
 ·exact(Ka T h k).elim
 ·exact(TB T h k).elim
 ·exact(Ka T k h).elim
 ·rfl
 ·exact(TD T h0 h k).elim
 ·exact(TB T k h).elim
 ·exact(TD T h0 k h).elim
 ·rfl
section
variable{a1 a2:Net}{q nm z:Str}{P S A B:Ñ}
abbrev jB(a1 a2:Net)(q nm z:Str)(P S A B:Ñ):Net:=a1++(q,P++z :: S) :: (a2++[(nm,A++z :: B)])
abbrev jS(a1 a2:Net)(q:Str)(P S A B:Ñ):Net:=a1++(q,P++(B++(A++S))) :: a2
def jg(i N p b a:Nat)(e:End):End:=if e.1=i then(if e.2 < p then e else if e.2 < p+b then(N,a+1+(e.2 - p))else if e.2 < p+b+a then(N,e.2 - p - b) else(i,e.2+1 - b - a))else e
def qV{i N p b a k:Nat}(h:k < p):jg i N p b a (i,k)=(i,k):=by unfold jg;rw[BL rfl,BL h]
def kR{i N p b a k:Nat}(h:p<=k)(h2:k < p+b):jg i N p b a (i,k)=(N,a+1+(k - p)):=by unfold jg;rw[BL rfl,BK (by show ¬ k < p;omega),BL h2]
def jG{i N p b a k:Nat}(h:p+b<=k)(h2:k < p+b+a):jg i N p b a (i,k)=(N,k - p - b):=by unfold jg;rw[BL rfl,BK (by show ¬ k < p;omega),BK (by show ¬ k < p+b;omega),BL h2]
def jH{i N p b a k:Nat}(h:p+b+a<=k):jg i N p b a (i,k)=(i,k+1 - b - a):=by unfold jg;rw[BL rfl,BK (by show ¬ k < p;omega),BK (by show ¬ k < p+b;omega),BK<|by show ¬ k < p+b+a;omega]
def qW{i N p b a:Nat}{e:End}(h:e.1≠i):jg i N p b a e=e:=by unfold jg;rw[BK h]
def q7h{i N p b a:Nat}(hi:i < N){e f:End}(he:e.1 < N)(hf:f.1 < N)(h:jg i N p b a e=jg i N p b a f):e=f:=by
 obtain⟨r,x⟩:=e;obtain⟨s,y⟩:=f;have he:r < N:=he;have hf:s < N:=hf;unfold jg at h
 dsimp only at h
 by_cases r1:r=i <;> by_cases s1:s=i
 ·rw[BL r1,BL s1]at h;subst r1 s1;refine HJ rfl ?_;show x=y
  split at h <;> split at h <;> (try split at h) <;> (try split at h) <;> (try split at h) <;> (try split at h) <;> (first | (have h1:=BZ (·.1) h;have h2:=BZ (·.2) h;dsimp only at h1 h2;omega))
 ·rw[BL r1,BK s1]at h
  exfalso
  split at h <;> (try split at h) <;> (try split at h) <;> (have h1:=BZ (·.1) h;dsimp only at h1;omega)
 ·rw[BK r1,BL s1]at h
  exfalso
  split at h <;> (try split at h) <;> (try split at h) <;> (have h1:=BZ (·.1) h;dsimp only at h1;omega)
 ·rw[BK r1,BK s1]at h;exact h
def q52{χ:End->Bool}{i N p b a s:Nat}(hi:i < N)(h1:χ (N,(a+1) % (a+1+b))=χ (i,p))(h2:χ (i,(p+1) % (p+1+s))=χ (N,a)){k:Nat}(hk:k < p+b+a+s) :
  χ (jg i N p b a (i,(k+1) % (p+b+a+s)))=χ ((jg i N p b a (i,k)).1,((jg i N p b a (i,k)).2+1) % (if(jg i N p b a (i,k)).1=i then p+1+s else a+1+b)):=by
 have nN:¬ N=i:=by omega
 have sm:∀{x y:Nat},x < y->x % y=x:=λh=>Ce h;have X:χ (jg i N p b a (i,p % (p+b+a+s)))=χ (i,p):=by
  by_cases b0:0 < b
  ·rw[sm (by omega),kR (Ao _) (by omega),<- h1,sm (by omega),Ed,Gg]
  ·have b0:b=0:=by omega
   subst b0;rw[Gg,Cy]at h1
   by_cases a0:0 < a
   ·rw[sm (by omega),jG (by omega) (by omega),<- h1]
    congr 2
    omega
   ·have a0:a=0:=by omega
    subst a0;rw[<- h1,<- h2]
    by_cases s0:0 < s
    ·rw[sm (by omega),sm (by omega),jH<|by omega];rfl
    ·have s0:s=0:=by omega
     subst s0;have:p % (p+0+0+0)=0:=Cy p;rw[this,show(p+1) % (p+1+0)=0 from Cy _,qV<|by omega]
 have Y:χ (jg i N p b a (i,(p+b+a) % (p+b+a+s)))=χ (N,a):=by
  by_cases s0:0 < s
  ·rw[sm (by omega),jH<|Ao _,<- h2,sm<|by omega]
   congr 2
   omega
  ·have s0:s=0:=by omega
   subst s0;rw[Gg,Cy]at h2 ⊢
   by_cases p0:0 < p
   ·rw[qV p0,<- h2]
   ·have p0:p=0:=by omega
    subst p0;rw[<- h2,<- X]
    congr 2
 by_cases c1:k < p
 ·rw[qV c1,BL rfl];show _=χ (i,(k+1) % (p+1+s));rw[sm (x:=k+1) (y:=p+1+s)<|by omega]
  by_cases c:k+1 < p
  ·rw[sm (by omega),qV c]
  ·have:k+1=p:=by omega
   rw[this];exact X
 by_cases c2:k < p+b
 ·rw[kR (by omega) c2,BK nN];show _=χ (N,(a+1+(k - p)+1) % (a+1+b))
  by_cases c:k+1 < p+b
  ·rw[sm (by omega),kR (by omega) c,sm<|by omega]
   congr 2
   omega
  ·have e:a+1+(k - p)+1=a+1+b:=by omega
   rw[e,Cy]
   by_cases a0:0 < a
   ·rw[sm (by omega),jG (by omega)<|by omega]
    congr 2
    omega
   ·have a0:a=0:=by omega
    subst a0;rw[<- Y]
    congr 4
    omega
 by_cases c3:k < p+b+a
 ·rw[jG (by omega) c3,BK nN];show _=χ (N,(k - p - b+1) % (a+1+b));rw[sm (x:=k - p - b+1)<|by omega]
  by_cases c:k+1 < p+b+a
  ·rw[sm (by omega),jG (by omega) c]
   congr 2
   omega
  ·have e:k+1=p+b+a:=by omega
   rw[e,Y]
   congr 2
   omega
 rw[jH (k:=k) (by omega),BL rfl];show _=χ (i,(k+1 - b - a+1) % (p+1+s))
 by_cases c:k+1 < p+b+a+s
 ·rw[sm c,jH (by omega),sm<|by omega]
  congr 2
  omega
 ·have e:k+1=p+b+a+s:=by omega
  have e2:k+1 - b - a+1=p+1+s:=by omega
  rw[e2,e,Cy,Cy]
  by_cases p0:0 < p
  ·rw[qV p0]
  ·have p0:p=0:=by omega
   subst p0;rw[<- X,Nat.zero_mod]
def tG:row (jB a1 a2 q nm z P S A B) a1.length=P++z :: S:=by
 unfold row;rw[Am<|Ao _,Ed];rfl
def zF:row (jS a1 a2 q P S A B) a1.length=P++(B++(A++S)):=by
 unfold row;rw[Am<|Ao _,Ed];rfl
def tH:row (jB a1 a2 q nm z P S A B) (a1.length+1+a2.length)=A++z :: B:=by
 unfold row;rw[Am (by omega),show a1.length+1+a2.length - a1.length=a2.length+1 by omega,Da,Am<|Ao _,Ed];rfl
def Kb{r:Nat}(h:r≠a1.length)(h2:r < a1.length+1+a2.length):row (jB a1 a2 q nm z P S A B) r=row (jS a1 a2 q P S A B) r:=by
 unfold row
 by_cases c:r < a1.length
 ·rw[An c,An c]
 ·rw[Am (by omega),Am<|by omega];obtain⟨k,hk⟩:∃ k,r - a1.length=k+1:=⟨r - a1.length - 1,by omega⟩;rw[hk,Da,Da,An<|by omega]
def Kc:(jS a1 a2 q P S A B).length=a1.length+1+a2.length:=by simp[jS];omega
def zG{e:End}(h:e∈ends (jS a1 a2 q P S A B)):aK (jB a1 a2 q nm z P S A B) (jg a1.length (a1.length+1+a2.length) P.length B.length A.length e)=aK (jS a1 a2 q P S A B) e:=by
 obtain⟨y,hy⟩:=af.mp h;have h1:=cz hy;rw[Kc]at h1;obtain⟨r,k⟩:=e
 by_cases c:r=a1.length
 ·subst c;have hl:=f9 hy;unfold aK
  dsimp only at hl ⊢
  rw[zF]at hl ⊢;rw[Ad,Ad,Ad]at hl
  by_cases c1:k < P.length
  ·rw[qV c1]
   dsimp only
   rw[tG,An c1,An c1]
  by_cases c2:k < P.length+B.length
  ·rw[kR (by omega) c2]
   dsimp only
   rw[tH,Am (by omega),show A.length+1+(k - P.length) - A.length=(k - P.length)+1 by omega,Da,Am (l₁:=P) (by omega),An<|by omega]
  by_cases c3:k < P.length+B.length+A.length
  ·rw[jG (by omega) c3]
   dsimp only
   rw[tH,An (by omega),Am (l₁:=P) (by omega),Am (l₁:=B) (by omega),An<|by omega]
  ·rw[jH<|by omega]
   dsimp only
   rw[tG,Am (by omega),show k+1 - B.length - A.length - P.length=(k - P.length - B.length - A.length)+1 by omega,Da,Am (l₁:=P) (by omega),Am (l₁:=B) (by omega),Am (l₁:=A)<|by omega]
 ·rw[qW c];unfold aK
  dsimp only
  rw[Kb c h1]
def TK(T:av<|jB a1 a2 q nm z P S A B)(T':av<|jS a1 a2 q P S A B){e:End}(h:e∈ends (jS a1 a2 q P S A B)) :
  other (jB a1 a2 q nm z P S A B) (jg a1.length (a1.length+1+a2.length) P.length B.length A.length e)=jg a1.length (a1.length+1+a2.length) P.length B.length A.length (other (jS a1 a2 q P S A B) e):=by
 obtain⟨y,hy⟩:=af.mp h;obtain⟨o1,_,o3⟩:=du T' hy;have ho:=af.mpr ⟨y,o1⟩;have l1:=cz hy;have l2:=cz o1;rw[Kc]at l1 l2;exact iO T (by rw[zG h];exact hy) (by rw[zG ho];exact o1) λk=>o3 (q7h (by omega) l1 l2 k).symm
def q48(T:av<|jB a1 a2 q nm z P S A B)(T':av<|jS a1 a2 q P S A B)(hz:z∉ag (jS a1 a2 q P S A B))(R:RS<|jB a1 a2 q nm z P S A B):RS (jS a1 a2 q P S A B):=λs hs=>by
 have zH:∀ y,y∈P++(B++(A++S))->y≠z:=λy hy k=>hz<|by
  rw[<- k];exact Dh.mpr ⟨(q,P++(B++(A++S))),by simp[jS],hy⟩
 let s':Str->Bool:=λy=>if y=z then aj ((B++A).map s)else s y
 have sz:s' z=aj ((B++A).map s):=BL rfl;have so:∀{l:Ñ},(∀ y∈l,y≠z)->l.map s'=l.map s:=λ{l} h=>Aq λy hy=>BK<|h y hy;have oP:=so (l:=P) λy hy=>zH y (by simp[hy]);have oS:=so (l:=S) λy hy=>zH y (by simp[hy]);have oA:=so (l:=A) λy hy=>zH y (by simp[hy]);have oB:=so (l:=B) λy hy=>zH y (by simp[hy]);have ev:dL (jB a1 a2 q nm z P S A B) s':=λr=>by
  by_cases c:r=a1.length
  ·subst c;have h:=hs a1.length;rw[zF,Ag,Ag,Ag,gX,gX,gX]at h;rw[tG,Ag,Bj,gX,oP,oS,sz,Ag];show(aj (P.map s) ^^ (aj (B.map s++A.map s) ^^ aj (S.map s)))=false;rw[gX,<- h];cases aj (P.map s) <;> cases aj (B.map s) <;> cases aj (A.map s) <;> cases aj (S.map s) <;> rfl
  ·by_cases c2:r < a1.length+1+a2.length
   ·rw[Kb c c2,so λy hy k=>hz<|by rw[<- k];exact(Bm hy).elim λx hx=>dG (e:=(r,x)) hx];exact hs r
   ·by_cases c3:r=a1.length+1+a2.length
    ·subst c3;rw[tH,Ag,Bj,gX,oA,oB,sz,Ag];show(aj (A.map s) ^^ (aj (B.map s++A.map s) ^^ aj (B.map s)))=false;rw[gX];cases aj (A.map s) <;> cases aj (B.map s) <;> rfl
    ·unfold row;rw[Be<|by simp[jB];omega];rfl
 obtain⟨χ,hχ⟩:=R s' ev;have t1:aK (jB a1 a2 q nm z P S A B) (a1.length,P.length)=some z:=by
  unfold aK
  dsimp only
  rw[tG,Am<|Ao _,Ed];rfl
 have t2:aK (jB a1 a2 q nm z P S A B) (a1.length+1+a2.length,A.length)=some z:=by
  unfold aK
  dsimp only
  rw[tH,Am<|Ao _,Ed];rfl
 have ne:((a1.length,P.length):End)≠(a1.length+1+a2.length,A.length):=λk=>by
  have:=BZ (·.1) k
  dsimp only at this
  omega
 have h1:χ (a1.length+1+a2.length,(A.length+1) % (A.length+1+B.length))=χ (a1.length,P.length):=by
  rw[<- hχ.go _<|af.mpr ⟨z,t1⟩];show _=χ (left _ (other _ _));rw[iO T t1 t2 ne];unfold left
  dsimp only
  rw[tH,Ad,Ar]
  congr 3
  omega
 have h2:χ (a1.length,(P.length+1) % (P.length+1+S.length))=χ (a1.length+1+a2.length,A.length):=by
  rw[<- hχ.go _<|af.mpr ⟨z,t2⟩];show _=χ (left _ (other _ _));rw[iO T t2 t1 ne.symm];unfold left
  dsimp only
  rw[tG,Ad,Ar]
  congr 3
  omega
 refine⟨λe=>χ<|jg a1.length (a1.length+1+a2.length) P.length B.length A.length e,λe he=>?_,λe y hy=>?_⟩
 ·have ho:=cX T' he;have jZ:jg a1.length (a1.length+1+a2.length) P.length B.length A.length e∈ends (jB a1 a2 q nm z P S A B):=by
   obtain⟨y,hy⟩:=af.mp he;exact af.mpr ⟨y,by rw[zG he];exact hy⟩
  rw[<- hχ.go _ jZ];show χ (jg _ _ _ _ _<|left _ (other _ e))=χ (left _ (other _<|jg _ _ _ _ _ e));rw[TK T T' he];generalize other (jS a1 a2 q P S A B) e=f at ho;obtain⟨y,hy⟩:=af.mp ho;have l1:=cz hy;have l2:=f9 hy;rw[Kc]at l1;obtain⟨r,k⟩:=f
  by_cases c:r=a1.length
  ·subst c;have l2:k < (row (jS a1 a2 q P S A B) a1.length).length:=l2;rw[zF,Ad,Ad,Ad]at l2;have J:=q52 (χ:=χ) (i:=a1.length) (N:=a1.length+1+a2.length) (by omega) h1 h2 (k:=k) (by omega);unfold left
   dsimp only
   rw[zF,Ad,Ad,Ad,show P.length+(B.length+(A.length+S.length))=P.length+B.length+A.length+S.length by omega,J]
   congr 3
   by_cases d:(jg a1.length (a1.length+1+a2.length) P.length B.length A.length (a1.length,k)).1=a1.length
   ·rw[BL d,d,tG,Ad,Ar];omega
   ·rw[BK d];have d2:(jg a1.length (a1.length+1+a2.length) P.length B.length A.length (a1.length,k)).1=a1.length+1+a2.length:=by
     by_cases c1:k < P.length
     ·rw[qV c1]at d;exact absurd rfl d
     by_cases c2:k < P.length+B.length
     ·rw[kR (by omega) c2]
     by_cases c3:k < P.length+B.length+A.length
     ·rw[jG (by omega) c3]
     ·rw[jH<|by omega]at d;exact absurd rfl d
    rw[d2,tH,Ad,Ar];omega
  ·rw[qW c];unfold left
   dsimp only
   rw[qW c,Kb c l1]
 ·have he:=af.mpr ⟨y,hy⟩;have pc:=dG hy;have sy:s' y=s y:=BK λk=>hz (by rw[<- k];exact pc);rw[<- sy,hχ.cY _ y (by rw[zG he];exact hy),TK T T' he]
def HR(n:Net):Prop:=c9 n/\RS n
def HF.hr{n:Net}(h:HF n):HR n:=⟨h.1,h.2.2⟩
def k5k{n:Net}(T:av n)(hf:HR n)(hN:(n.map (·.1)).Nodup)(h0:0 < n.length){w:List End}(hw:w∈bh n){ss:Ñ}(h:∀ z,z∈ss↔(w.map<|aD n).count z=1):∃ sd,a7 n ss sd:=by
 have W:=nU T (ends n) [] (λ_ h=>h) w hw;have inT:=zA W.ends h;obtain⟨zs,sz,mz⟩:=oh<|ag n;refine k2r T hf.1 hN h0 (ga sz) mz inT λt ht=>?_;obtain⟨χ,hχ⟩:=hf.2 t ht;have:=k8p T W hχ;have e:bo zs t (λz=>decide (z∈ss))=bo zs t (λz=>decide ((w.map<|aD n).count z % 2=1)):=by
  unfold bo
  congr 1
  refine Aq λz hz=>?_;show(t z && decide (z∈ss))=(t z && decide ((w.map<|aD n).count z % 2=1));rw[Jm T hw h<|(mz z).mp hz];rfl
 rw[e,Jd (n:=n) (ga sz) λy hy=>?_]
 ·rw[Cn];exact this
 ·obtain⟨x,hx,rfl⟩:=Ap.mp hy;obtain⟨y,hy⟩:=af.mp<|W.ends x hx;rw[fJ hy];exact(mz y).mpr<|dG hy
def q0d{n:Net}(T:av n)(hf:HR n){cs:List Ñ}(C:cD n cs){s:Str->Bool}(h:∀ c∈cs,aj (c.map s)=false):mW n s:=λf hd=>by
 obtain⟨Z,hs,hm⟩:=oh<|ag n;have nz:=ga hs;have TL:∀ z∈ag n,z∈Z:=λz hz=>(hm z).mpr hz;rw[Jz nz TL];have ev:dL n (bj n f):=λi=>by
  by_cases hi:i < n.length
  ·obtain⟨r,hr,e⟩:=q6f hi;rw[e];exact hd r hr
  ·unfold row;rw[Be<|by omega];rfl
 obtain⟨χ,hχ⟩:=hf.2 _ ev;have eY:∀ e z,aK n e=some z->bj n f z=(f (aF n e.1) ^^ f (aF n (other n e).1)):=λe z hz=>by
  have hp:∀ x∈bQ n,decide (x∈(bQ n).filter f)=f x:=λx hx=>by
   cases k:f x
   ·exact BR λq=>by rw[(Ba.mp q).2]at k;cases k
   ·exact BW<|Ba.mpr ⟨hx,k⟩
  have e1:bj n f z=bj n (λy=>decide (y∈(bQ n).filter f)) z:=by
   unfold bj
   congr 1
   refine Aq λr hr=>?_;have:=hp r.1<|Ap.mpr ⟨r,hr,rfl⟩;show(f r.1 && _)=(decide (r.1∈(bQ n).filter f) && _);rw[<- this]
  have c:=lB T (ps:=(bQ n).filter f) hz;rw[hp _<|js<|cz hz,hp _<|js<|sF T hz]at c;rw[e1,tu T,Cp,CN,c]
 have D:g7 n (bj n f) (λr=>f<|aF n r) χ:=⟨hχ,eY⟩;have e:∀ z∈Z,bj n f z=aj ((List.range (bh n).length).map λi=>jF n (λr=>f<|aF n r) χ i && cA n ((bh n)[i]?.getD []) z):=λz hz=>by
  have fj:=(hm z).mp hz;obtain⟨p,p1,p2,hpk⟩:=SR T (k:=0) (by decide) fj;obtain⟨q,q1,q2,hqk⟩:=SR T (k:=1) (by decide) fj;rw[k41 T _ hpk hqk,<- g7.cY T D p1 q1<|p2.trans q2.symm,p2]
 rw[JA e λ_ _=>rfl];unfold bo;have e2:(Z.map λz=>aj ((List.range (bh n).length).map λi=>jF n (λr=>f<|aF n r) χ i && cA n ((bh n)[i]?.getD []) z) && s z)=Z.map λz=>aj ((List.range (bh n).length).map λi=>jF n (λr=>f<|aF n r) χ i && (cA n ((bh n)[i]?.getD []) z && s z)):=Aq λz _=>by
  rw[Jy]
  congr 1
  exact Aq λi _=>Bool.and_assoc _ _ _
 rw[e2,we λz i=>jF n (λr=>f<|aF n r) χ i && (cA n ((bh n)[i]?.getD []) z && s z)];have e3:((List.range (bh n).length).map λi=>aj<|Z.map λz=>jF n (λr=>f<|aF n r) χ i && (cA n ((bh n)[i]?.getD []) z && s z))=(List.range (bh n).length).map λ_=>false:=Aq λi hi=>by
  have hi:=Bw.mp hi;rw[<- Jx];have TR:=Ab (show i < cs.length by rw[C.len];exact hi);have eU:cs[i]'(by rw[C.len];exact hi)∈cs:=Bn _;have jW:=Ab hi;have a:=h _ eU;have nd:=ga<|C.og _ eU;have jd:∀ z∈cs[i]'(by rw[C.len];exact hi),z∈ag n:=zA (λc hc=>(nU T (ends n) [] (λe he=>he) _<|Bn hi).ends c hc)<|C.mem i _ _ TR jW;have b:=wv nz nd (λz hz=>TL z<|jd z hz) s;have c:aj (Z.map λz=>cA n ((bh n)[i]?.getD []) z && s z)=bo Z s (λz=>decide (z∈cs[i]'(by rw[C.len];exact hi))):=by
   rw[wu];unfold bo
   congr 1
   refine Aq λz hz=>?_;rw[<- C.at' T hi<|(hm z).mp hz,TR,Option.getD_some]
  rw[c,<- b];show(_ && aj _)=false;rw[a,Gw]
 rw[e3,iR]
def q0t{n:Net}(T:av n)(hf:HR n)(hN:(bQ n).Nodup)(h0:0 < n.length){cs:List Ñ}(C:cD n cs){c:Ñ}(hc:c∈cs):bP c/\(∀ z∈c,z∈ag n)/\bV n c=true/\∃ sd,a7 n c sd:=by
 obtain⟨i,hi⟩:=Bm hc;have fD:=(Ac.mp hi).1;rw[C.len]at fD;have jW:=Ab fD;have hw:=As jW;have wk:=nU T (ends n) [] (λe he=>he) _ hw;have m:=C.mem i _ _ hi jW;exact⟨C.og c hc,zA wk.ends m,k8c T hw m,k5k T hf hN h0 hw m⟩
def q1g{n:Net}(T:av n)(hf:HR n)(hN:(bQ n).Nodup)(h0:0 < n.length){cs:List Ñ}(C:cD n cs){c:Ñ}(hc:c∈cs){z:Str}(h:(c.filter λy=>[z].contains y).length % 2=1):tE n z "double" c:=by
 obtain⟨a1,a2,a3,a4⟩:=q0t T hf hN h0 C hc;rw[q57<|ga a1]at h;refine⟨a1,a2,?_,.inl ⟨rfl,a3,a4,cs,C,hc⟩⟩
 by_cases k:z∈c
 ·exact k
 ·rw[BK k]at h;cases h
def fk:(ag<|jB a1 a2 q nm z P S A B).Perm (z :: z :: ag (jS a1 a2 q P S A B)):=by
 refine List.perm_iff_count.mpr λy=>?_;simp only[jB,jS,ag,Cr,Cc,List.flatMap_nil,Cq,Cz,Bh,TY];omega
def k5p(h:((jB a1 a2 q nm z P S A B).map (·.1)).Nodup):((jS a1 a2 q P S A B).map (·.1)).Nodup:=by
 have e:(jB a1 a2 q nm z P S A B).map (·.1)=(jS a1 a2 q P S A B).map (·.1)++[nm]:=by simp[jB,jS]
 rw[e]at h;exact(Bt.mp h).1
def k4x(T:av<|jB a1 a2 q nm z P S A B):z∉ag (jS a1 a2 q P S A B)/\av (jS a1 a2 q P S A B):=by
 have p:=fk (a1:=a1) (a2:=a2) (q:=q) (nm:=nm) (z:=z) (P:=P) (S:=S) (A:=A) (B:=B);have hz:z∉ag (jS a1 a2 q P S A B):=λk=>by
  have h1:=T z<|p.mem_iff.mpr Af;rw[p.count_eq,Gr,Gr]at h1;have:=Bs.mpr k;omega
 refine⟨hz,λy hy=>?_⟩;have bn:z≠y:=λk=>hz (by rw[k];exact hy);have h1:=T y<|p.mem_iff.mpr<|Ah _<|Ah _ hy;rw[p.count_eq,UL bn,UL bn]at h1;exact h1
def k5u(hz:z∉ag (jS a1 a2 q P S A B))(hN:((jB a1 a2 q nm z P S A B).map (·.1)).Nodup)(h:c9<|jB a1 a2 q nm z P S A B):c9 (jS a1 a2 q P S A B):=λC ⟨r0,h0,c0⟩ hc r hr=>by
 have nq:∀ r∈jS a1 a2 q P S A B,r.1≠nm:=λr hr k=>by
  have e:(jB a1 a2 q nm z P S A B).map (·.1)=(jS a1 a2 q P S A B).map (·.1)++[nm]:=by simp[jB,jS]
  rw[e]at hN;exact(Bt.mp hN).2.2 r.1 (Ap.mpr ⟨r,hr,rfl⟩) nm (Ae.mpr rfl) k
 have sm:∀ b∈jB a1 a2 q nm z P S A B,∃ c∈jS a1 a2 q P S A B,((if b.1=nm then q else b.1)=c.1)/\∀ t∈b.2,t≠z->t∈c.2:=λb hb=>by
  have hq:(q,P++(B++(A++S)))∈jS a1 a2 q P S A B:=by simp[jS]
  simp only[jB,Al,Ak,Ck,FZ]at hb
  rcases hb with hb | rfl | hb | rfl
  ·have hm:b∈jS a1 a2 q P S A B:=by simp[jS,hb]
   exact⟨b,hm,BK<|nq b hm,λt ht _=>ht⟩
  ·refine⟨_,hq,BK<|nq _ hq,λt ht bn=>?_⟩;simp only[Al,Ak]at ht ⊢
   rcases ht with ht | ht | ht
   ·exact .inl ht
   ·exact absurd ht bn
   ·exact .inr<|.inr<|.inr ht
  ·have hm:b∈jS a1 a2 q P S A B:=by simp[jS,hb]
   exact⟨b,hm,BK<|nq b hm,λt ht _=>ht⟩
  ·refine⟨_,hq,BL rfl,λt ht bn=>?_⟩;simp only[Al,Ak]at ht ⊢
   rcases ht with ht | ht | ht
   ·exact .inr<|.inr<|.inl ht
   ·exact absurd ht bn
   ·exact .inr<|.inl ht
 have up:∀ r∈jS a1 a2 q P S A B,∃ b∈jB a1 a2 q nm z P S A B,b.1=r.1:=λr hr=>by
  simp only[jS,Al,Ak]at hr
  rcases hr with hr | rfl | hr
  ·exact⟨r,by simp[jB,hr],rfl⟩
  ·exact⟨(q,P++z :: S),by simp[jB],rfl⟩
  ·exact⟨r,by simp[jB,hr],rfl⟩
 obtain⟨b0,hb0,e0⟩:=up r0 h0;have:=h (λx=>C (if x=nm then q else x)) ⟨b0,hb0,by show C (if b0.1=nm then q else b0.1);rw[e0,BK<|nq r0 h0];exact c0⟩ λb hb d hd t h1 h2 cb=>?_
 ·obtain⟨b,hb,e⟩:=up r hr;have k:=this b hb;rw[e,BK<|nq r hr]at k;exact k
 ·obtain⟨c,eU,ec,mc⟩:=sm b hb;obtain⟨c',Kd,tI,mc'⟩:=sm d hd;show C (if d.1=nm then q else d.1);have cb:C (if b.1=nm then q else b.1):=cb;rw[ec]at cb;rw[tI]
  by_cases k:t=z
  ·
   have TU:∀ x∈jB a1 a2 q nm z P S A B,z∈x.2->z∉ag (jS a1 a2 q P S A B)->(if x.1=nm then q else x.1)=q:=λx hx hz hn=>by
    simp only[jB,Al,Ak,Ck,FZ]at hx
    rcases hx with hx | rfl | hx | rfl
    ·exact absurd (Dh.mpr ⟨x,by simp[jS,hx],hz⟩) hn
    ·have hq:(q,P++(B++(A++S)))∈jS a1 a2 q P S A B:=by simp[jS]
     exact BK<|nq _ hq
    ·exact absurd (Dh.mpr ⟨x,by simp[jS,hx],hz⟩) hn
    ·exact BL rfl
   rw[<- tI,TU d hd (by rw[<- k];exact h2) hz];rw[<- ec,TU b hb (by rw[<- k];exact h1) hz]at cb;exact cb
  ·exact hc c eU c' Kd t (mc t h1 k) (mc' t h2 k) cb
end
end Nt
namespace E7
open PySem L2 Nt bw bA
open PyProof.Rows (sortedS)
open Classical
structure gL(H:Hp)(S:Addr)(us:List<|Addr×Addr×Addr)(st:cU):Prop where
 lst:H S=some (.lst<|us.map λu=>V.ref u.1)
 len:us.length=st.length
 at':∀(i:Nat) u s,us[i]?=some u->st[i]?=some s->H u.1=some (.tup [.ref u.2.1,.ref u.2.2])/\H u.2.1=some (Ls s.1)/\H u.2.2=some (Ls s.2)
def gL.same{H H':Hp}{S:Addr}{us:List (Addr×Addr×Addr)}{st:cU}(h:gL H S us st)(s:ah H H'):gL H' S us st:=⟨s _ _ h.lst,h.len,λi u x a b=>let q:=h.at' i u x a b;⟨s _ _ q.1,s _ _ q.2.1,s _ _ q.2.2⟩⟩
def q58(ss:Ñ):(λr:Str×List Str=>!kQ ss r)=cn λz=>decide (z∈ss):=by
 funext r
 unfold kQ cn;rw[sI];have c:(r.2.filter λz=>ss.contains z)=r.2.filter λz=>decide (z∈ss):=by
  congr 1
  funext z
  rw[Cp,CN];exact Bk
 rw[c];generalize (r.2.filter λz=>decide (z∈ss)).length=k
 rcases QG k with h | h <;> rw[h] <;> rfl
def T1{n:Net}{ss os:Ñ}(h:os.Perm ((n.filter λr=>!kQ ss r).map (·.1))):cT n (λz=>decide (z∈ss)) os:=by
 rw[q58]at h;exact h
def sub_len{n:Net}{l:Ñ}(hn:n.length<=31)(h1:l.Nodup)(h2:∀ x∈l,x∈bQ n):l.length<=31:=by
 have:=bg h1 h2;rw[Aa]at this;omega
def Ke:Sp:=λvs H Q _=>∃(S p o:Addr) (us:List<|Addr×Addr×Addr) (n:Net) (st:cU) (ps os:Ñ),vs=[.ref S,.ref p,.ref o]/\gL H S us st/\JE n st/\n.length<=31/\H p=some (Ls ps)/\H o=some (Ls os)/\gK n [] ps os ps os /\
 ∀(L p' o':Addr) (cE bZ:Ñ) (H':Hp),ah H H'->H L=none->H' L=some (.tup [.ref p',.ref o'])->H' p'=some (Ls cE)->H' o'=some (Ls bZ)->(p'=p\/H p'=none)->(o'=o\/H o'=none)->gK n st ps os cE bZ->Q (.ref L) H'
noncomputable def qX:Sp:=λvs H Q _=>∃(R o:Addr) (as:Ï) (n:Net) (os:Ñ) (s:Str->Bool),vs=[.ref R,.ref o]/\ai H R as n/\(bQ n).Nodup/\av n/\n.length<=31/\(ag n).length<=60/\H o=some (Ls os)/\cT n s os/\mW n s /\
 ∀(L:Addr) (ps:Ñ) (H':Hp),ah H H'->H' L=some (Ls ps)->(∀ r∈n,cq n ps r=cn s r)->Q (.ref L) H'
def Kf:Sp:=λvs H Q _=>∃(R p:Addr) (as:Ï) (n:Net) (ss:Ñ),vs=[.ref R,.ref p]/\ai H R as n/\(bQ n).Nodup/\av n/\HR n/\n.length<=31/\(ag n).length<=60/\H p=some (Ls ss)/\ss.Nodup/\(∀ z∈ss,z∈ag n) /\
 (∀(t L:Addr) (c:Ñ) (H':Hp),ah H H'->H t=none->H L=none->H' t=some (.tup [.str "odd",.ref L])->H' L=some (Ls c)->(∃ cs,cD n cs/\c∈cs)->(c.filter λz=>ss.contains z).length % 2=1->Q (.ref t) H') /\
 (∀(t L M:Addr) (rs cs ps:Ñ) (H':Hp),ah H H'->H t=none->H L=none->H M=none->L≠M->H' t=some (.tup [.str "parts",.ref L,.ref M])->H' L=some (Ls rs)->H' M=some (Ls cs)->qS n ss->bP rs->bP cs->bV n rs=true->(∀ z,z∈cs↔dv n ps z)->cS ss cs rs->Q (.ref t) H')
def q0r{n:Net}(T:av n)(hf:HR n){ss:Ñ}(h:qS n ss):mW n λz=>decide (z∈ss):=by
 obtain⟨cs,C,he⟩:=h;refine q0d T hf C λc hc=>?_;have:=he c hc;rw[sI];have e:(c.filter λz=>ss.contains z)=c.filter λz=>decide (z∈ss):=by
  congr 1
  funext z
  rw[Cp,CN];exact Bk
 rw[e]at this;exact BR<|by omega
section
variable{P:Program}{w:World}{K:PySem.W.Frag}{mg:Ò}{base:Heap}
abbrev NLo:Ñ:=["steps","points","odds","tried","left"]
def wK:ao NLo ["steps","points","odds"] (aT EJ):=⟨rfl,rfl,rfl,by decide +kernel,rfl,by decide +kernel,by decide +kernel⟩
def q65{f:Addr}{fd:FuncData}(F:bv K "lowered" "lowered" EJ f fd)(T:Txt mg)(GM:aS P w K mg base 1 "summed" ["one","other"] zD):aE P w K mg base bD 2 f fd ["steps","points","odds"] Ke:=by
 refine F.gb wK (λvs H Q E h=>?_) λb0 H vs Q E hr h=>?_
 ·obtain⟨S,p,o,us,n,st,ps,os,rfl,_⟩:=h;rfl
 obtain⟨S,p,o,us,n,st,ps,os,rfl,hS,I,hn,hp,ho,lw,q⟩:=h;have nd:=wK.nd;have hl:=hS.len;show Run _ _ _ [some<|.ref S,some<|.ref p,some<|.ref o,none,none] H;refine ia<|ae 0 ⟨S,rfl,⟨_,ak.of hS.lst⟩,?_⟩;refine ib (xs:=us.map λu=>V.ref u.1) (λi σ H'=>∃(p1 o1:Addr) (ps1 os1:Ñ) (u3 u4:Option V),ah H H'/\H' p1=some (Ls ps1)/\H' o1=some (Ls os1)/\(p1=p\/H p1=none)/\(o1=o\/H o1=none)/\gK n (st.take i) ps os ps1 os1/\σ=[some<|.ref S,some<|.ref p1,some<|.ref o1,u3,u4]) ⟨p,o,ps,os,_,_,ah.refl H,hp,ho,.inl rfl,.inl rfl,lw,rfl⟩ ?_ ?_ ?_
 ·rintro i σ H' _ ⟨_,_,_,_,_,_,sm,_⟩;exact ak.of<|sm _ _ hS.lst
 ·rintro i x σ H1 hx ⟨p1,o1,ps1,os1,u3,u4,sm,e1,e2,f1,f2,lo,rfl⟩;rw[Aj,Az]at hx;obtain⟨u,hu,rfl⟩:=hx;have hi:i < st.length:=by have:=(Ac.mp hu).1;omega
  have hs:=Ab hi;generalize st[i]=s at hs;have iw:=As hs;obtain⟨a1,a2,a3⟩:=(hS.same sm).at' i u s hu hs;obtain⟨y,l',hy⟩:∃ y l',s.2=y :: l':=by
   cases k:s.2 with
   | nil=>exact absurd k<|I.ne s iw
   | cons y l'=>exact⟨y,l',rfl⟩
  have hd:s.2.head?=some y:=by rw[hy];rfl
  have l1:=sub_len hn lo.nd.1 lo.sub.1;have l2:=sub_len hn lo.nd.2 lo.sub.2;have l3:=sub_len hn (I.nd s iw).1 (I.sub s iw).1;have l4:=sub_len hn (I.nd s iw).2 (I.sub s iw).2;refine jq rfl (aP.of a1) (a8 3 nd<|a8 4 nd ?_);show Run _ _ _ [some<|.ref S,some<|.ref p1,some<|.ref o1,some<|.ref u.2.1,some<|.ref u.2.2] H1;have ha:eF (s.2.map V.str) ((0:Nat):Int)=some (.str y):=xZ (by rw[hy];rfl);refine hV<|b8 k4<|aY dq<|ae 4<|aC ⟨u.2.2,_,_,.str y,rfl,rfl,ak.of a3,ha,ae 2 ⟨o1,_,rfl,.inl<|ak.of e2,rfl,iu _,_,rfl,?_⟩⟩;have fF:∀(x y:Bool),(if false=true then x else y)=y:=λ_ _=>rfl;rw[fF,iN,tD]
  by_cases hb:y∈os1
  ·rw[BW hb];refine cP (aW 1 nd<|bz GM hr<|aq<|ae 1<|aq<|ae 3<|az ⟨p1,u.2.1,ps1,s.1,rfl,e1,a2,by omega,λm ms H2 s2 n2 em _ ndm mm=>?_⟩);refine aW 2 nd (bz GM hr<|aq<|ae 2<|aq<|ae 4<|az ⟨o1,u.2.2,os1,s.2,rfl,s2 _ _ e2,s2 _ _ a3,by omega,λk ks H3 s3 n3 ek _ ndk mk=>?_⟩);exact bb<|bb ⟨m,k,ms,ks,_,_,(sm.trans s2).trans s3,s3 _ _ em,ek,.inr<|sm.free n2,.inr<|(sm.trans s2).free n3,lo.step I hs hd hb ndm ndk mm mk,rfl⟩
  ·rw[BR hb];exact cO<|bb<|bb ⟨p1,o1,ps1,os1,_,_,sm,e1,e2,f1,f2,lo.skip hs hd hb,rfl⟩
 ·rintro σ H1 ⟨p1,o1,ps1,os1,u3,u4,sm,e1,e2,f1,f2,lo,rfl⟩;rw[Aa,hl,Br]at lo;refine bN (dW<|aq<|ae 1<|aq<|ae 2<|az ⟨(by show 2<=sizeLine;decide),λt ht=>?_⟩);have sT:=aH ht<|.tup [.ref p1,.ref o1];exact q t p1 o1 ps1 os1 _ (sm.trans sT) (sm.free ht) aw (sT _ _ e1) (sT _ _ e2) f1 f2 lo
def q5e{n:Net}(T:av n){ps cs:Ñ}(h:∀ z,z∈cs↔dv n ps z):(λz=>decide (z∈cs))=bj n λy=>decide (y∈ps):=by
 funext z
 rw[tu T,decide_eq_decide.mpr<|h z]
abbrev NPb:Ñ:=["rows","odds","steps","point","tried","left"]
def wL:ao NPb ["rows","odds"] (aT EI):=⟨rfl,rfl,rfl,by decide +kernel,rfl,by decide +kernel,by decide +kernel⟩
def x0q{f:Addr}{fd:FuncData}(F:bv K "points_by" "points_by" EI f fd)(T:Txt mg)(GP:aS P w K mg base 3 "points_of" ["rows"] JP)(GL:aS P w K mg base 3 "lowered" ["steps","points","odds"] Ke)(GO:aS P w K mg base 3 "odd_points" ["rows","some"] zE)(GC:aS P w K mg base 3 "cut_of" ["rows","points"] zC):aE P w K mg base bD 4 f fd ["rows","odds"] qX:=by
 refine F.gb wL (λvs H Q E h=>?_) λb0 H vs Q E hr h=>?_
 ·obtain⟨R,o,as,n,os,s,rfl,_⟩:=h;rfl
 obtain⟨R,o,as,n,os,s,rfl,hR,hN,hT,hn,g6,ho,hO,rQ,q⟩:=h;have nd:=wL.nd;show Run _ _ _ [some<|.ref R,some<|.ref o,none,none,none,none] H;refine aW 2 nd (cC<|az ⟨(by show 0<=sizeLine;decide),λS hS=>?_⟩);have s0:=aH hS<|.lst [];have Kg:(upd H S<|.lst []) S=some (.lst []):=aw;show Run _ _ _ [some<|.ref R,some<|.ref o,some<|.ref S,none,none,none] (upd H S<|.lst []);generalize upd H S (.lst [])=H0 at s0 Kg;refine ia (bz GP hr<|aq<|ae 0<|az ⟨R,as,n,rfl,hR.same s0,by omega,λN H1 s1 n1 eN=>⟨N,rfl,⟨_,ak.of eN⟩,?_⟩⟩);have nNS:N≠S:=λe=>by rw[e,Kg]at n1;cases n1
 refine ib (xs:=(bQ n).map V.str) (λi σ H'=>∃(us:List<|Addr×Addr×Addr) (st:cU) (u3 u4 u5:Option V),ah H H'/\H' N=some (Ls<|bQ n)/\gL H' S us st/\(∀ u∈us,u.2.1≠S/\u.2.2≠S)/\jV n i st/\σ=[some<|.ref R,some<|.ref o,some<|.ref S,u3,u4,u5]) ⟨[],[],_,_,_,s0.trans s1,eN,⟨s1 _ _ Kg,rfl,λi u s h=>by simp at h⟩,λu h=>(by cases h),jV.start n,rfl⟩ ?_ ?_ ?_
 ·rintro i σ H' _ ⟨_,_,_,_,_,_,eN,_⟩;exact ak.of eN
 ·rintro i x σ H2 hx ⟨us,st,u3,u4,u5,sm,T4,tJ,fS,I,rfl⟩;rw[Aj,Az]at hx;obtain⟨x,hx,rfl⟩:=hx;have F3:=As hx;have T5:=hR.same sm;have zI:=tJ.lst;refine a8 3 nd ?_;show Run _ _ _ [some<|.ref R,some<|.ref o,some<|.ref S,some<|.str x,u4,u5] H2;refine xK (bz GL hr<|aq<|ae 2<|aq<|cC<|aq<|ae 3<|az ⟨(by show 1<=sizeLine;decide),λA hA=>aq<|bz GO hr<|aq<|ae 0<|aq<|bz GC hr<|aq<|ae 0<|aq<|cC<|aq<|ae 3<|az ⟨(by show 1<=sizeLine;decide),λB hB=>?_⟩⟩);have sA:=aH hA<|.lst [.str x];have sB:=aH hB<|.lst [.str x];have eA:(upd H2 A<|.lst [.str x]) A=some (Ls [x]):=aw;have eB:(upd (upd H2 A<|.lst [.str x]) B<|.lst [.str x]) B=some (Ls [x]):=aw;have eA:=sB _ _ eA;have wM:=sA.trans sB;generalize upd (upd H2 A<|.lst [.str x]) B (.lst [.str x])=H3 at eA eB wM;refine az ⟨R,B,as,n,[x],rfl,T5.same wM,hT,by omega,g6,eB,λC cs H4 s4 n4 eC soC mC lC=>?_⟩;refine az ⟨R,C,as,n,cs,rfl,(T5.same wM).same s4,by omega,by omega,eC,λO zs H5 s5 n5 eO pO=>?_⟩;have wN:=T1 pO;rw[q5e hT mC]at wN;have T6:=s4.trans s5;have Kh:=wM.trans T6;refine az ⟨S,A,O,us,n,st,[x],zs,rfl,tJ.same Kh,I.cr,hn,T6 _ _ eA,eO,gK.start (Bf.mpr ⟨Ck,Ch⟩) (wN.nd hN) (λy hy=>by rw[Ae.mp hy];exact F3) wN.sub,λL p' o' cE bZ H6 s6 n6 eL e1 e2 f1 f2 lo=>?_⟩;have zJ:=Kh.trans s6;have T7:=sm.trans zJ;have Ki:=zJ _ _ zI;have T8:=Kh _ _ zI;have fp:p'≠S:=by
   rcases f1 with rfl | f1
   ·exact λe=>by rw[e,zI]at hA;cases hA
   ·exact λe=>by rw[e,T8]at f1;cases f1
  have fo:o'≠S:=by
   rcases f2 with rfl | f2
   ·exact λe=>by rw[e,s4 _ _<|wM _ _ zI]at n5;cases n5
   ·exact λe=>by rw[e,T8]at f2;cases f2
  refine jq rfl (aP.of eL) (a8 4 nd<|a8 5 nd ?_);show Run _ _ _ [some<|.ref R,some<|.ref o,some<|.ref S,some<|.str x,some<|.ref p',some<|.ref o'] H6;refine hV (Xe<|ae 5 (v:= .ref o') ⟨!bZ.isEmpty,Or.inl ⟨_,ak.of e2,by cases bZ <;> rfl⟩,?_⟩);have T9:=zJ _ _ T4;have wO:=tJ.same zJ;have lI:=I.len;have lN:=(Ac.mp hx).1;rw[Aa]at lN;cases bZ with
  | nil=>exact cO<|bb<|bb ⟨us,st,_,_,_,T7,T9,wO,fS,I.skip hN hx wN lo,rfl⟩
  | cons y l'=>
   refine cP (fX<|jj<|ae 2 ⟨S,rfl,⟨_,Ki⟩,dW<|aq<|ae 4<|aq<|ae 5<|az ⟨(by show 2<=sizeLine;decide),λt ht=>?_⟩⟩);have sT:=aH ht<|.tup [.ref p',.ref o'];have eT:(upd H6 t<|.tup [.ref p',.ref o']) t=some (.tup [.ref p',.ref o']):=aw;have tS:t≠S:=λe=>by rw[e,Ki]at ht;cases ht
   have hl:=tJ.len;generalize upd H6 t (.tup [.ref p',.ref o'])=H7 at sT eT;have wQ:=wO.same sT;refine⟨_,sT _ _ Ki,by rw[Aa];exact bS (by omega),bb<|bb ⟨us++[(t,p',o')],st++[(cE,y :: l')],_,_,_,dX (T7.trans sT) hS,by rw[ax nNS];exact sT _ _ T9,⟨?_,by rw[Ad,Ad,hl];rfl,λj u s hu hs=>?_⟩,λu hu=>?_,I.step hN hx wN lo (λe=>by cases e),rfl⟩⟩
   ·rw[aw,Ag];rfl
   ·by_cases hj:j < us.length
    ·rw[An hj]at hu;rw[An<|by omega]at hs;obtain⟨b1,b2,b3⟩:=wQ.at' j u s hu hs;obtain⟨g1,g2⟩:=fS u<|As hu;exact⟨by rw[ax<|ce b1 wQ.lst λz=>nomatch z];exact b1,by rw[ax g1];exact b2,by rw[ax g2];exact b3⟩
    ·rw[Am<|by omega]at hu hs;have eV:j - us.length=0:=by
      have:=(Ac.mp hu).1;simp at this;omega
     rw[eV]at hu;rw[<- hl,eV]at hs;cases hu;cases hs;exact⟨by rw[ax tS];exact eT,by rw[ax fp];exact sT _ _ e1,by rw[ax fo];exact sT _ _ e2⟩
   ·rcases Al.mp hu with k | k
    ·exact fS u k
    ·rw[Ae.mp k];exact⟨fp,fo⟩
 ·rintro σ H2 ⟨us,st,u3,u4,u5,sm,T4,tJ,fS,I,rfl⟩;rw[Aa,Aa]at I;refine bN (aY bK<|bz GL hr<|aq<|ae 2<|aq<|cC<|az ⟨(by show 0<=sizeLine;decide),λA hA=>aq<|ae 1<|az ?_⟩);have sA:=aH hA<|.lst [];have eA:(upd H2 A<|.lst []) A=some (Ls []):=aw;generalize upd H2 A (.lst [])=H3 at sA eA;refine⟨S,A,o,us,n,st,[],os,rfl,tJ.same sA,I.cr,hn,eA,sA _ _<|sm _ _ ho,gK.start Ch (hO.nd hN) (λy hy=>by cases hy) hO.sub,λL p' o' cE bZ H6 s6 n6 eL e1 e2 f1 f2 lo=>aC ⟨L,_,_,.ref p',rfl,rfl,aP.of eL,rfl,?_⟩⟩;exact q p' cE H6 ((sm.trans sA).trans s6) e1<|I.whole hN rQ hO lo
abbrev Ua:Ñ:=["rows","some","core","cut"]
abbrev wR:Ñ:=["rows","some","core","cut","tie"]
def wU:ao Ua ["rows","some"] (aT yl):=⟨rfl,rfl,rfl,by decide +kernel,rfl,by decide +kernel,by decide +kernel⟩
def q7m:wR.Nodup:=by decide +kernel
def k7z{f:Addr}{fd:FuncData}(F:bv K "parted" "parted" yl f fd)(T:Txt mg)(GK:aS P w K mg base 5 "cores_of" ["rows"] J9)(GC:aS P w K mg base 5 "cut_of" ["rows","points"] zC)(GB:aS P w K mg base 5 "points_by" ["rows","odds"] qX)(GO:aS P w K mg base 5 "odd_points" ["rows","some"] zE)(GM:aS P w K mg base 5 "summed" ["one","other"] zD):aE P w K mg base bD 6 f fd ["rows","some"] Kf:=by
 refine F.gb wU (λvs H Q E h=>?_) λb0 H vs Q E hr h=>?_
 ·obtain⟨R,p,as,n,ss,rfl,_⟩:=h;rfl
 obtain⟨R,p,as,n,ss,rfl,hR,hN,hT,hf,hn,g6,hp,hss,db,q1,q2⟩:=h;have nd:=wU.nd;have sK:=jN n;have Ru:=sG hT hss db;show Run _ _ _ [some<|.ref R,some<|.ref p,none,none] H;refine ia (bz GK hr<|aq<|ae 0<|az ⟨R,as,n,rfl,hR,hN,hT,by omega,g6,λC cu cs H1 s1 n1 hC nE fC=>⟨C,rfl,⟨_,ak.of hC.1⟩,?_⟩⟩);have hCl:=hC.2.1;have wl:(bh n).length<=(ends n).length:=yx n (ends n) [];have qT:=nU hT (ends n) [] λe he=>he;have lcs:=nE.len;refine ib (xs:=cu.map V.ref) (λi σ H'=>∃(u2:Option V),ah H1 H'/\(∀ c∈cs.take i,(c.filter λz=>ss.contains z).length % 2=0)/\σ=[some<|.ref R,some<|.ref p,u2,none]) ⟨_,ah.refl _,λc h=>(by rw[Fr]at h;cases h),rfl⟩ ?_ ?_ ?_
 ·rintro i σ H' _ ⟨_,sm,_⟩;exact ak.of<|sm _ _ hC.1
 ·rintro i x σ H2 hx ⟨u2,sm,jC,rfl⟩;rw[Aj,Az]at hx;obtain⟨u,hu,rfl⟩:=hx;have hi:i < cs.length:=by have:=(Ac.mp hu).1;omega
  have hc:=Ab hi;have jo:=hC.2.2 i u _ hu hc;have eU:cs[i]∈cs:=Bn hi;have jW:=Ab (show i < (bh n).length by omega);have wk:=qT _<|As jW;have cin:=zA wk.ends<|nE.mem i _ _ hc jW;have Ub:=nE.og _ eU;have qL:=wx hc;generalize cs[i]=c at hc jo eU cin Ub qL;have jh:=sG hT (ga Ub) cin;refine a8 2 nd ?_;show Run _ _ _ [some<|.ref R,some<|.ref p,some<|.ref u,none] H2;refine hV<|b8 i5<|aX cW<|cF dR T.len DX<|aq<|fY (aT yl) Ua wR 1 (dD bx)<|ae 2 ⟨u,rfl,⟨_,ak.of<|sm _ _ jo⟩,λD hD=>?_⟩;refine p9 (λz=>ss.contains z) (bS<|by omega) (sm _ _ jo) hD (λcl C s0 H0 ex v v0 H' R' h=>a8 4 q7m h) (λcl C s0 H0 ex z zs T' h=>jL<|b8 k4<|ae 4<|ae 1 ⟨p,_,rfl,.inl (ak.of<|by rw[ax<|bq (sm _ _<|s1 _ _ hp) hD];exact sm _ _<|s1 _ _ hp),rfl,iu _,_,rfl,?_⟩) (λcl C s0 H0 ex z H' R' h=>ae 4 h) ?_
  ·have fF:∀(x y:Bool),(if false=true then x else y)=y:=λ_ _=>rfl;rw[fF,iN];exact h
  have s2:=aH hD<|.lst<|(c.filter λz=>ss.contains z).map V.str;refine az ⟨D,_,rfl,.inl<|ak.of aw,aC ⟨_,_,rfl,rfl,(by show(0:Int) < 2;decide),aC ⟨rfl,_,rfl,?_⟩⟩⟩;generalize upd H2 D (.lst<|(c.filter λz=>ss.contains z).map V.str)=H3 at s2;rw[Aa]
  by_cases k:(c.filter λz=>ss.contains z).length % 2=1
  ·rw[BW<|BZ V.int<|by omega];refine cP (bN<|dW<|aq<|jc<|aq<|ae 2<|az ⟨(by show 2<=sizeLine;decide),λt ht=>?_⟩);have s3:=aH ht<|.tup [.str "odd",.ref u];have iX:=(s1.trans sm).trans s2;exact q1 t u c _ (iX.trans s3) (iX.free ht) (fC u<|As hu) aw (s3 _ _<|s2 _ _<|sm _ _ jo) ⟨cs,nE,eU⟩ k
  ·rw[BR λh=>k<|by have:=V.int.inj h;omega];refine cO<|bb<|bb ⟨_,sm.trans s2,λd hd=>?_,rfl⟩;rw[qL]at hd
   rcases Al.mp hd with h | h
   ·exact jC d h
   ·rw[Ae.mp h];omega
 ·rintro σ H2 ⟨u2,sm,jC,rfl⟩;rw[Aa,hCl,Br]at jC;have ec:qS n ss:=⟨cs,nE,jC⟩;have mZ:=s1.trans sm;refine aW 3 nd (bz GC hr<|aq<|ae 0<|aq<|bz GB hr<|aq<|ae 0<|aq<|bz GO hr<|aq<|ae 0<|aq<|ae 1<|az ⟨R,p,as,n,ss,rfl,hR.same mZ,by omega,by omega,mZ _ _ hp,λO os H3 s3 n3 eO pO=>?_⟩);have iX:=mZ.trans s3;refine az ⟨R,O,as,n,os,_,rfl,hR.same iX,hN,hT,hn,g6,eO,T1 pO,q0r hT hf ec,λA ps H4 s4 eA rO=>?_⟩;have Kj:=iX.trans s4;refine az ⟨R,A,as,n,ps,rfl,hR.same Kj,hT,by omega,g6,eA,λM ms H5 s5 n5 eM jX mM lM=>?_⟩;have Kk:=Kj.trans s5;show Run _ _ _ [some<|.ref R,some<|.ref p,u2,some<|.ref M] H5;have hml:=sG hT (ga jX) λz hz=>lz<|(mM z).mp hz;refine bN (dW<|aq<|jc<|aq<|bz GM hr<|aq<|ae 1<|aq<|ae 3<|az ⟨p,M,ss,ms,rfl,Kk _ _ hp,eM,by omega,λL rs H6 s6 n6 eL sL nL mL=>aq<|ae 3<|az ⟨(by show 3<=sizeLine;decide),λt ht=>?_⟩⟩);have Uc:=Kk.trans s6;have s7:=aH ht<|.tup [.str "parts",.ref L,.ref M];exact q2 t L M rs ms ps _ (Uc.trans s7) (Uc.free ht) (Kk.free n6) (Kj.free n5) (λe=>by rw[e,eM]at n6;cases n6) aw (s7 _ _ eL) (s7 _ _<|s6 _ _ eM) ec (yH sL nL) jX (k1m hT rO mM mL) mM mL
end
end E7
namespace L2
open PySem PySem.Spec PyProof.Rows
section
variable{X:Cx}{tg:Expr}
end
section
variable{X:Cx}{elt tg iter:Expr}{ifs:Ô}{scope:Scope}{pos:Pos}{N':Ñ}{n:Nat}{wi:TI}{g:TG}{tc:TT}{te:TE}
end
section
variable{X:Cx}{elt tg iter c:Expr}{ifs:Ô}{scope:Scope}{pos p:Pos}{wi:TI}{σ:St}{H:Hp}{Q:VK}{T:Bool->Hp->Prop}{rest:Õ}{D:Ends}
end
section
variable{X:Cx}{k:Nat}{ps:Ñ}{sp:Addr->Obj->Sp}{E:XK}{x:Str}{p pos:Pos}{e:Expr}{es:Ô}{σ:St}{H:Hp}{Q:VK}
end
end L2
namespace E7
open PySem L2 Nt bw bA
open PyProof.Rows (sortedS)
def qY:Sp:=λvs H Q _=>∃(R:Addr) (as:Ï) (n:Net),vs=[.ref R]/\ai H R as n/\n.length<=1000/\(ag n).length<=900/\(∀ zs:Ñ,zs.Nodup->(∀ z∈zs,z∈ag n)->zs.length < 64) /\
 ∀(L:Addr) (ss:Ñ) (H':Hp),ah H H'->H L=none->H' L=some (Ls ss)->ss.Nodup->sortedS ss=true->(∀ z,z∈ss↔z∈ag n)->Q (.ref L) H'
def k19{zs:Ñ}{z:Str}(h:zs.Nodup):(added zs z).Nodup:=by
 unfold added
 split
 ·exact h
 ·rename_i hz;exact pk h hz
def k6v{zs:Ñ}{z y:Str}:y∈added zs z↔y∈zs\/y=z:=by
 unfold added
 split
 ·rename_i hz;refine⟨.inl,λh=>h.elim id λe=>?_⟩;rw[e];exact hz
 ·rw[Al,Ae]
def Ud{n:Net}{r:Nat}(h:r < n.length):ag (n.take<|r+1)=ag (n.take r)++row n r:=by
 rw[ko h];unfold ag;rw[Cb,Ab h,Cr];simp
def da:Ñ:=["NoTie"]
structure Cl(K:PySem.W.Frag)(mg:Ò)(c:Str->Addr):Prop where
 net:mg "NetError" = some (.ref<|c "NetError")
 x0G:XC K<|c "NetError"
 at':∀ x∈da,mg x=some (.ref<|c x)/\XC K (c x)/\SE K (c x) (c "NetError")=true/\SF K (c x)=true/\PySem.W.kitOne K (.ref<|c x) (.type "ValueError")=some true
 kit:∀ x∈da,∀ y∈da,PySem.W.kitOne K (.ref<|c x) (.ref<|c y)=some (decide (x=y))
def jI(K:PySem.W.Frag)(x:Str):Addr:=match PySem.W.nsIn K mainGlobals x with
 | some (some<|.ref a)=>a
 | _=>0
def Kl(K:PySem.W.Frag):Bool:=(PySem.W.nsIn K mainGlobals "NetError" == some (some<|.ref<|jI K "NetError")) && PySem.W.excIn K (jI K "NetError") mV "ValueError.__new__" &&
 da.all λx=>(PySem.W.nsIn K mainGlobals x == some (some<|.ref<|jI K x)) && PySem.W.excIn K (jI K x) mV "ValueError.__new__" && SE K (jI K x) (jI K "NetError") && SF K (jI K x) && (PySem.W.kitOne K (.ref<|jI K x) (.type "ValueError") == some true) &&
  da.all λy=>PySem.W.kitOne K (.ref<|jI K x) (.ref<|jI K y) == some (decide (x=y))
def x0n{K:PySem.W.Frag}{h:Heap}{mg:Ò}(X:K.In h)(G:h.Ns mainGlobals mg)(q:Kl K=true):Cl K mg (jI K):=by
 unfold Kl at q;simp only[By,Eb,HX]at q;obtain⟨⟨q1,q2⟩,q3⟩:=q;exact⟨KR X G q1,q2,λx hx=>by obtain⟨⟨⟨⟨⟨a1,a2⟩,a3⟩,a4⟩,a5⟩,_⟩:=q3 x hx;exact⟨KR X G a1,a2,a3,a4,a5⟩,λx hx y hy=>(q3 x hx).2 y hy⟩
def Ue(n:Net):Prop:=∀ zs:Ñ,zs.Nodup->(∀ z∈zs,z∈ag n)->zs.length < 64
def Km(c:Str->Addr):Sp:=λvs H Q E=>∃(R:Addr) (as:Ï) (n:Net) (z:Str),vs=[.ref R,.str z]/\ai H R as n/\n.length<=1000/\(ag n).length<=900/\Ue n /\
 (z∉ag n->∀ H',ah H H'->E (.ref<|c "NoTie") none H')/\(z∈ag n->∀ H',ah H H'->Q .non H')
section
variable{P:Program}{w:World}{K:PySem.W.Frag}{mg:Ò}{base:Heap}
abbrev wV:Ñ:=["rows"]
abbrev wW:Ñ:=["rows","point","ties","tie"]
def kS:ao wV ["rows"] (aT yi):=⟨rfl,rfl,rfl,by decide +kernel,rfl,by decide +kernel,by decide +kernel⟩
def Kn:wW.Nodup:=by decide +kernel
def q62{f:Addr}{fd:FuncData}(F:bv K "ties_of" "ties_of" yi f fd)(T:Txt mg):aE P w K mg base bD 1 f fd ["rows"] qY:=by
 refine F.gb kS (λvs H Q E h=>?_) λb0 H vs Q E hr h=>?_
 ·obtain⟨R,as,n,rfl,_⟩:=h;rfl
 obtain⟨R,as,n,rfl,hR,hn,ht,cm,q⟩:=h;have nd:=kS.nd;have bF:=hR.len;have sub:∀(zs:Ñ) (r:Nat) (ys:Ñ),zs.Nodup->(∀ z,z∈zs->z∈ag n)->zs.length < 64:=λzs r ys h1 h2=>cm zs h1 h2;have Ko:∀ r,r < n.length->∀ z,z∈ag (n.take r)\/z∈row n r->z∈ag n:=λr qi z hz=>by
  have e:ag n=ag (n.take<|r+1)++ag (n.drop<|r+1):=by
   unfold ag;rw[<- Cr,Dk]
  rw[e,Ud qi]
  rcases hz with h | h <;> simp[h]
 show Run _ _ _ [some<|.ref R] H;refine bN<|cF (Ov rfl) T.sorted DY<|aq<|k73 (aT yi) wV wW 3 (dD bx)<|ae 0 ⟨R,rfl,⟨_,ak.of hR.lst⟩,λD hD cl C s₀ H₀ ex=>?_⟩;refine vE (xs:=as.map λa=>V.ref a.1) (λr σ' H'=>(∃ v1 v2 v3,σ'=[some<|.ref R]++[v1,v2,v3])/\∃ zs:Ñ,ah H H'/\H' D=some (bf P w D zs)/\zs.Nodup/\∀ z,z∈zs↔z∈ag (n.take r)) ⟨⟨none,none,none,rfl⟩,[],aH hD _,aw,Ch,λz=>Iff.rfl⟩ ?_ ?_ ?_
 ·rintro r σ' H' _ ⟨_,zs,sm,_⟩;exact ak.of<|sm _ _ hR.lst
 ·rintro r x σ' H' hx ⟨⟨v1,v2,v3,rfl⟩,zs,sm,eD,zn,zm⟩;have hi:r < n.length:=by
   have:=(Ac.mp hx).1;rw[Aa]at this;omega
  obtain⟨a,ea,dY,et,el,er⟩:=(hR.same sm).at hi;rw[Aj,ea]at hx;cases hx;refine jq rfl (aP.of et) (a8 1 Kn<|a8 2 Kn ?_);refine iF ?_;rw[BL rfl];refine k63 rfl rfl (dD bx) (ae 2 ⟨a.2,rfl,⟨_,ak.of el⟩,?_⟩);have naD:a.2≠D:=ce el eD λz=>nomatch z;refine vE (xs:=(row n r).map V.str) (λp σ' bT=>(∃ v3,σ'=[some<|.ref R]++[some<|.str n[r].1,some<|.ref a.2,v3])/\∃ zs:Ñ,(∀ b o,b≠D->H' b=some o->bT b=some o)/\bT D=some (bf P w D zs)/\zs.Nodup/\∀ z,z∈zs↔z∈ag (n.take r)\/z∈(row n r).take p)
   ⟨⟨_,rfl⟩,zs,λb o _ h=>h,eD,zn,λz=>by rw[zm z];simp⟩ ?_ ?_ ?_
  ·rintro p σ' bT _ ⟨_,zs,kb,_⟩;exact ak.of<|kb _ _ naD el
  ·rintro p x σ' bT hx ⟨⟨v3,rfl⟩,zs,kb,ix,zK,zL⟩;rw[Aj,Az]at hx;obtain⟨z,hz,rfl⟩:=hx;refine a8 3 Kn ?_;refine iF ?_;rw[BL rfl];have hl:zs.length < 64:=cm zs zK λy hy=>Ko r hi y<|((zL y).mp hy).imp id λh=>List.mem_of_mem_take h;refine k9c (ae 3 ⟨z,zs,rfl,ix,by omega,⟨_,rfl⟩,added zs z,λb o hb h=>by rw[ax hb];exact kb b o hb h,aw,k19 zK,λy=>?_⟩);rw[k6v,zL y,Cb,hz,or_assoc];simp
  ·rintro σ' bT ⟨⟨v3,rfl⟩,zs,kb,ix,zK,zL⟩;refine⟨⟨_,_,_,rfl⟩,zs,λb o h=>kb b o (bq h hD)<|sm _ _ h,ix,zK,λz=>?_⟩;rw[zL z,Aa,Br,Ud hi,Al]
 ·rintro σ' H' ⟨_,zs,sm,eD,zn,zm⟩;rw[Aa,bF,Br]at zm;refine az ⟨D,zs,rfl,eD,cm zs zn λy hy=>(zm y).mp hy,λl ss hl hp hs=>?_⟩;exact q l ss _ (sm.trans<|aH hl _) (iT sm hl) aw (hp.nodup_iff.mpr zn) hs λz=>by rw[hp.mem_iff,zm z]
abbrev NNd:Ñ:=["rows","tie"]
def kU:ao NNd ["rows","tie"] (aT EF):=⟨rfl,rfl,rfl,by decide +kernel,rfl,by decide +kernel,by decide +kernel⟩
def q6z{f:Addr}{fd:FuncData}{c:Str->Addr}(F:bv K "need_tie" "need_tie" EF f fd)(T:Txt mg)(cl:Cl K mg c)(GT:aS P w K mg base 1 "ties_of" ["rows"] qY):aE P w K mg base (XF P w) 2 f fd ["rows","tie"] (Km c):=by
 refine F.gx kU (λvs H Q E h=>?_) λb0 H vs Q hr h=>?_
 ·obtain⟨R,as,n,z,rfl,_⟩:=h;rfl
 obtain⟨R,as,n,z,rfl,hR,hn,ht,cm,qE,qQ⟩:=h;have nd:=kU.nd;have mN:("NoTie" : Str)∈da:=by decide
 show Run _ _ _ [some<|.ref R,some<|.str z] H;refine hV<|b8 xx<|ae 1<|bz GT hr<|aq<|ae 0<|az ⟨R,as,n,rfl,hR,hn,ht,cm,λL ss H1 s1 n1 e1 snd so mem=>⟨L,_,rfl,.inl<|ak.of e1,rfl,iu _,_,rfl,?_⟩⟩;rw[BL rfl,iN,tD]
 by_cases hz:z∈ag n
 ·rw[BW<|(mem z).mpr hz];exact cO<|bb<|bb<|qQ hz _ s1
 ·rw[BR λk=>hz<|(mem z).mp k];refine cP<|k71 rzX (cl.at' _ mN).1 (cl.at' _ mN).2.1 rfl (aq<|jc<|az ⟨(by show 1<=sizeLine;decide),qE hz _ s1⟩)
open PyProof.Rows (sortedS)
open Classical
def Kq(c:Str->Addr):Sp:=λvs H Q E=>∃(R:Addr) (as:Ï) (n:Net) (z:Str),vs=[.ref R,.str z]/\ai H R as n/\(bQ n).Nodup/\av n/\HR n/\0 < n.length/\n.length<=31/\(ag n).length<=60 /\
 (z∉ag n->∀ H',ah H H'->E (.ref<|c "NoTie") none H')/\(z∈ag n->∀(t L:Addr) (w:Str) (ss:Ñ) (H':Hp),ah H H'->H t=none->H L=none->H' t=some (.tup [.str w,.ref L])->H' L=some (Ls ss)->tE n z w ss->Q (.ref t) H')
abbrev NKi:Ñ:=["rows","tie","told"]
def wX:ao NKi ["rows","tie"] (aT EK):=⟨rfl,rfl,rfl,by decide +kernel,rfl,by decide +kernel,by decide +kernel⟩
def q55{f:Addr}{fd:FuncData}{c:Str->Addr}(F:bv K "kind_of" "kind_of" EK f fd)(T:Txt mg)(cl:Cl K mg c)(GN:fM P w K mg base 7 "need_tie" ["rows","tie"]<|Km c)(GP:aS P w K mg base 7 "parted" ["rows","some"] Kf) :
  aE P w K mg base (XF P w) 8 f fd ["rows","tie"] (Kq c):=by
 refine F.gx wX (λvs H Q E h=>?_) λb0 H vs Q hr h=>?_
 ·obtain⟨R,as,n,z,rfl,_⟩:=h;rfl
 obtain⟨R,as,n,z,rfl,hR,hN,hT,hf,h0,hn,g6,qE,qQ⟩:=h;have nd:=wX.nd;have few:Ue n:=λzs h1 h2=>by have:=bg h1 h2;omega
 show Run _ _ _ [some<|.ref R,some<|.str z,none] H;refine fX (SD GN hr x0x<|aq<|ae 0<|aq<|ae 1<|az ⟨R,as,n,z,rfl,hR,by omega,by omega,few,λhz=>qE hz,λhz H1 s1=>?_⟩);refine aW 2 nd (bz GP hr<|aq<|ae 0<|aq<|cC<|aq<|ae 1<|az ⟨(by show 1<=sizeLine;decide),λA hA=>?_⟩);have sA:=aH hA<|.lst [.str z];have eA:(upd H1 A<|.lst [.str z]) A=some (Ls [z]):=aw;generalize upd H1 A (.lst [.str z])=H2 at sA eA;have s2:=s1.trans sA;refine az ⟨R,A,as,n,[z],rfl,hR.same s2,hN,hT,hf,hn,g6,eA,Bf.mpr ⟨Ck,Ch⟩,λy hy=>by rw[Ae.mp hy];exact hz,λt L c H3 s3 nt nL et eL ⟨cs,C,hc⟩ sg=>?_,λt L M rs cs ps H3 s3 nt nL nM hLM et eL eM ec qU jX jC eY hx=>?_⟩
 ·show Run _ _ _ [some<|.ref R,some<|.str z,some<|.ref t] H3;refine hV<|b8 i5<|aY bK<|ae 2<|aC ⟨t,_,_,.str "odd",rfl,rfl,aP.of et,rfl,jc ⟨rfl,_,rfl,?_⟩⟩;rw[BW rfl];refine cP (bN<|dW<|aq<|jc<|aq<|aY bK<|ae 2<|aC ⟨t,_,_,.ref L,rfl,rfl,aP.of et,rfl,az ⟨(by show 2<=sizeLine;decide),λu hu=>?_⟩⟩);have su:=aH hu<|.tup [.str "double",.ref L];have iX:=s2.trans s3;exact qQ hz u L "double" c _ (iX.trans su) (iX.free hu) (s2.free nL) aw (su _ _ eL)<|q1g hT hf hN h0 C hc sg
 ·show Run _ _ _ [some<|.ref R,some<|.str z,some<|.ref t] H3;refine hV<|b8 i5<|aY bK<|ae 2<|aC ⟨t,_,_,.str "parts",rfl,rfl,aP.of et,rfl,jc ⟨rfl,_,rfl,?_⟩⟩;rw[BR<|by decide];refine cO<|bb<|bN<|Xc<|b8 k4<|ae 1<|aY bK<|ae 2<|aC ⟨t,_,_,.ref M,rfl,rfl,aP.of et,rfl,M,_,rfl,.inl<|ak.of eM,rfl,iu _,_,rfl,?_⟩;have fF:∀(x y:Bool),(if false=true then x else y)=y:=λ_ _=>rfl;rw[fF,iN,tD];have iX:=s2.trans s3
  by_cases k:z∈cs
  ·rw[BW k];refine cP (dW<|aq<|jc<|aq<|aY bK<|ae 2<|aC ⟨t,_,_,.ref M,rfl,rfl,aP.of et,rfl,az ⟨(by show 2<=sizeLine;decide),λu hu=>?_⟩⟩);have su:=aH hu<|.tup [.str "cut",.ref M];exact qQ hz u M "cut" cs _ (iX.trans su) (iX.free hu) (s2.free nM) aw (su _ _ eM)<|q4u hT h0 ec qU jX jC eY hx k
  ·rw[BR k];refine cO (dW<|aq<|jc<|aq<|aY bK<|ae 2<|aC ⟨t,_,_,.ref L,rfl,rfl,aP.of et,rfl,az ⟨(by show 2<=sizeLine;decide),λu hu=>?_⟩⟩);have su:=aH hu<|.tup [.str "round",.ref L];exact qQ hz u L "round" rs _ (iX.trans su) (iX.free hu) (s2.free nL) aw (su _ _ eL)<|k7e hT h0 hz ec qU jX jC eY hx k
end
end E7
namespace Nt
open PySem L2
section
variable{n:Net}{z:Str}{r k:Nat}
def aG:Ñ->Str->Nat
 | [],_=>0
 | y :: ys,z=>if y=z then 0 else aG ys z+1
theorem Ug:∀{zs:Ñ},z∈zs->zs[aG zs z]?=some z/\z∉zs.take (aG zs z)
 | [],h=>nomatch h
 | y :: ys,h=>by
  unfold aG
  by_cases e:y=z
  ·rw[BL e];exact⟨by rw[e];rfl,by simp⟩
  ·rw[BK e];obtain⟨h1,h2⟩:=Ug (zs:=ys) (by
    rcases Ak.mp h with q | q
    ·exact absurd q.symm e
    ·exact q)
   refine⟨h1,λq=>?_⟩;rw[List.take_succ_cons]at q
   rcases Ak.mp q with q | q
   ·exact e q.symm
   ·exact h2 q
end
structure jY(H0 H:Hp)(D:Addr)(bs:Ï)(m:Net):Prop where
 rows:ai H D bs m
 new:∀ a∈bs,H0 a.1=none/\H0 a.2=none
 nD:∀ a∈bs,a.1≠D/\a.2≠D
def jY.same{H0 H H':Hp}{D:Addr}{bs:Ï}{m:Net}(b:jY H0 H D bs m)(s:ah H H'):jY H0 H' D bs m:=⟨b.rows.same s,b.new,b.nD⟩
def jY.nil{H0 H:Hp}{D:Addr}(h:H D=some (.lst [])):jY H0 H D [] []:=⟨⟨rfl,h,λi a r h=>(by simp at h),Ch⟩,λa h=>(by simp at h),λa h=>(by simp at h)⟩
def jY.iY{H0 H:Hp}{D:Addr}{bs:Ï}{m:Net}(b:jY H0 H D bs m){a:Addr×Addr}(h:a∈bs):H a.1≠none/\H a.2≠none:=by
 obtain⟨i,hi⟩:=Bm h;have hl:=(Ac.mp hi).1;have:=b.rows.len;obtain⟨q1,q2⟩:=b.rows.tup i a _ hi (Ab<|by omega);exact⟨by rw[q1];simp,by rw[q2];simp⟩
def jY.add{H0 H:Hp}{D t l:Addr}{bs:Ï}{m:Net}{p:Str}{zs:Ñ}(b:jY H0 H D bs m)(hl:H l=some (Ls zs))(l0:H0 l=none)(ln:l∉bs.map (·.2))(nl:l≠D)(ht:H t=none)(t0:H0 t=none) :
  jY H0 (upd (upd H t<|.tup [.str p,.ref l]) D<|.lst<|(bs.map λa=>V.ref a.1)++[.ref t]) D (bs++[(t,l)]) (m++[(p,zs)]):=by
 have vt:t≠D:=λe=>by rw[e,b.rows.lst]at ht;cases ht
 have yR:t≠l:=λe=>by rw[e,hl]at ht;cases ht
 have len:=b.rows.len;have keep:∀ x o,x≠D->H x=some o->(upd (upd H t<|.tup [.str p,.ref l]) D<|.lst<|(bs.map λa=>V.ref a.1)++[.ref t]) x=some o:=λx o h1 h2=>by
  rw[ax h1,ax<|bq h2 ht];exact h2
 refine⟨⟨by rw[Ad,Ad,len];rfl,by rw[aw,Ag];rfl,λi a r h1 h2=>?_,?_⟩,λa ha=>?_,λa ha=>?_⟩
 ·by_cases hi:i < bs.length
  ·rw[An hi]at h1;rw[An<|by omega]at h2;have nn:=b.nD a<|As h1;obtain⟨q1,q2⟩:=b.rows.tup i a r h1 h2;exact⟨keep _ _ nn.1 q1,keep _ _ nn.2 q2⟩
  ·rw[Am<|by omega]at h1;rw[Am<|by omega]at h2;have e:i - bs.length=0:=by
    have:=(Ac.mp h1).1;simp at this;omega
   rw[e]at h1;rw[<- len,e]at h2;cases h1;cases h2;exact⟨by rw[ax vt,aw],keep _ _ nl hl⟩
 ·rw[Ag];refine Bt.mpr ⟨b.rows.inj,by simp,λx hx y hy e=>?_⟩;have hy:=Ae.mp hy;exact ln<|by rw[<- show y=l from hy,<- e];exact hx
 ·rcases Al.mp ha with h | h
  ·exact b.new a h
  ·rw[Ae.mp h];exact⟨t0,l0⟩
 ·rcases Al.mp ha with h | h
  ·exact b.nD a h
  ·rw[Ae.mp h];exact⟨vt,nl⟩
open Classical
def jn(a:Net)(L:Ñ)(z:Str):Net:=a.map λr=>(r.1,if z∈r.2 then r.2.take (aG r.2 z)++(L.drop (aG L z+1)++L.take (aG L z))++r.2.drop (aG r.2 z+1)else r.2)
theorem Uh{A B:Ñ}{z:Str}(h:z∉A):aG (A++z :: B) z=A.length:=by
 induction A with
 | nil=>show(if z=z then 0 else _)=0;rw[BL rfl]
 | cons y A ih=>
  show(if y=z then 0 else aG (A++z :: B) z+1)=_;rw[BK (λk=>h<|by rw[k];exact Af),ih λk=>h<|Ah _ k];rfl
def Ui{L:Ñ}{z:Str}(h:L.count z=1):∃ A B,L=A++z :: B/\z∉A/\z∉B:=by
 have hm:z∈L:=Bs.mp (by omega);obtain⟨A,B,rfl⟩:=El hm;rw[Cq,Gr]at h;exact⟨A,B,rfl,λk=>by have:=Bs.mpr k;omega,λk=>by have:=Bs.mpr k;omega⟩
theorem Uj:∀{a:Net} {z:Str},(ag a).count z=1->∃ a1 q P S a2,a=a1++(q,P++z :: S) :: a2/\z∉P/\z∉S/\(∀ r∈a1,z∉r.2)/\∀ r∈a2,z∉r.2
 | [],z,h=>by cases h
 | r :: a,z,h=>by
  have h:(r.2++ag a).count z=1:=h;rw[Cq]at h
  by_cases c:z∈r.2
  ·have c1:=Bs.mpr c;obtain⟨P,S,e,hP,hS⟩:=Ui (show r.2.count z=1 by omega);refine⟨[],r.1,P,S,a,by rw[<- e];rfl,hP,hS,λx hx=>(by cases hx),λx hx k=>?_⟩;have:0 < (ag a).count z:=Bs.mpr<|Dh.mpr ⟨x,hx,k⟩;omega
  ·rw[Dr c,Er]at h;obtain⟨a1,q,P,S,a2,e,hP,hS,h1,h2⟩:=Uj h;exact⟨r :: a1,q,P,S,a2,by rw[e];rfl,hP,hS,λx hx=>by
    rcases Ak.mp hx with rfl | hx
    ·exact c
    ·exact h1 x hx,h2⟩
def x0o{a1 a2:Net}{q z:Str}{P S A B:Ñ}(hP:z∉P)(hA:z∉A)(h1:∀ r∈a1,z∉r.2)(h2:∀ r∈a2,z∉r.2):jn (a1++(q,P++z :: S) :: a2) (A++z :: B) z=jS a1 a2 q P S A B:=by
 have id':∀{a:Net},(∀ r∈a,z∉r.2)->jn a (A++z :: B) z=a:=λ{a} h=>by
  unfold jn
  conv=>rhs;rw[<- List.map_id a]
  exact Aq λr hr=>by rw[BK<|h r hr];rfl
 have ap:jn (a1++(q,P++z :: S) :: a2) (A++z :: B) z=jn a1 (A++z :: B) z++((q,(P++z :: S).take (aG (P++z :: S) z)++((A++z :: B).drop (aG (A++z :: B) z+1)++(A++z :: B).take (aG (A++z :: B) z))++(P++z :: S).drop (aG (P++z :: S) z+1)) :: jn a2 (A++z :: B) z):=by
  unfold jn;rw[Ag,Bj,BL<|by simp]
 rw[ap,id' h1,id' h2,Uh hP,Uh hA];have d:∀(X Y:Ñ),(X++z :: Y).drop (X.length+1)=Y:=λX Y=>by
  rw[List.drop_append,SN (by omega),show X.length+1 - X.length=1 by omega];rfl
 have t:∀(X Y:Ñ),(X++z :: Y).take X.length=X:=λX Y=>by
  rw[List.take_append,Br,Ed,Fr,Bh]
 rw[d,d,t,t,At,At]
def x1b{a:Net}{nm z:Str}{L:Ñ}(T:av<|a++[(nm,L)]) (hN:((a++[(nm,L)]).map (·.1)).Nodup) (hr:HR<|a++[(nm,L)]) (hz:L.count z=1):av (jn a L z)/\((jn a L z).map (·.1)).Nodup/\HR (jn a L z)/\(ag<|jn a L z).length<=(ag<|a++[(nm,L)]).length:=by
 have et:ag (a++[(nm,L)])=ag a++L:=by
  show(a++[(nm,L)]).flatMap (·.2)=_;rw[Cr];simp[ag]
 have hzm:z∈ag (a++[(nm,L)]):=by rw[et];exact Aw _<|Bs.mp<|by omega
 have h2:=T z hzm;rw[et,Cq,hz]at h2;obtain⟨A,B,rfl,hA,hB⟩:=Ui hz;obtain⟨a1,q,P,S,a2,rfl,hP,hS,k1,k2⟩:=Uj (show(ag a).count z=1 by omega);have eb:(a1++(q,P++z :: S) :: a2)++[(nm,A++z :: B)]=jB a1 a2 q nm z P S A B:=by simp[jB]
 rw[eb]at T hN hr ⊢;rw[x0o hP hA k1 k2];obtain⟨Uk,T'⟩:=k4x T;refine⟨T',k5p hN,⟨k5u Uk hN hr.1,q48 T T' Uk hr.2⟩,?_⟩;rw[fk.length_eq];show _<=(ag _).length+1+1;omega
def q0c{a:Net}{nm:Str}{L:Ñ}(T:av<|a++[(nm,L)]) (hN:((a++[(nm,L)]).map (·.1)).Nodup) (h:c9<|a++[(nm,L)]) (ha:a≠[]):∃ z∈L,L.count z=1:=by
 refine DN λno=>?_;have et:ag (a++[(nm,L)])=ag a++L:=by
  show(a++[(nm,L)]).flatMap (·.2)=_;rw[Cr];simp[ag]
 obtain⟨r,a',rfl⟩:∃ r a',a=r :: a':=by
  cases a with
  | nil=>exact absurd rfl ha
  | cons r a'=>exact⟨r,a',rfl⟩
 have hl:(nm,L)∈(r :: a')++[(nm,L)]:=by simp
 have key:=h (λx=>x=nm) ⟨_,hl,rfl⟩ (λb hb c hc t h1 h2 eb=>?_) r<|by simp
 ·rw[Ag,Bt]at hN;exact hN.2.2 r.1 (by simp) nm (by simp) key
 ·rcases Al.mp hb with hb | hb
  ·rw[Ag,Bt]at hN;exact absurd eb<|hN.2.2 b.1 (Ap.mpr ⟨b,hb,rfl⟩) nm<|by simp
  ·rw[Ae.mp hb]at h1
   rcases Al.mp hc with hc | hc
   ·exfalso
    have m1:0 < (ag<|r :: a').count t:=Bs.mpr<|Dh.mpr ⟨c,hc,h2⟩;have m2:=Bs.mpr (show t∈L from h1);have m3:=T t (by rw[et];exact Aw _ h1);rw[et,Cq]at m3;exact no ⟨t,h1,by omega⟩
   ·rw[Ae.mp hc]
end Nt
namespace L2
open PySem Nt
section
variable{X:Cx}{elt tg:Expr}{ifs:Ô}{scope:Scope}{σ:St}{H:Hp}{N':Ñ}{A:Addr}{after:Hp->Prop}
end
section
variable{X:Cx}{σ:St}{H:Hp}{Q:VK}{o e e1:Expr}{pos p1 p2 p3 p4:Pos}{j1:Nat}
def Ul{a:Addr}{zs:Ñ}{i:Nat}(ha:H a=some (Ls zs))(ho:∀ R:VK,R (.ref a) H->Ev X o σ H R)(he:∀ R:VK,R (.int (i:Int)) H->Ev X e σ H R) (h:∀ p,H p=none->Q (.ref p) (upd H p<|Ls<|zs.take i)):Ev X (.Subscript o (.Slice none (some e) none p2) pos) σ H Q:=by
 refine rE rz<|ho _<|rF<|rG<|he _ ⟨_,rfl,a,_,rfl,ak.of ha,λp hp=>?_⟩;rw[O2];exact h p hp
def Um{a:Addr}{zs:Ñ}{i:Nat}(ha:H a=some (Ls zs))(ho:∀ R:VK,R (.ref a) H->Ev X o σ H R)(he:∀ R:VK,R (.int (i:Int)) H->Ev X e σ H R) (h:∀ p,H p=none->Q (.ref p) (upd H p<|Ls<|zs.drop<|i+1)):Ev X (.Subscript o (.Slice (some<|.BinOp e .Add (.Constant (.int 1) j1 p3) p4) none none p2) pos) σ H Q:=by
 refine rE rz<|ho _<|rG<|aX gg<|he _<|aC ⟨_,_,rfl,rfl,_,rfl,rF ⟨a,_,rfl,ak.of ha,λp hp=>?_⟩⟩;rw[show((i:Int)+1)=((i+1:Nat):Int) by omega,O1];exact h p hp
def Kr{p q:Addr}{ys zs:Ñ}(hp:H p=some (Ls ys))(hq:H q=some (Ls zs))(hl:ys.length+zs.length<=100000) (h:∀ r,H r=none->Q (.ref r) (upd H r<|Ls<|ys++zs)):uh (.ref p) (.ref q) H Q:=by
 refine⟨p,q,_,_,rfl,rfl,hp,hq,?_,λr hr=>?_⟩
 ·rw[Aa,Aa,DW];omega
 ·rw[<- Ag];exact h r hr
def Uo{a:Addr}{zs:Ñ}{z:Str}{ap:Pos}(ha:H a=some (Ls zs))(hz:z∈zs)(hl:zs.length<=1000)(ho:∀ R:VK,R (.ref a) H->Ev X o σ H R)(he:∀ R:VK,R (.str z) H->Ev X e σ H R)(h:Q (.int (aG zs z:Int)) H)
  (bW:attributeBase o "index" X.env (eval o X.env)=eval o X.env:=by rfl)
  (cm:((backTo pos<|starEach [e] X.env).all (λx=>!x.1) && (backToKw pos<|keywordEach [] X.env).all (λx=>x.1.isSome) && decide ([e].length+([]:List Keyword).length+(if([]:List Keyword).isEmpty then 0 else 1) < 30))=true:=by rfl)
  (hline:(ap.endLine == pos.line)=true:=by rfl) (hs:starEach [e] X.env=(false,eval e X.env) :: starEach [] X.env:=by rfl) (bM:(backTo pos<|starEach [] X.env).any (·.1)=false:=by rfl) (db:isStar e=false:=by rfl):Ev X (.Call (.Attribute o "index" ap) [e] [] pos) σ H Q:=by
 obtain⟨h1,h2⟩:=Ug hz;have h3:=(Ac.mp h1).1;exact rT DK RN PySem.F.type_list_index q2i (ho _ ⟨Or.inl ⟨rfl,_,ak.of ha⟩,he _ ⟨a,zs,z,aG zs z,rfl,rfl,ak.of ha,h1,h2,by omega,h⟩⟩) bW cm hline hs bM db
end
end L2
namespace E7
open PySem L2 Nt bw bA
open PyProof.Rows (sortedS)
open Classical
def Ks:Sp:=λvs H Q _=>∃(R:Addr) (as:Ï) (a:Net) (nm z:Str) (L:Ñ),vs=[.ref R,.str z]/\ai H R as (a++[(nm,L)])/\z∈L/\a.length<=60/\(ag<|a++[(nm,L)]).length<=60/\∀ D bs H',ah H H'->ai H' D bs (jn a L z)->Q (.ref D) H'
def q1e{α:Type}(f:α->V)(xs:List α)(x:α):bO ((xs++[x]).map f) none (some (-1))=xs.map f:=by
 unfold bO;rw[HT.cN,List.drop_zero,RD];have:HT.fU ((xs++[x]).map f).length ((xs++[x]).map f).length (some (-1))=xs.length:=by
  show(if(-1:Int) < 0 then((-1:Int)+(((xs++[x]).map f).length:Int)).toNat else min (-1:Int).toNat ((xs++[x]).map f).length)=xs.length;rw[BL (by decide),Aa,Ad];show((-1:Int)+((xs.length+1:Nat):Int)).toNat=_;omega
 rw[this,Ag,List.take_append,Aa,Ed,Fr,Bh,Bz<|by rw[Aa];exact Ao _]
section
variable{P:Program}{w:World}{K:PySem.W.Frag}{mg:Ò}{base:Heap}
abbrev NJn:Ñ:=["_law_rows","_law_tie","_law_last","_law_at","_law_more","_law_told","_law_row","_law_ties","_law_spot"]
def wY:ao NJn ["_law_rows","_law_tie"] (aT E3):=⟨rfl,rfl,rfl,by decide +kernel,rfl,by decide +kernel,by decide +kernel⟩
def q3s{f:Addr}{fd:FuncData}(F:bv K "_law_joined" "_law_joined" E3 f fd)(T:Txt mg):aE P w K mg base bD 1 f fd ["_law_rows","_law_tie"] Ks:=by
 refine F.gb wY (λvs H Q E h=>?_) λb0 H vs Q E hr h=>?_
 ·obtain⟨R,as,a,nm,z,L,rfl,_⟩:=h;rfl
 obtain⟨R,as,a,nm,z,L,rfl,hR,hz,hn,g6,q⟩:=h;have nd:=wY.nd;have bF:=hR.len;rw[Ad]at bF;have bF:as.length=a.length+1:=bF;have eJ:a.length < (a++[(nm,L)]).length:=by simp
 obtain⟨al,Kt,Ku,tK,jO,Kv⟩:=hR.at eJ;have eL:row (a++[(nm,L)]) a.length=L:=by rw[Kv];simp
 have QY:(a++[(nm,L)])[a.length].1=nm:=by simp
 rw[eL]at jO;have lL:L.length<=60:=by rw[<- eL];exact Bq (gB _ _) g6
 obtain⟨dw,tL⟩:∃ dw,as=dw++[al]:=by
  have:=Cb (l:=as) (i:=a.length);rw[Kt,Bz<|by omega]at this;exact⟨_,this⟩
 have las:dw.length=a.length:=by rw[tL,Ad]at bF;simpa using bF
 show Run _ _ _ [some<|.ref R,some<|.str z,none,none,none,none,none,none,none] H;refine aW 2 nd<|aY dq<|ae 0<|uo t6<|aC ⟨1,rfl,R,_,_,.ref al.1,rfl,rfl,ak.of hR.lst,?_,?_⟩
 ·rw[tL,Ag];exact A6 _ _
 show Run _ _ _ [some<|.ref R,some<|.str z,some<|.ref al.1,none,none,none,none,none,none] H;refine aW 3 nd (Uo jO hz (by omega) (λR h=>aY bK<|ae 2<|aC ⟨al.1,_,_,.ref al.2,rfl,rfl,aP.of tK,rfl,h⟩) (λR h=>ae 1 h) ?_);show Run _ _ _ [some<|.ref R,some<|.str z,some<|.ref al.1,some<|.int (aG L z:Int),none,none,none,none,none] H;refine aW 4 nd<|aX rB<|Um jO (λR h=>aY bK<|ae 2<|aC ⟨al.1,_,_,.ref al.2,rfl,rfl,aP.of tK,rfl,h⟩) (λR h=>ae 3 h) λp1 oq=>?_;have s1:=aH oq<|Ls<|L.drop<|aG L z+1;refine Ul (s1 _ _ jO) (λR h=>aY bK<|ae 2<|aC ⟨al.1,_,_,.ref al.2,rfl,rfl,aP.of<|s1 _ _ tK,rfl,h⟩) (λR h=>ae 3 h) λp2 ka=>?_;have s2:=aH ka<|Ls<|L.take<|aG L z;refine Kr (s2 _ _ aw) aw (by simp only[Bg,Cj];omega) λp3 mH=>?_;have s3:=aH mH<|Ls<|L.drop (aG L z+1)++L.take (aG L z);have e3:(upd (upd (upd H p1<|Ls<|L.drop<|aG L z+1) p2<|Ls<|L.take<|aG L z) p3<|Ls<|L.drop (aG L z+1)++L.take (aG L z)) p3=some (Ls<|L.drop (aG L z+1)++L.take (aG L z)):=aw;have sA:=s1.trans<|s2.trans s3;show Run _ _ _ [some<|.ref R,some<|.str z,some<|.ref al.1,some<|.int (aG L z:Int),some<|.ref p3,none,none,none,none] (upd (upd (upd H p1<|Ls<|L.drop<|aG L z+1) p2<|Ls<|L.take<|aG L z) p3<|Ls<|L.drop (aG L z+1)++L.take (aG L z));generalize upd (upd (upd H p1<|Ls<|L.drop<|aG L z+1) p2<|Ls<|L.take<|aG L z) p3 (Ls<|L.drop (aG L z+1)++L.take (aG L z))=H1 at sA e3;have lyy:(L.drop (aG L z+1)++L.take (aG L z)).length<=120:=by simp only[Ad,Bg,Cj];omega
 generalize hyy:L.drop (aG L z+1)++L.take (aG L z)=yy at e3 lyy;refine aW 5 nd (cC<|az ⟨(by show 0<=sizeLine;decide),λM hM=>?_⟩);have sM:=aH hM<|.lst [];have eM:(upd H1 M<|.lst []) M=some (.lst []):=aw;show Run _ _ _ [some<|.ref R,some<|.str z,some<|.ref al.1,some<|.int (aG L z:Int),some<|.ref p3,some<|.ref M,none,none,none] (upd H1 M<|.lst []);generalize upd H1 M (.lst [])=H2 at sM eM;have mZ:=sA.trans sM;have IY:H M=none:=sA.free hM;refine ia<|rE rz<|ae 0<|rF<|rG<|uo t6<|aC ⟨1,rfl,_,rfl,R,_,rfl,ak.of<|mZ _ _ hR.lst,λB hB=>⟨B,rfl,⟨_,ak.of aw⟩,?_⟩⟩;have Kw:bO (as.map λa=>V.ref a.1) none (some (-1))=dw.map λa=>V.ref a.1:=by rw[tL];exact q1e _ _ _
 have sB:=aH hB<|.lst<|bO (as.map λa=>V.ref a.1) none<|some (-1);have eB:(upd H2 B<|.lst<|bO (as.map λa=>V.ref a.1) none<|some (-1)) B=some (.lst<|dw.map λa=>V.ref a.1):=by rw[aw,Kw]
 show Loop _ _ _ _ _ _ _ (upd H2 B<|.lst<|bO (as.map λa=>V.ref a.1) none<|some (-1));generalize upd H2 B (.lst<|bO (as.map λa=>V.ref a.1) none<|some (-1))=H3 at sB eB;have iX:=mZ.trans sB;have nBM:B≠M:=λe=>by rw[e,eM]at hB;cases hB
 refine ib (xs:=dw.map λa=>V.ref a.1) (λi σ' H'=>(∃ v6 v7 v8,σ'=[some<|.ref R,some<|.str z,some<|.ref al.1,some<|.int (aG L z:Int),some<|.ref p3,some<|.ref M,v6,v7,v8])/\ah H1 H'/\H' B=some (.lst<|dw.map λa=>V.ref a.1)/\∃ bs,jY H1 H' M bs<|jn (a.take i) L z) ⟨⟨_,_,_,rfl⟩,sM.trans sB,eB,[],jY.nil<|sB _ _ eM⟩ ?_ ?_ ?_
 ·rintro i σ' H' _ ⟨_,_,eB,_⟩;exact ak.of eB
 ·rintro i x σ' H' hx ⟨⟨v6,v7,v8,rfl⟩,sm,eB,bs,qZ⟩;have fD:=(Ac.mp hx).1;rw[Aa]at fD;have Kx:i < a.length:=by omega
  have jd:i < (a++[(nm,L)]).length:=by simp;omega
  obtain⟨c,ec,Ky,m4,kW,Kz⟩:=(hR.same<|sA.trans sm).at jd;have tI:dw[i]?=some c:=by
   rw[tL,An fD]at ec;exact ec
  rw[Aj,tI]at hx;cases hx;have er:row (a++[(nm,L)]) i=a[i].2:=by rw[Kz,RL Kx]
  have en:(a++[(nm,L)])[i].1=a[i].1:=by rw[RL Kx]
  rw[er]at kW;rw[en]at m4;have lr:a[i].2.length<=60:=by rw[<- er];exact Bq (gB _ _) g6
  have ej:jn (a.take<|i+1) L z=jn (a.take i) L z++[(a[i].1,if z∈a[i].2 then a[i].2.take (aG a[i].2 z)++(L.drop (aG L z+1)++L.take (aG L z))++a[i].2.drop (aG a[i].2 z+1)else a[i].2)]:=by
   unfold jn;rw[Cb,Ab Kx,Ag];rfl
  rw[ej,hyy];have bl:=qZ.rows.len;have jl:(jn (a.take i) L z).length<=60:=by unfold jn;rw[Aa,Bg];omega
  generalize a[i].2=zs at kW lr;generalize a[i].1=pn at m4;refine a8 6 nd ?_;show Run _ _ _ [some<|.ref R,some<|.str z,some<|.ref al.1,some<|.int (aG L z:Int),some<|.ref p3,some<|.ref M,some<|.ref c.1,v7,v8] H';refine aW 7 nd<|nr MU T.nP SQ<|aq<|aY bK<|ae 6<|aC ⟨c.1,_,_,.ref c.2,rfl,rfl,aP.of m4,rfl,az ⟨c.2,_,rfl,.inl<|ak.of kW,λA hA=>?_⟩⟩;have tA:=aH hA<|.lst<|zs.map V.str;have eA:(upd H' A<|.lst<|zs.map V.str) A=some (Ls zs):=aw;show Run _ _ _ [some<|.ref R,some<|.str z,some<|.ref al.1,some<|.int (aG L z:Int),some<|.ref p3,some<|.ref M,some<|.ref c.1,some<|.ref A,v8] (upd H' A<|.lst<|zs.map V.str);have KA:H1 A=none:=sm.free hA;have zM:=qZ.same tA;have nAb:A∉bs.map (·.2):=λk=>by
   obtain⟨x,hx,e⟩:=Ap.mp k;exact(qZ.iY hx).2<|by rw[e];exact hA
  have nAM:A≠M:=λe=>by rw[e,qZ.rows.lst]at hA;cases hA
  generalize upd H' A (.lst<|zs.map V.str)=H4 at tA eA zM;have KE:=sm.trans tA;have eB4:=tA _ _ eB;have KG:=tA _ _ m4;have e34:=KE _ _ e3;refine rV (λk H5=>H5=H4/\k=decide (z∈zs)) (λσ5 H5=>∃(l:Addr) (us:Ñ) (u8:Option V),ah H4 H5/\H5 l=some (Ls us)/\H1 l=none/\l∉bs.map (·.2)/\l≠M/\us=(if z∈zs then zs.take (aG zs z)++yy++zs.drop (aG zs z+1)else zs)/\σ5=[some<|.ref R,some<|.str z,some<|.ref al.1,some<|.int (aG L z:Int),some<|.ref p3,some<|.ref M,some<|.ref c.1,some<|.ref l,u8]) ?_ ?_ ?_ ?_
  ·refine b8 k4<|ae 1<|ae 7 ⟨A,_,rfl,.inl<|ak.of eA,rfl,iu _,_,rfl,rfl,?_⟩;have fF:∀(x y:Bool),(if false=true then x else y)=y:=λ_ _=>rfl;rw[fF,iN,tD]
  ·rintro H5 ⟨rfl,k⟩;have zN:=BX k.symm;refine aW 8 nd (Uo eA zN (by omega) (λR h=>ae 7 h) (λR h=>ae 1 h) ?_);show Run _ _ _ [some<|.ref R,some<|.str z,some<|.ref al.1,some<|.int (aG L z:Int),some<|.ref p3,some<|.ref M,some<|.ref c.1,some<|.ref A,some<|.int (aG zs z:Int)] H5;refine aW 7 nd<|aX rB<|aX rB<|Ul eA (λR h=>ae 7 h) (λR h=>ae 8 h) λq1 h1=>ae 4 ?_;have t1:=aH h1<|Ls<|zs.take<|aG zs z;refine Kr aw (t1 _ _ e34) (by simp only[Bg];omega) λq2 h2=>?_;have t2:=aH h2<|Ls<|zs.take (aG zs z)++yy;refine Um (t2 _ _<|t1 _ _ eA) (λR h=>ae 7 h) (λR h=>ae 8 h) λq3 h3=>?_;have t3:=aH h3<|Ls<|zs.drop<|aG zs z+1;refine Kr (t3 _ _ aw) aw (by simp only[Ad,Bg,Cj];omega) λq4 h4=>?_;have t4:=aH h4<|Ls<|zs.take (aG zs z)++yy++zs.drop (aG zs z+1);have tt:=t1.trans<|t2.trans t3;have n4:=tt.free h4;refine bb ⟨q4,_,_,tt.trans t4,aw,KE.free n4,λk2=>?_,(λe=>by rw[e,zM.rows.lst]at n4;cases n4),by rw[BL zN],rfl⟩;obtain⟨x,hx,e⟩:=Ap.mp k2;exact(zM.iY hx).2<|by rw[e];exact n4
  ·rintro H5 ⟨rfl,k⟩;have zN:=FW k.symm;exact bb ⟨A,zs,_,ah.refl _,eA,KA,nAb,nAM,by rw[BK zN],rfl⟩
  ·rintro σ5 H5 ⟨l,us,u8,s5,el,l1,lb,lM,eus,rfl⟩;have zO:=zM.same s5;refine fX (jj<|ae 5 ⟨M,rfl,⟨_,zO.rows.lst⟩,dW<|aq<|aY bK<|ae 6<|aC ⟨c.1,_,_,.str pn,rfl,rfl,aP.of<|s5 _ _ KG,rfl,aq<|ae 7<|az ⟨(by show 2<=sizeLine;decide),λt ht=>?_⟩⟩⟩);have Uq:=KE.trans s5;have st:=aH ht<|.tup [.str pn,.ref l];have ntM:t≠M:=λe=>by rw[e,zO.rows.lst]at ht;cases ht
   refine⟨bs.map λa=>V.ref a.1,st _ _ zO.rows.lst,by rw[Aa];exact bS (by omega),bb ⟨⟨_,_,_,rfl⟩,dX (Uq.trans st) hM,?_,bs++[(t,l)],?_⟩⟩
   ·rw[ax nBM];exact st _ _<|s5 _ _ eB4
   ·rw[<- eus];exact zO.add el l1 lb lM ht<|Uq.free ht
 ·rintro σ' H' ⟨⟨v6,v7,v8,rfl⟩,sm,_,bs,qZ⟩;rw[Aa,las,Br]at qZ;exact bN<|ae 5<|q M bs H' (sA.trans sm) qZ.rows
open PyProof.Rows (sortedS)
open Classical
structure fO(n:Net):Prop where
 tw:av n
 nm:(bQ n).Nodup
 hr:HR n
 pos:0 < n.length
 len:n.length<=31
 few:(ag n).length<=60
def KI:Sp:=λvs H Q _=>∃(R:Addr) (as:Ï) (n:Net),vs=[.ref R]/\ai H R as n/\fO n/\7 < n.length/\∀ D bs m H',ah H H'->ai H' D bs m->fO m->m.length < n.length->Q (.ref D) H'
def KL:Sp:=λvs H Q _=>∃(R:Addr) (as:Ï) (n:Net),vs=[.ref R]/\ai H R as n/\fO n/\∀ D bs m H',ah H H'->ai H' D bs m->fO m->m.length<=7->Q (.ref D) H'
def q3o{a:Net}{nm z:Str}{L:Ñ}(g:fO<|a++[(nm,L)])(h1:1 < (a++[(nm,L)]).length)(hz:L.count z=1):fO (jn a L z)/\(jn a L z).length < (a++[(nm,L)]).length:=by
 obtain⟨t,n,h,l⟩:=x1b g.tw g.nm g.hr hz;have e:(jn a L z).length=a.length:=by unfold jn;rw[Aa]
 have e2:(a++[(nm,L)]).length=a.length+1:=by simp
 have g1:=g.len;have g2:=g.few;exact⟨⟨t,n,h,by omega,by omega,by omega⟩,by omega⟩
abbrev NLe:Ñ:=["_law_rows","_law_last","_law_tie"]
def wZ:ao NLe ["_law_rows"] (aT E2):=⟨rfl,rfl,rfl,by decide +kernel,rfl,by decide +kernel,by decide +kernel⟩
def q5g{f:Addr}{fd:FuncData}(F:bv K "_law_less" "_law_less" E2 f fd)(T:Txt mg)(GJ:aS P w K mg base 1 "_law_joined" ["_law_rows","_law_tie"] Ks):aE P w K mg base bD 2 f fd ["_law_rows"] KI:=by
 refine F.gb wZ (λvs H Q E h=>?_) λb0 H vs Q E hr h=>?_
 ·obtain⟨R,as,n,rfl,_⟩:=h;rfl
 obtain⟨R,as,n,rfl,hR,g,h7,q⟩:=h;have nd:=wZ.nd;have bn:n≠[]:=λk=>by rw[k]at h7;cases h7
 obtain⟨a,nm,L,rfl⟩:∃ a nm L,n=a++[(nm,L)]:=by
  refine⟨n.dropLast,(n.getLast bn).1,(n.getLast bn).2,?_⟩;exact(List.dropLast_concat_getLast bn).symm
 have e2:(a++[(nm,L)]).length=a.length+1:=by simp
 have eJ:a.length < (a++[(nm,L)]).length:=by omega
 have bF:=hR.len;obtain⟨al,Kt,Ku,tK,jO,Kv⟩:=hR.at eJ;have eL:row (a++[(nm,L)]) a.length=L:=by rw[Kv];simp
 rw[eL]at jO;have lL:L.length<=60:=by rw[<- eL];exact Bq (gB _ _) g.few
 obtain⟨dw,tL⟩:∃ dw,as=dw++[al]:=by
  have:=Cb (l:=as) (i:=a.length);rw[Kt,Bz<|by omega]at this;exact⟨_,this⟩
 have gl:=g.len;have gf:=g.few;show Run _ _ _ [some<|.ref R,none,none] H;refine aW 1 nd<|aY dq<|ae 0<|uo t6<|aC ⟨1,rfl,R,_,_,.ref al.1,rfl,rfl,ak.of hR.lst,?_,?_⟩
 ·rw[tL,Ag];exact A6 _ _
 show Run _ _ _ [some<|.ref R,some<|.ref al.1,none] H;refine ia<|aY bK<|ae 1<|aC ⟨al.1,_,_,.ref al.2,rfl,rfl,aP.of tK,rfl,al.2,rfl,⟨_,ak.of jO⟩,?_⟩;refine ib (xs:=L.map V.str) (λi σ H'=>H'=H/\(∀ z∈L.take i,L.count z≠1)/\∃ u,σ=[some<|.ref R,some<|.ref al.1,u]) ⟨rfl,λz h=>(by rw[Fr]at h;cases h),_,rfl⟩ ?_ ?_ ?_
 ·rintro i σ H' _ ⟨rfl,_⟩;exact ak.of jO
 ·rintro i x σ H' hx ⟨rfl,no,u,rfl⟩;rw[Aj,Az]at hx;obtain⟨z,hz,rfl⟩:=hx;have hzL:=As hz;refine a8 2 nd ?_;show Run _ _ _ [some<|.ref R,some<|.ref al.1,some<|.str z] H';refine hV<|b8 i5<|rT DK JZ KC Ja<|aY bK<|ae 1<|aC ⟨al.1,_,_,.ref al.2,rfl,rfl,aP.of tK,rfl,Or.inl ⟨rfl,_,ak.of jO⟩,ae 2 ⟨al.2,L,z,rfl,rfl,ak.of jO,aC ⟨rfl,_,rfl,?_⟩⟩⟩
  by_cases c:L.count z=1
  ·rw[BW (show V.int (L.count z:Int)=V.int 1 by rw[c];rfl)];obtain⟨g',l'⟩:=q3o g (by omega) c;exact cP<|bN<|bz GJ hr<|aq<|ae 0<|aq<|ae 2<|az ⟨R,as,a,nm,z,L,rfl,hR,hzL,by omega,by omega,λD bs H2 s2 hD=>q D bs _ H2 s2 hD g' l'⟩
  ·rw[BR λh=>c<|by have:=V.int.inj h;omega];refine cO<|bb<|bb ⟨rfl,λy hy=>?_,_,rfl⟩;rw[Cb,hz]at hy
   rcases Al.mp hy with k | k
   ·exact no y k
   ·rw[Ae.mp k];exact c
 ·rintro σ H' ⟨rfl,no,u,rfl⟩;rw[Aa,Br]at no;obtain⟨z,hz,hc⟩:=q0c g.tw g.nm g.hr.1 (λk=>by rw[k]at h7;simp at h7);exact absurd hc<|no z hz
def w5:ao ["_law_rows"] ["_law_rows"] (aT E1):=⟨rfl,rfl,rfl,by decide +kernel,rfl,by decide +kernel,by decide +kernel⟩
def q1d{f:Addr}{fd:FuncData}(F:bv K "_law_small" "_law_small" E1 f fd)(T:Txt mg)(GL:aS P w K mg base 2 "_law_less" ["_law_rows"] KI):aE P w K mg base bD 3 f fd ["_law_rows"] KL:=by
 refine F.gb w5 (λvs H Q E h=>?_) λb0 H vs Q E hr h=>?_
 ·obtain⟨R,as,n,rfl,_⟩:=h;rfl
 obtain⟨R,as,n,rfl,hR,g,q⟩:=h;have nd:=w5.nd;show Run _ _ _ [some<|.ref R] H;refine xV (λm σ H'=>∃(R':Addr) (dw:Ï) (n':Net),n'.length=m/\ah H H'/\ai H' R' dw n'/\fO n'/\σ=[some<|.ref R']) ⟨R,as,n,rfl,ah.refl _,hR,g,rfl⟩ ?_;rintro m σ H' ⟨R',dw,n',rfl,sm,jQ,g',rfl⟩;have bF:=jQ.len;refine b8 Mx<|cF dR T.len DX<|aq<|ae 0<|az ⟨R',_,rfl,.inl<|ak.of jQ.lst,aC ⟨_,_,rfl,rfl,_,rfl,?_⟩⟩;rw[Aa,bF]
 by_cases c:7 < n'.length
 ·rw[BW<|by omega];exact cP<|aW 0 nd<|bz GL hr<|aq<|ae 0<|az ⟨R',dw,n',rfl,jQ,g',c,λD bs m H2 s2 hD gm lm=>bb ⟨_,lm,D,bs,m,rfl,sm.trans s2,hD,gm,rfl⟩⟩
 ·rw[BR<|by omega];exact cO<|bN<|ae 0<|q R' dw n' H' sm jQ g'<|by omega
end
end E7
namespace Nt
open PySem L2 Classical
def fP(n:Net)(ps c:Ñ):Prop:=∀ z,z∈c↔dv n ps z
structure bG(n:Net)(i:Nat)(cs:List<|List Str):Prop where
 len:cs.length=2 ^ i
 cut:∀ c∈cs,bP c/\∃ ps,fP n ps c
 all:∀ ps:Ñ,(∀ x∈ps,x∈((bQ n).drop 1).take i)->∃ c∈cs,fP n ps c
def Ur{n:Net}(T:av n){ps c:Ñ}(h:fP n ps c)(z:Str):decide (z∈c)=bj n (λy=>decide (y∈ps)) z:=by rw[tu T,decide_eq_decide.mpr<|h z]
def q41{n:Net}(T:av n){ps c:Ñ}(h:∀ z,decide (z∈c)=bj n (λy=>decide (y∈ps)) z):fP n ps c:=λz=>by
 have:=h z;rw[tu T]at this;exact decide_eq_decide.mp this
def Us{n:Net}(T:av n){ps qs a b c:Ñ}{y:Str}(ha:fP n ps a)(hb:fP n [y] b)(hx:cS a b c)(hq:∀ x,decide (x∈qs)=(decide (x∈ps) ^^ decide (x=y))):fP n qs c:=q41 T λz=>by
 rw[tq hx,Ur T ha,Ur T hb,<- S9]
 congr 1
 funext x
 rw[hq x]
 congr 1
 exact decide_eq_decide.mpr Ae
def bG.start(n:Net):bG n 0 [[]]:=by
 refine⟨rfl,λc hc=>?_,λps hp=>⟨[],Ae.mpr rfl,λz=>?_⟩⟩
 ·rw[Ae.mp hc];refine⟨List.Pairwise.nil,[],λz=>⟨λh=>(by cases h),λh=>?_⟩⟩;obtain⟨_,_,h,_⟩:=h;cases h
 ·refine⟨λh=>(by cases h),λh=>?_⟩;obtain⟨_,_,h,_⟩:=h;have:=hp _ h;rw[Fr]at this;cases this
def q5r{n:Net}(T:av n)(hN:(bQ n).Nodup){r:Str×List Str}(hr:r∈n):fP n [r.1] (r.2.filter λz=>decide (r.2.count z=1)):=λz=>by
 have c:=tu T [r.1] z;have e:bj n (λy=>decide (y∈[r.1])) z=decide (r.2.count z % 2=1):=by
  have e1:(λy=>decide (y∈[r.1]))=λy=>decide (y=r.1):=by
   funext y
   exact decide_eq_decide.mpr Ae
  rw[e1];have o:=S8 hN hr λy=>decide (z=y);unfold kP cn at o;rw[<- qP]at o;unfold bj;rw[<- o]
  congr 1
  exact Aq λq _=>by rw[qP]
 rw[e]at c;have c:=decide_eq_decide.mp c;rw[<- c,Ba];have le:r.2.count z<=2:=by
  by_cases k:z∈ag n
  ·have:=T z k;have h2:r.2.count z<=(ag n).count z:=by
    obtain⟨a,b,rfl⟩:=El hr;show _<=((a++r :: b).flatMap (·.2)).count z;rw[Cr,Cc,Cq,Cq];omega
   omega
  ·rw[Dr λh=>k<|Dh.mpr ⟨r,hr,h⟩];omega
 constructor
 ·rintro ⟨_,h⟩;have:=BX h;omega
 ·intro h;exact⟨Bs.mp (by omega),BW<|by omega⟩
def bG.step{n:Net}(T:av n){i:Nat}{cs ds:List Ñ}(I:bG n i cs){y:Str}(hy:((bQ n).drop 1)[i]?=some y)(hN:(bQ n).Nodup){own:Ñ}(ho:fP n [y] own)(ld:ds.length=cs.length)(hd:∀(j:Nat) c d,cs[j]?=some c->ds[j]?=some d->bP d/\cS c own d):bG n (i+1) (cs++ds):=by
 have at':∀{c},c∈cs->∃ d∈ds,bP d/\cS c own d:=λ{c} hc=>by
  obtain⟨j,hj⟩:=Bm hc;have hl:=(Ac.mp hj).1;have hdj:=Ab (show j < ds.length by omega);exact⟨_,Bn _,hd j c _ hj hdj⟩
 refine⟨by rw[Ad,ld,I.len,Nat.pow_succ];omega,λc hc=>?_,λps hp=>?_⟩
 ·rcases Al.mp hc with h | h
  ·exact I.cut c h
  ·obtain⟨j,hj⟩:=Bm h;have hl:=(Ac.mp hj).1;have KO:=Ab (show j < cs.length by omega);obtain⟨so,x⟩:=hd j _ c KO hj;obtain⟨_,ps,rO⟩:=I.cut _ (Bn (show j < cs.length by omega));refine⟨so,(if y∈ps then ps.filter (λx=>!decide (x=y))else ps++[y]),Us T rO ho x λx=>?_⟩
   by_cases k:y∈ps
   ·rw[BL k]
    by_cases e:x=y
    ·subst e;simp[k]
    ·by_cases m:x∈ps <;> simp[m,e]
   ·rw[BK k]
    by_cases e:x=y
    ·subst e;simp[k]
    ·by_cases m:x∈ps <;> simp[m,e]
 ·have ht:∀ x∈ps,x≠y->x∈((bQ n).drop 1).take i:=λx hx bn=>by
   have:=hp x hx;rw[Cb,hy]at this
   rcases Al.mp this with h | h
   ·exact h
   ·exact absurd (Ae.mp h) bn
  by_cases k:y∈ps
  ·obtain⟨c,hc,uX⟩:=I.all (ps.filter λx=>!decide (x=y)) λx hx=>by
    rw[Ba,JG,FQ]at hx;exact ht x hx.1 hx.2
   obtain⟨d,qA,_,x⟩:=at' hc;refine⟨d,Aw _ qA,Us T uX ho x λx=>?_⟩
   by_cases e:x=y
   ·subst e;simp[k]
   ·by_cases m:x∈ps <;> simp[m,e]
  ·obtain⟨c,hc,uX⟩:=I.all ps λx hx=>ht x hx λe=>k (by rw[<- e];exact hx);exact⟨c,Bc _ hc,uX⟩
def bG.side{n:Net}(hN:(bQ n).Nodup)(h0:0 < n.length){cs:List Ñ}(I:bG n (n.length - 1) cs){ss sd:Ñ}(so:bP ss)(h:a7 n ss sd):ss∈cs:=by
 obtain⟨c,hc,hp⟩:=I.all sd λx hx=>by
  have h1:=h.mem x hx;rw[Bz<|by rw[Cj,Aa];omega];obtain⟨r,a,e⟩:∃ r a,n=r :: a:=by
   cases n with
   | nil=>cases h0
   | cons r a=>exact⟨r,a,rfl⟩
  have hf:=h.fst;subst e
  rcases Ak.mp h1 with k | k
  ·have k:x=r.1:=k;exact absurd (show bX (r :: a)∈sd by rw[show bX (r :: a)=r.1 from rfl,<- k];exact hx) hf
  ·exact k
 rw[va so (I.cut c hc).1 λz=>by rw[h.cut z,hp z]];exact hc
def KP{n:Net}{a b:Ñ}(h:∀ z,z∈a↔z∈b):bV n a=bV n b:=by
 unfold bV;have e:(λz=>a.contains z)=λz=>b.contains z:=by
  funext z
  rw[Cp,Bk,Bk];exact h z
 rw[e]
section
variable{n:Net}{cs:List Ñ}{z:Str}
def bG.gM(T:av n)(h0:0 < n.length){i:Nat}(I:bG n i cs){c:Ñ}(hc:c∈cs):bP c/\(∀ y∈c,y∈ag n)/\∃ sd,a7 n c sd:=by
 obtain⟨so,ps,hp⟩:=I.cut c hc;exact⟨so,λy hy=>lz<|(hp y).mp hy,yJ T h0 ⟨so,ps,hp⟩⟩
def k2f(T:av n)(hN:(bQ n).Nodup)(h0:0 < n.length)(I:bG n (n.length - 1) cs):(∃ c∈cs,z∈c/\bV n c=true)↔∃ ss,KK n z "double" ss:=by
 constructor
 ·rintro ⟨c,hc,hz,he⟩;obtain⟨so,mem,sd⟩:=I.gM T h0 hc;exact⟨c,so,mem,hz,.inl ⟨rfl,he,sd⟩⟩
 ·rintro ⟨ss,so,mem,hz,⟨_,he,sd,mY⟩ | ⟨k,_⟩ | ⟨k,_⟩⟩
  ·exact⟨ss,I.side hN h0 so mY,hz,he⟩
  ·exact absurd k<|by decide
  ·exact absurd k<|by decide
def q1o(T:av n)(hN:(bQ n).Nodup)(h0:0 < n.length)(I:bG n (n.length - 1) cs):(∃ c∈cs,z∈c/\∀ d,cS c [z] d->bV n d=true)↔∃ ss,KK n z "cut" ss:=by
 constructor
 ·rintro ⟨c,hc,hz,he⟩;obtain⟨so,mem,sd⟩:=I.gM T h0 hc;refine⟨c,so,mem,hz,.inr<|.inl ⟨rfl,sd,he _ λy=>?_⟩⟩;rw[aO,Ae]
  by_cases k:y∈c
  ·rw[BL k];exact⟨λq=>q.2,λq=>⟨k,q⟩⟩
  ·rw[BK k];exact⟨λq=>absurd q.1 k,λq=>absurd (by rw[q];exact hz) k⟩
 ·rintro ⟨ss,so,mem,hz,⟨k,_⟩ | ⟨_,⟨sd,mY⟩,he⟩ | ⟨k,_⟩⟩
  ·exact absurd k<|by decide
  ·refine⟨ss,I.side hN h0 so mY,hz,λd hd=>?_⟩;rw[<- he];refine KP λy=>?_;rw[hd y,aO,Ae]
   by_cases k:y∈ss
   ·rw[BL k];exact⟨λq=>⟨k,q⟩,λq=>q.2⟩
   ·rw[BK k];exact⟨λq=>absurd (by rw[q];exact hz) k,λq=>absurd q.1 k⟩
  ·exact absurd k<|by decide
def k4s(T:av n)(hN:(bQ n).Nodup)(h0:0 < n.length)(fj:z∈ag n)(I:bG n (n.length - 1) cs):(∃ c∈cs,z∉c/\∀ d,cS c [z] d->bV n d=true)↔∃ ss,KK n z "round" ss:=by
 constructor
 ·rintro ⟨c,hc,hz,he⟩;obtain⟨so,mem,sd⟩:=I.gM T h0 hc;obtain⟨d,d1,d2⟩:=TC c [z];have hzd:z∈d:=(d2 z).mpr (by rw[BK hz];exact Ae.mpr rfl);have el:less d z=c:=va (tF d1 z) so λy=>by
   rw[aO,d2 y,Ae]
   by_cases k:y∈c
   ·rw[BL k];exact⟨λ_=>k,λ_=>⟨λq=>hz (by rw[<- q];exact k),λq=>hz<|by rw[<- q];exact k⟩⟩
   ·rw[BK k];exact⟨λq=>absurd q.1 q.2,λq=>absurd q k⟩
  refine⟨d,d1,λy hy=>?_,hzd,.inr<|.inr ⟨rfl,he d d2,by rw[el];exact sd⟩⟩
  by_cases k:y=z
  ·rw[k];exact fj
  ·exact mem y<|by rw[<- el];exact aO.mpr ⟨hy,k⟩
 ·rintro ⟨ss,so,mem,hz,⟨k,_⟩ | ⟨k,_⟩ | ⟨_,he,sd,mY⟩⟩
  ·exact absurd k<|by decide
  ·exact absurd k<|by decide
  ·refine⟨less ss z,I.side hN h0 (tF so z) mY,λq=>(aO.mp q).2 rfl,λd hd=>?_⟩;rw[<- he];refine KP λy=>?_;rw[hd y];have l:=aO (T:=ss) (t:=z) (z:=y)
   by_cases k:y=z
   ·subst k;rw[BK λq=>(l.mp q).2 rfl];exact⟨λ_=>hz,λ_=>Ae.mpr rfl⟩
   ·by_cases m:y∈ss
    ·rw[BL<|l.mpr ⟨m,k⟩];exact⟨λ_=>m,λ_ q=>k<|Ae.mp q⟩
    ·rw[BK λq=>m (l.mp q).1];exact⟨λq=>absurd (Ae.mp q) k,λq=>absurd q m⟩
end
end Nt
namespace E7
open PySem L2 Nt bw
open PyProof.Rows (sortedS)
open Classical
def KS:Sp:=λvs H Q _=>∃(R a:Addr) (as:Ï) (n:Net) (ss:Ñ),vs=[.ref R,.ref a]/\ai H R as n/\n.length<=60/\(ag n).length<=1000/\H a=some (Ls ss)/\∀ H',ah H H'->Q (.bl<|bV n ss) H'
def zP:Sp:=λvs H Q _=>∃(a b:Addr) (xs ys:Ñ),vs=[.ref a,.ref b]/\H a=some (Ls xs)/\H b=some (Ls ys)/\xs.length+ys.length < 64/\xs.Nodup/\ys.Nodup /\
 ∀ l ss H',ah H H'->H l=none->H' l=some (Ls ss)->bP ss->Nt.cS xs ys ss->Q (.ref l) H'
section
variable{P:Program}{w:World}{K:PySem.W.Frag}{mg:Ò}{base:Heap}
def k72(n:Net)(ss:Ñ)(r:Str×List Str):bV (n++[r]) ss=(bV n ss && ((r.2.filter λz=>ss.contains z).length % 2 == 0)):=by
 unfold bV;rw[List.all_append];simp
abbrev NI:Ñ:=["_law_rows","_law_some","_law_row"]
abbrev Ut:Ñ:=["_law_rows","_law_some","_law_row","_law_tie"]
def oJ:ao NI ["_law_rows","_law_some"] (aT yn):=⟨rfl,rfl,rfl,by decide +kernel,rfl,by decide +kernel,by decide +kernel⟩
def KU:Ut.Nodup:=by decide +kernel
theorem q0i{n:Net}{ss:Ñ}{i:Nat}(hi:i < n.length)(h:¬((row n i).filter λz=>ss.contains z).length % 2=0):bV n ss=false:=by
 cases e:bV n ss with
 | false=>rfl
 | true=>
  unfold bV at e;have:=Eb.mp e n[i]<|Bn hi;rw[HX,<- ko hi]at this;exact absurd this h
def q81{f:Addr}{fd:FuncData}(F:bv K "_law_is_round" "_law_is_round" yn f fd)(T:Txt mg):aE P w K mg base bD 1 f fd ["_law_rows","_law_some"] KS:=by
 refine F.gb oJ (λvs H Q E h=>?_) λb0 H vs Q E hr h=>?_
 ·obtain⟨R,a,as,n,ss,rfl,_⟩:=h;rfl
 obtain⟨R,a,as,n,ss,rfl,hR,hn,ht,ha,q⟩:=h;have nd:=oJ.nd;have bF:=hR.len;show Run _ _ _ [some<|.ref R,some<|.ref a,none] H;refine ia<|ae 0 ⟨R,rfl,⟨_,ak.of hR.lst⟩,ib (xs:=as.map λa=>V.ref a.1) (λi σ H3=>ah H H3/\bV (n.take i) ss=true/\∃ u,σ=[some<|.ref R,some<|.ref a,u]) ⟨ah.refl H,rfl,_,rfl⟩ ?_ ?_ ?_⟩
 ·rintro i σ H3 _ ⟨sm,_,_,_⟩;exact ak.of<|sm _ _ hR.lst
 ·rintro i x σ H3 hx ⟨sm,ev,u,rfl⟩;have hi:i < n.length:=by
   have:=(Ac.mp hx).1;rw[Aa]at this;omega
  obtain⟨b,eb,dY,et,el,er⟩:=(hR.same sm).at hi;rw[Aj,eb]at hx;cases hx;have gZ:(row n i).length<=1000:=Bq (gB n i) ht;refine a8 2 nd ?_;refine rV (λk H4=>ah H3 H4/\k=decide (((row n i).filter λz=>ss.contains z).length % 2=1)) (λσ' H'=>ah H H'/\bV (n.take<|i+1) ss=true/\∃ u,σ'=[some<|.ref R,some<|.ref a,u]) ?_ ?_ ?_ λσ' H' h=>bb h
  ·refine b8 i5<|aX cW<|cF dR T.len DX<|aq<|fY (aT yn) NI Ut 1 (dD bx)<|aY bK<|ae 2<|aC ⟨b.1,_,_,.ref b.2,rfl,rfl,aP.of et,rfl,b.2,rfl,⟨_,ak.of el⟩,λD hD=>?_⟩;refine p9 (σ:=[some<|.ref R,some<|.ref a,some<|.ref b.1]) (λz=>ss.contains z) (bS<|by omega) el hD (λcl C s₀ H₀ ex v v0 H' R' h=>a8 3 KU h) (λcl C s₀ H₀ ex z ys T' h=>?_) (λcl C s₀ H₀ ex z H' R' h=>ae 3 h) ?_
   ·refine jL (b8 k4<|ae 3<|ae 1 ⟨a,_,rfl,.inl (ak.of<|by rw[ax<|bq (sm _ _ ha) hD];exact sm _ _ ha),rfl,iu _,_,rfl,?_⟩);show T' (j6 (.str z)<|ss.map V.str) _;rw[iN];exact h
   ·refine az ⟨D,_,rfl,.inl<|ak.of aw,aC ⟨_,_,rfl,rfl,(by show(0:Int) < 2;decide),aC ⟨rfl,_,rfl,aH hD _,?_⟩⟩⟩;rw[Aa];refine decide_eq_decide.mpr ⟨λh=>?_,λh=>?_⟩
    ·have:=V.int.inj h;omega
    ·have:((((row n i).filter λz=>ss.contains z).length:Int)) % 2=1:=by omega
     exact BZ V.int this
  ·rintro H4 ⟨s4,e⟩;have hb:=BX e.symm;refine bN<|CD ?_;rw[<- q0i (ss:=ss) hi<|by omega];exact q H4<|sm.trans s4
  ·rintro H4 ⟨s4,e⟩;have hb:=FW e.symm;refine bb ⟨sm.trans s4,?_,_,rfl⟩;rw[Cb,Ab hi];show bV (n.take i++[n[i]]) ss=true;rw[k72,ev,<- ko hi,Gz,HX];omega
 ·rintro σ H3 ⟨sm,ev,u,rfl⟩;rw[Aa,bF,Br]at ev;refine bN<|CD ?_;rw[<- ev];exact q H3 sm
abbrev KW:Ñ:=["_law_one","_law_other_here"]
abbrev ra:Ñ:=["_law_one","_law_other_here","_law_tie"]
def K0:ao KW ["_law_one","_law_other_here"] (aT uK):=⟨rfl,rfl,rfl,by decide +kernel,rfl,by decide +kernel,by decide +kernel⟩
def Uu:ra.Nodup:=by decide +kernel
def q3z{f:Addr}{fd:FuncData}(F:bv K "_law_sum" "_law_sum" uK f fd)(T:Txt mg):aE P w K mg base bD 1 f fd ["_law_one","_law_other_here"] zP:=by
 refine F.gb K0 (λvs H Q E h=>?_) λb0 H vs Q E hr h=>?_
 ·obtain⟨a,b,xs,ys,rfl,_⟩:=h;rfl
 obtain⟨a,b,xs,ys,rfl,ha,hb,hl,nx,ny,q⟩:=h;show Run _ _ _ [some<|.ref a,some<|.ref b] H;refine bN<|cF D4 T.sorted DY<|aq<|aX rB<|fY (aT uK) KW ra 1 (dD bx)<|ae 0 ⟨a,rfl,⟨_,ak.of ha⟩,λD hD=>?_⟩;refine p9 (λz=>!ys.contains z) (bS<|by omega) ha hD (λcl C s0 H0 ex v v0 H' R' h=>a8 2 Uu h) (λcl C s0 H0 ex z zs T' h=>jL<|b8 xx<|ae 2<|ae 1 ⟨b,_,rfl,.inl (ak.of<|by rw[ax<|bq hb hD];exact hb),rfl,iu _,_,rfl,?_⟩) (λcl C s0 H0 ex z H' R' h=>ae 2 h) ?_
 ·show T' (!j6 (.str z) (ys.map V.str)) _;rw[iN];exact h
 have s1:=aH hD<|.lst<|(xs.filter λz=>!ys.contains z).map V.str;have eD:(upd H D<|.lst<|(xs.filter λz=>!ys.contains z).map V.str) D=some (Ls<|xs.filter λz=>!ys.contains z):=aw;generalize upd H D (.lst<|(xs.filter λz=>!ys.contains z).map V.str)=H1 at s1 eD;have Uv:=s1 _ _ ha;have mr:=s1 _ _ hb;refine fY (aT uK) KW ra 1 (dD bx)<|ae 1 ⟨b,rfl,⟨_,ak.of mr⟩,λD2 jz=>?_⟩;refine p9 (λz=>!xs.contains z) (bS<|by omega) mr jz (λcl C s0 H0 ex v v0 H' R' h=>a8 2 Uu h) (λcl C s0 H0 ex z zs T' h=>jL<|b8 xx<|ae 2<|ae 0 ⟨a,_,rfl,.inl (ak.of<|by rw[ax<|bq Uv jz];exact Uv),rfl,iu _,_,rfl,?_⟩) (λcl C s0 H0 ex z H' R' h=>ae 2 h) ?_
 ·show T' (!j6 (.str z) (xs.map V.str)) _;rw[iN];exact h
 have s2:=aH jz<|.lst<|(ys.filter λz=>!xs.contains z).map V.str;have Uw:(upd H1 D2<|.lst<|(ys.filter λz=>!xs.contains z).map V.str) D2=some (Ls<|ys.filter λz=>!xs.contains z):=aw;have eD:=s2 _ _ eD;generalize upd H1 D2 (.lst<|(ys.filter λz=>!xs.contains z).map V.str)=H2 at s2 Uw eD;have f1:=Dj (λz=>!ys.contains z) xs;have f2:=Dj (λz=>!xs.contains z) ys;have Ux:((xs.filter λz=>!ys.contains z)++(ys.filter λz=>!xs.contains z)).Nodup:=Bt.mpr ⟨nx.filter _,ny.filter _,λx hx y hy e=>by
  rw[Ba]at hx hy;subst e;have:=hy.2;simp[hx.1]at this⟩
 have mem:∀ z,z∈(xs.filter λz=>!ys.contains z)++(ys.filter λz=>!xs.contains z)↔(if z∈xs then z∉ys else z∈ys):=λz=>by
  rw[Al,Ba,Ba]
  by_cases q1:z∈xs <;> by_cases q2:z∈ys <;> simp[q1,q2]
 refine⟨D,D2,_,_,rfl,rfl,eD,Uw,?_,λl j7=>?_⟩
 ·rw[Aa,Aa];exact small<|by omega
 rw[<- Ag];have lf:((xs.filter λz=>!ys.contains z)++(ys.filter λz=>!xs.contains z)).length < 64:=by rw[Ad];omega
 generalize (xs.filter λz=>!ys.contains z)++(ys.filter λz=>!xs.contains z)=L at Ux mem j7 lf ⊢;have s3:=s2.trans<|aH j7<|Ls L;refine az ⟨l,L,rfl,ak.of aw,lf,λl4 ss Uy ji mv=>?_⟩;have s4:=s1.trans s3;exact q l4 ss _ (s4.trans<|aH Uy _) (s4.free Uy) aw (yH mv<|ji.nodup_iff.mpr Ux) λz=>by rw[ji.mem_iff];exact mem z
open bA
open PyProof.Rows (sortedS)
open Classical
def q2b{α:Type}(f:α->V)(xs:List α):bO (xs.map f) (some 1) none=(xs.drop 1).map f:=by
 show bO (xs.map f) (some ((1:Nat):Int)) none=_;unfold bO;rw[HT.fw,HT.cN,Aa];rw[Bz (by rw[Cj,Aa];omega),UW]
 rcases VB 1 xs.length with h | h
 ·rw[RX h]
 ·rw[RG h,Fb (by simp),Fb<|by simpa using h]
def K1:Sp:=λvs H Q _=>∃(R:Addr) (as:Ï) (n:Net),vs=[.ref R]/\ai H R as n/\fO n/\n.length<=7/\∀ D us cs H',ah H H'->eX H' D us cs->bG n (n.length - 1) cs->Q (.ref D) H'
abbrev K2:Ñ:=["_law_rows","_law_cuts_here","_law_row","_law_own"]
abbrev w6:Ñ:=["_law_rows","_law_cuts_here","_law_row","_law_own","_law_tie"]
abbrev w8:Ñ:=["_law_rows","_law_cuts_here","_law_row","_law_own","_law_cut"]
def w9:ao K2 ["_law_rows"] (aT uJ):=⟨rfl,rfl,rfl,by decide +kernel,rfl,by decide +kernel,by decide +kernel⟩
def q7f:w6.Nodup:=by decide +kernel
def q7a:w8.Nodup:=by decide +kernel
def q5j{f:Addr}{fd:FuncData}(F:bv K "_law_cuts" "_law_cuts" uJ f fd)(T:Txt mg)(GS:aS P w K mg base 1 "_law_sum" ["_law_one","_law_other_here"] zP):aE P w K mg base bD 2 f fd ["_law_rows"] K1:=by
 refine F.gb w9 (λvs H Q E h=>?_) λb0 H vs Q E hr h=>?_
 ·obtain⟨R,as,n,rfl,_⟩:=h;rfl
 obtain⟨R,as,n,rfl,hR,g,h7,q⟩:=h;have nd:=w9.nd;have bF:=hR.len;have hT:=g.tw;have gf:=g.few;have gp:=g.pos;show Run _ _ _ [some<|.ref R,none,none,none] H;refine aW 1 nd (cC<|aq<|cC<|az ⟨(by show 0<=sizeLine;decide),λp0 hp0=>az ⟨(by show 1<=sizeLine;decide),λp1 oq=>?_⟩⟩);have s0:=(aH hp0<|.lst []).trans<|aH oq<|.lst [.ref p0];have e0:(upd (upd H p0<|.lst []) p1<|.lst [.ref p0]) p0=some (Ls []):=(aH oq<|.lst [.ref p0]) _ _ aw;have e1:(upd (upd H p0<|.lst []) p1<|.lst [.ref p0]) p1=some (.lst<|[p0].map V.ref):=aw;show Run _ _ _ [some<|.ref R,some<|.ref p1,none,none] (upd (upd H p0<|.lst []) p1<|.lst [.ref p0]);generalize upd (upd H p0<|.lst []) p1 (.lst [.ref p0])=H1 at s0 e0 e1;have at0:eX H1 p1 [p0] [[]]:=⟨e1,rfl,λi u c h1 h2=>by
  match i with
  | 0=>cases h1;cases h2;exact e0
  | i+1=>simp at h1⟩
 refine ia<|rE rz<|ae 0<|rG<|aC ⟨1,rfl,rF ⟨R,_,rfl,ak.of<|s0 _ _ hR.lst,λB hB=>⟨B,rfl,⟨_,ak.of aw⟩,?_⟩⟩⟩;have sB:=aH hB<|.lst<|bO (as.map λa=>V.ref a.1) (some 1) none;have eB:(upd H1 B<|.lst<|bO (as.map λa=>V.ref a.1) (some 1) none) B=some (.lst<|(as.drop 1).map λa=>V.ref a.1):=by rw[aw,q2b]
 show Loop _ _ _ _ _ _ _ (upd H1 B<|.lst<|bO (as.map λa=>V.ref a.1) (some 1) none);generalize upd H1 B (.lst<|bO (as.map λa=>V.ref a.1) (some 1) none)=H2 at sB eB;have mZ:=s0.trans sB;refine ib (xs:=(as.drop 1).map λa=>V.ref a.1) (λi σ H'=>∃(D:Addr) (us:List Addr) (cs:List<|List Str) (u2 u3:Option V),ah H2 H'/\eX H' D us cs/\bG n i cs/\σ=[some<|.ref R,some<|.ref D,u2,u3]) ⟨p1,[p0],[[]],_,_,ah.refl _,at0.same sB,bG.start n,rfl⟩ ?_ ?_ ?_
 ·rintro i σ H' _ ⟨_,_,_,_,_,sm,_⟩;exact ak.of<|sm _ _ eB
 ·rintro i x σ H3 hx ⟨D,us,cs,u2,u3,sm,hD,I,rfl⟩;have fD:=(Ac.mp hx).1;rw[Aa,Cj]at fD;have jd:i+1 < n.length:=by omega
  obtain⟨c,ec,Ky,m4,kW,Kz⟩:=(hR.same<|mZ.trans sm).at jd;have tI:(as.drop 1)[i]?=some c:=by rw[Fc,VD];exact ec
  rw[Aj,tI]at hx;cases hx;have hrm:n[i+1]∈n:=Bn jd;have kX:=q5r hT g.nm hrm;have hy:((bQ n).drop 1)[i]?=some n[i+1].1:=by rw[Fc,Aj,VD,Ab jd];rfl
  have lr:(row n<|i+1).length<=60:=Bq (gB _ _) gf;rw[Kz]at kW lr;have sV:=hD.2.1;have lcs:=I.len;have pw:2 ^ i<=64:=Bq (Nat.pow_le_pow_right (by decide) (show i<=6 by omega)) (by decide);generalize n[i+1].2=L at kW lr kX;generalize n[i+1].1=y at m4 kX hy;refine a8 2 nd ?_;show Run _ _ _ [some<|.ref R,some<|.ref D,some<|.ref c.1,u3] H3;refine aW 3 nd<|fY (aT uJ) K2 w6 1 (dD bx)<|aY bK<|ae 2<|aC ⟨c.1,_,_,.ref c.2,rfl,rfl,aP.of m4,rfl,c.2,rfl,⟨_,ak.of kW⟩,λA hA=>?_⟩;have nA:c.2≠A:=bq kW hA;have KA:c.1≠A:=bq m4 hA;refine p9 (σ:=[some<|.ref R,some<|.ref D,some<|.ref c.1,u3]) (λz=>decide (L.count z=1)) (bS<|by omega) kW hA (λcl C s0 H0 ex v v0 H' R' h=>a8 4 q7f h) (λcl C s0 H0 ex z zs T' h=>jL<|b8 i5<|rT DK JZ KC Ja<|aY bK<|ae 2<|aC ⟨c.1,_,_,.ref c.2,rfl,rfl,aP.of (by rw[ax KA];exact m4),rfl,Or.inl ⟨rfl,_,ak.of<|by rw[ax nA];exact kW⟩,ae 4 ⟨c.2,L,z,rfl,rfl,ak.of (by rw[ax nA];exact kW),aC ⟨rfl,_,rfl,?_⟩⟩⟩) (λcl C s0 H0 ex z H' R' h=>ae 4 h) ?_
  ·have ek:decide (V.int (L.count z:Int)=V.int 1)=decide (L.count z=1):=decide_eq_decide.mpr ⟨λk=>by have:=V.int.inj k;omega,λk=>by rw[k];rfl⟩;show T' (decide (V.int (L.count z:Int)=V.int 1)) _;rw[ek];exact h
  have sA:=aH hA<|.lst<|(L.filter λz=>decide (L.count z=1)).map V.str;have eA:(upd H3 A<|.lst<|(L.filter λz=>decide (L.count z=1)).map V.str) A=some (Ls<|L.filter λz=>decide (L.count z=1)):=aw;show Run _ _ _ [some<|.ref R,some<|.ref D,some<|.ref c.1,some<|.ref A] (upd H3 A<|.lst<|(L.filter λz=>decide (L.count z=1)).map V.str);generalize upd H3 A (.lst<|(L.filter λz=>decide (L.count z=1)).map V.str)=H4 at sA eA;have K3:=J5 L;generalize (L.filter λz=>decide (L.count z=1))=own at eA kX K3;have x0H:=sG hT K3 λz hz=>lz<|(kX z).mp hz;have zQ:=hD.same sA;refine aW 1 nd<|aX rB<|ae 1<|fY (aT uJ) K2 w8 1 (dD bx)<|ae 1 ⟨D,rfl,⟨_,ak.of zQ.1⟩,λG hG=>?_⟩;refine mw (xs:=us.map V.ref) (λk σ' H'=>(∃ v,σ'=[some<|.ref R,some<|.ref D,some<|.ref c.1,some<|.ref A]++[v])/\ah H4 H'/\∃(vs:List Addr) (ds:List<|List Str),vs.length=k/\ds.length=k/\H' G=some (.lst<|vs.map V.ref)/\∀(j:Nat) v c d,vs[j]?=some v->cs[j]?=some c->ds[j]?=some d->H' v=some (Ls d)/\v≠G/\bP d/\Nt.cS c own d) ⟨⟨none,rfl⟩,aH hG _,[],[],rfl,rfl,aw,λj v c d h=>by simp at h⟩ ?_ ?_ ?_
  ·rintro k σ' H' _ ⟨_,cZ,_⟩;exact ak.of<|cZ _ _ zQ.1
  ·rintro k x σ' H' hx ⟨⟨v,rfl⟩,cZ,vs,ds,zR,zS,eG,fe⟩;rw[Aj,Az]at hx;obtain⟨u,hu,rfl⟩:=hx;have FR:k < cs.length:=by have:=(Ac.mp hu).1;omega
   have K4:=Ab FR;have Uz:=cZ _ _<|zQ.2.2 k u _ hu K4;obtain⟨K5,mc,_⟩:=I.gM hT gp<|Bn FR;generalize cs[k]=ck at K4 Uz K5 mc;have lck:=sG hT (ga K5) mc;intro cl C' s₀ H₀ ex;refine a8 4 q7a ?_;intro cl C' s₀ H₀ ex;refine iF<|cP ?_;intro cl C' s₀ H₀ ex;refine bz GS hr (aq<|ae 4<|aq<|ae 3<|az ⟨u,A,ck,own,rfl,Uz,cZ _ _ eA,by omega,ga K5,K3,λl ss H5 s5 n5 e5 K6 x5=>?_⟩);have UA:l≠G:=λe=>by rw[e,eG]at n5;cases n5
   refine⟨_,s5 _ _ eG,by rw[Aa];exact bS (by omega),⟨_,rfl⟩,dX (cZ.trans s5) hG,vs++[l],ds++[ss],by rw[Ad,zR];rfl,by rw[Ad,zS];rfl,by rw[aw,Ag];rfl,λj v c' d h1 h2 h3=>?_⟩
   by_cases cj:j < vs.length
   ·rw[An cj]at h1;rw[An<|by omega]at h3;obtain⟨b1,b2,b3⟩:=fe j v c' d h1 h2 h3;exact⟨by rw[ax b2];exact s5 _ _ b1,b2,b3⟩
   ·rw[Am<|by omega]at h1 h3;have eV:j - vs.length=0:=by
     have:=(Ac.mp h1).1;simp at this;omega
    rw[eV]at h1;rw[zS,<- zR,eV]at h3;cases h1;cases h3;rw[show j=k by omega,K4]at h2;cases h2;exact⟨by rw[ax UA];exact e5,UA,K6,x5⟩
  rintro σ' H5 ⟨_,s5,vs,ds,zR,zS,eG,fe⟩;rw[Aa]at zR zS;have UB:=zQ.same s5;refine⟨D,G,_,_,rfl,rfl,UB.1,eG,?_,λZ hZ=>?_⟩
  ·rw[Aa,Aa];exact small<|by omega
  rw[<- Ag];have sZ:=aH hZ<|.lst<|(us++vs).map V.ref;have eZ:(upd H5 Z<|.lst<|(us++vs).map V.ref) Z=some (.lst<|(us++vs).map V.ref):=aw;show Run _ _ _ [some<|.ref R,some<|.ref Z,some<|.ref c.1,some<|.ref A] (upd H5 Z<|.lst<|(us++vs).map V.ref);generalize upd H5 Z (.lst<|(us++vs).map V.ref)=H6 at sZ eZ;refine bb ⟨Z,us++vs,cs++ds,_,_,sm.trans<|sA.trans<|s5.trans sZ,⟨eZ,by rw[Ad,Ad];omega,λj u c' h1 h2=>?_⟩,I.step hT hy g.nm kX (by omega) λj c' d h1 h2=>?_,rfl⟩
  ·by_cases cj:j < us.length
   ·rw[An cj]at h1;rw[An<|by omega]at h2;exact sZ _ _<|UB.2.2 j u c' h1 h2
   ·rw[Am<|by omega]at h1;rw[Am (by omega),<- sV]at h2;have kq:=(Ac.mp h1).1;have KO:=Ab (show j - us.length < cs.length by omega);exact sZ _ _ (fe _ u _ c' h1 KO h2).1
  ·have kq:=(Ac.mp h2).1;have hvj:=Ab (show j < vs.length by omega);exact(fe j _ c' d hvj h1 h2).2.2
 ·rintro σ H3 ⟨D,us,cs,u2,u3,sm,hD,I,rfl⟩;rw[Aa,Cj,bF]at I;exact bN<|ae 1<|q D us cs H3 (mZ.trans sm) hD I
end
open PyProof.Rows (sortedS)
open Classical
section
variable{X:Cx}{elt tg:Expr}{ifs:Ô}{scope:Scope}{σ:St}{H:Hp}{N':Ñ}{A D:Addr}{after:Hp->Prop}
def K7{us:List Addr}{cs:List Ñ}(f:Ñ->Prop)(hz:us.length < sizeLine)(hD:eX H D us cs)(hA:H A=none)
  (hg:∀ cl C s₀ H₀ ex v v0 H' R,R (σ++[some v]) H'->Eg (dS X N' scope cl C s₀ H₀ ex) tg v (σ++[v0]) H' R)
  (hi:∀ cl C s₀ H₀ ex u c H' T,c∈cs->H' u=some (Ls c)->ah H H'->(∀ b H2,ah H' H2->(b=true↔f c)->T b H2)->Ei (dS X N' scope cl C s₀ H₀ ex) ifs (σ++[some<|.ref u]) H' T)
  (he:∀ cl C s₀ H₀ ex u H' R,R (V.ref u) H'->Ev (dS X N' scope cl C s₀ H₀ ex) elt (σ++[some<|.ref u]) H' R)
  (q:∀ H' ks,ah H H'->H' A=some (.lst<|ks.map V.ref)->(ks≠[]↔∃ c∈cs,f c)->after H') :
  py X N' scope tg ifs elt (ng X.K D) A after (σ++List.replicate 1 none) (upd H A<|.lst []):=by
 refine mw (xs:=us.map V.ref) (λk σ' H'=>(∃ v,σ'=σ++[v])/\ah H H'/\∃ ks:List Addr,ks.length<=k/\H' A=some (.lst<|ks.map V.ref)/\(ks≠[]↔∃ j c,j < k/\cs[j]?=some c/\f c)) ⟨⟨none,rfl⟩,aH hA _,[],Ao _,aw,⟨λh=>absurd rfl h,λ⟨j,_,h,_⟩=>absurd h<|Ee _⟩⟩ ?_ ?_ ?_
 ·rintro i σ' H' _ ⟨_,sm,_⟩;exact ak.of<|sm _ _ hD.1
 ·rintro i x σ' H' hx ⟨⟨v,rfl⟩,sm,ks,lk,eA,hk⟩;rw[Aj,Az]at hx;obtain⟨u,hu,rfl⟩:=hx;have hiu:=(Ac.mp hu).1;have fD:i < cs.length:=by rw[<- hD.2.1];exact hiu
  have hc:=Ab fD;have eU:cs[i]∈cs:=Bn fD;generalize cs[i]=c at hc eU;intro cl C s₀ H₀ ex;refine hg cl C s₀ H₀ ex _ _ _ _ ?_;intro cl C s₀ H₀ ex;refine hi cl C s₀ H₀ ex u c _ _ eU (sm _ _<|hD.2.2 i u c hu hc) sm λb H2 s2 hb=>?_
  by_cases e:b=true
  ·rw[BL e];intro cl C s₀ H₀ ex;refine he cl C s₀ H₀ ex u _ _ ⟨_,s2 _ _ eA,by rw[Aa];omega,⟨_,rfl⟩,dX (sm.trans s2) hA,ks++[u],by rw[Ad];exact QW lk,by rw[aw,Ag];rfl,λ_=>⟨i,c,Ft _,hc,hb.mp e⟩,λ_=>by simp⟩
  ·rw[BK e];refine⟨⟨_,rfl⟩,sm.trans s2,ks,QK lk,s2 _ _ eA,hk.trans ⟨λ⟨j,d,h1,h2⟩=>⟨j,d,Bx h1,h2⟩,λ⟨j,d,h1,h2,h3⟩=>?_⟩⟩
   rcases Nat.lt_or_eq_of_le (Nat.le_of_lt_succ h1)with h | h
   ·exact⟨j,d,h,h2,h3⟩
   ·rw[h,hc]at h2;cases h2;exact absurd (hb.mpr h3) e
 ·rintro σ' H' ⟨_,sm,ks,_,eA,hk⟩;refine q H' ks sm eA<|hk.trans ⟨λ⟨j,c,_,h2,h3⟩=>⟨c,As h2,h3⟩,λ⟨c,h2,h3⟩=>?_⟩;obtain⟨j,hj⟩:=List.mem_iff_getElem?.mp h2;have:=(Ac.mp hj).1;exact⟨j,c,by rw[Aa,hD.2.1];exact this,hj,h3⟩
end
open PyProof.Rows (sortedS)
open Classical
noncomputable def wd(p:Prop)(s:Str):Ñ:=if p then [s]else []
def xa{p:Prop}{s:Str}(h:p):wd p s=[s]:=BL h
def xc{p:Prop}{s:Str}(h:¬ p):wd p s=[]:=BK h
def UC(p:Prop)(s:Str):(wd p s).length<=1:=by
 by_cases h:p
 ·rw[xa h];exact Ao _
 ·rw[xc h];exact Cf _
noncomputable def words(n:Net)(z:Str):Ñ:=wd (∃ ss,KK n z "double" ss) "double"++wd (∃ ss,KK n z "cut" ss) "cut"++wd (∃ ss,KK n z "round" ss) "round"
def K8:Sp:=λvs H Q _=>∃(R D:Addr) (as:Ï) (n:Net) (us:List Addr) (cs:List<|List Str) (z:Str),vs=[.ref R,.ref D,.str z]/\ai H R as n/\fO n/\n.length<=7/\eX H D us cs/\bG n (n.length - 1) cs/\z∈ag n/\∀ L H',ah H H'->H' L=some (Ls<|words n z)->Q (.ref L) H'
def zT{n:Net}{c ss:Ñ}{z:Str}(x:Nt.cS c [z] ss):bV n ss=true↔∀ d,Nt.cS c [z] d->bV n d=true:=
 ⟨λh d hd=>by rw[<- h];exact KP λy=>(hd y).trans (x y).symm,λh=>h ss x⟩
section
variable{P:Program}{w:World}{K:PySem.W.Frag}{mg:Ò}{base:Heap}
abbrev zU:Ñ:=["_law_rows","_law_cuts_here","_law_tie","_law_words_here"]
abbrev m5:Ñ:=["_law_rows","_law_cuts_here","_law_tie","_law_words_here","_law_cut"]
def xf:ao zU ["_law_rows","_law_cuts_here","_law_tie"] (aT rZ):=⟨rfl,rfl,rfl,by decide +kernel,rfl,by decide +kernel,by decide +kernel⟩
def K9:m5.Nodup:=by decide +kernel
def q0m{f:Addr}{fd:FuncData}(F:bv K "_law_words" "_law_words" rZ f fd)(T:Txt mg)(GI:aS P w K mg base 1 "_law_is_round" ["_law_rows","_law_some"] KS)(GS:aS P w K mg base 1 "_law_sum" ["_law_one","_law_other_here"] zP):aE P w K mg base bD 2 f fd ["_law_rows","_law_cuts_here","_law_tie"] K8:=by
 refine F.gb xf (λvs H Q E h=>?_) λb0 H vs Q E hr h=>?_
 ·obtain⟨R,D,as,n,us,cs,z,rfl,_⟩:=h;rfl
 obtain⟨R,D,as,n,us,cs,z,rfl,hR,g,h7,hD,I,fj,q⟩:=h;have nd:=xf.nd;have un:=hr.ig;have hT:=g.tw;have gf:=g.few;have gp:=g.pos;have gl:=g.len;have sV:=hD.2.1;have lcs:=I.len;have pw:2 ^ (n.length - 1)<=64:=Bq (Nat.pow_le_pow_right (by decide) (show n.length - 1<=6 by omega)) (by decide);have lc:∀ c∈cs,c.Nodup/\c.length<=30:=λc hc=>by
  obtain⟨so,mc,_⟩:=I.gM hT gp hc;have:=sG hT (ga so) mc;exact⟨ga so,by omega⟩
 have l1:=UC (∃ ss,KK n z "double" ss) "double";have l2:=UC (∃ ss,KK n z "cut" ss) "cut";refine aW 3 nd (cC<|az ⟨(by show 0<=sizeLine;decide),λL hL=>?_⟩);have t0:=aH hL<|.lst [];have e0:(upd H L<|.lst []) L=some (Ls []):=aw;show Run _ _ _ [some<|.ref R,some<|.ref D,some<|.str z,some<|.ref L] (upd H L<|.lst []);generalize upd H L (.lst [])=Z0 at t0 e0;have UD:=k2f (z:=z) hT g.nm gp I;have oz:=hD.same t0;refine rV (λk H4=>ah Z0 H4/\(k=true↔∃ ss,KK n z "double" ss)) (λσ' H'=>σ'=[some<|.ref R,some<|.ref D,some<|.str z,some<|.ref L]/\ah H H'/\H' L=some (Ls<|wd (∃ ss,KK n z "double" ss) "double")) ?_ ?_ ?_ ?_
 ·refine b8 (nO un)<|fY (aT rZ) zU m5 1 (dD bx)<|ae 1 ⟨D,rfl,⟨_,ak.of oz.1⟩,λA hA=>?_⟩;refine K7 (σ:=[some<|.ref R,some<|.ref D,some<|.str z,some<|.ref L]) (λc=>z∈c/\bV n c=true) (bS<|by omega) oz hA (λcl C s0 H0 ex v v0 H' R' h=>a8 4 K9 h) (λcl C s0 H0 ex u c H' T' hc eu cZ h=>?_) (λcl C s0 H0 ex u H' R' h=>ae 4 h) λH' ks cZ eA hk=>?_
  ·obtain⟨nc,UE⟩:=lc c hc;have jQ:=hR.same<|t0.trans cZ;refine jL<|uq<|xI<|b8 k4<|ae 2<|ae 4 ⟨u,_,rfl,.inl<|ak.of eu,rfl,iu _,_,rfl,?_⟩;show if j6 (.str z) (c.map V.str)=true then _ else _;rw[iN]
   by_cases hz:z∈c
   ·rw[BL<|by simpa using hz];exact xJ<|xH<|bz GI hr<|aq<|ae 0<|aq<|ae 4<|az ⟨R,u,as,n,c,rfl,jQ,by omega,by omega,eu,λH5 s5=>⟨_,rfl,h _ _ s5 ⟨λe=>⟨hz,e⟩,λe=>e.2⟩⟩⟩
   ·rw[BK<|by simpa using hz];exact h _ _ (ah.refl _) ⟨λe=>absurd e (by decide),λe=>absurd e.1 hz⟩
  ·refine cC<|az ⟨(by show 0<=sizeLine;decide),λp hp=>?_⟩
   by_cases e:ks=[]
   ·subst e;exact⟨1,_,by decide,rS (k:=0) (xs:=[]) (ys:=[]) (λ_=>true) (ak.of<|(aH hp _) _ _ eA) (ak.of aw) rfl (λj x y hx _=>by simp at hx),_,rfl,cZ.trans<|aH hp _,λh=>absurd h (by decide),λh=>absurd rfl (hk.mpr<|UD.mpr h)⟩
   ·exact⟨1,_,by decide,uG (k:=1) (ak.of<|(aH hp _) _ _ eA) (ak.of (xs:=[]) aw) (by rw[Aa];exact λh=>e<|Bd.mp h),_,rfl,cZ.trans<|aH hp _,λ_=>UD.mp<|hk.mp e,λ_=>rfl⟩
 ·rintro H4 ⟨s4,hw⟩;refine fX<|jj<|ae 3 ⟨L,rfl,⟨_,s4 _ _ e0⟩,jc ⟨_,s4 _ _ e0,?_,bb ⟨rfl,dX (t0.trans s4) hL,?_⟩⟩⟩
  ·rw[Aa];exact bS<|by first | omega | (simp only[Ad,Dc];omega)
  ·rw[aw,xa<|hw.mp rfl];simp
 ·rintro H4 ⟨s4,hw⟩;refine bb ⟨rfl,t0.trans s4,?_⟩;rw[xc λh=>absurd (hw.mpr h)<|by decide]
  simpa using s4 _ _ e0
 rintro σ' Z1 ⟨rfl,t1,e1⟩;have UH:=q1o (z:=z) hT g.nm gp I;have UI:=hD.same t1;refine rV (λk H4=>ah Z1 H4/\(k=true↔∃ ss,KK n z "cut" ss)) (λσ' H'=>σ'=[some<|.ref R,some<|.ref D,some<|.str z,some<|.ref L]/\ah H H'/\H' L=some (Ls<|wd (∃ ss,KK n z "double" ss) "double"++wd (∃ ss,KK n z "cut" ss) "cut")) ?_ ?_ ?_ ?_
 ·refine b8 (nO un)<|fY (aT rZ) zU m5 1 (dD bx)<|ae 1 ⟨D,rfl,⟨_,ak.of UI.1⟩,λA hA=>?_⟩;refine K7 (σ:=[some<|.ref R,some<|.ref D,some<|.str z,some<|.ref L]) (λc=>z∈c/\∀ d,Nt.cS c [z] d->bV n d=true) (bS<|by omega) UI hA (λcl C s0 H0 ex v v0 H' R' h=>a8 4 K9 h) (λcl C s0 H0 ex u c H' T' hc eu cZ h=>?_) (λcl C s0 H0 ex u H' R' h=>ae 4 h) λH' ks cZ eA hk=>?_
  ·obtain⟨nc,UE⟩:=lc c hc;have jQ:=hR.same<|t1.trans cZ;refine jL<|uq<|xI<|b8 k4<|ae 2<|ae 4 ⟨u,_,rfl,.inl<|ak.of eu,rfl,iu _,_,rfl,?_⟩;show if j6 (.str z) (c.map V.str)=true then _ else _;rw[iN]
   by_cases hz:z∈c
   ·rw[BL<|by simpa using hz];refine xJ (xH<|bz GI hr<|aq<|ae 0<|aq<|bz GS hr<|aq<|ae 4<|aq<|cC<|aq<|ae 2<|az ⟨(by show 1<=sizeLine;decide),λp hp=>?_⟩);have sp:=aH hp<|.lst [.str z];exact az ⟨u,p,c,[z],rfl,sp _ _ eu,aw,by simp only[Ar,Dc];omega,nc,by simp,λl ss H5 s5 n5 e5 K6 x5=>az ⟨R,l,as,n,ss,rfl,jQ.same<|sp.trans s5,by omega,by omega,e5,λH6 s6=>⟨_,rfl,h _ _ ((sp.trans s5).trans s6) ⟨λe=>⟨hz,(zT x5).mp e⟩,λe=>(zT x5).mpr e.2⟩⟩⟩⟩
   ·rw[BK<|by simpa using hz];exact h _ _ (ah.refl _) ⟨λe=>absurd e (by decide),λe=>absurd e.1 hz⟩
  ·refine cC<|az ⟨(by show 0<=sizeLine;decide),λp hp=>?_⟩
   by_cases e:ks=[]
   ·subst e;exact⟨1,_,by decide,rS (k:=0) (xs:=[]) (ys:=[]) (λ_=>true) (ak.of<|(aH hp _) _ _ eA) (ak.of aw) rfl (λj x y hx _=>by simp at hx),_,rfl,cZ.trans<|aH hp _,λh=>absurd h (by decide),λh=>absurd rfl (hk.mpr<|UH.mpr h)⟩
   ·exact⟨1,_,by decide,uG (k:=1) (ak.of<|(aH hp _) _ _ eA) (ak.of (xs:=[]) aw) (by rw[Aa];exact λh=>e<|Bd.mp h),_,rfl,cZ.trans<|aH hp _,λ_=>UH.mp<|hk.mp e,λ_=>rfl⟩
 ·rintro H4 ⟨s4,hw⟩;refine fX<|jj<|ae 3 ⟨L,rfl,⟨_,s4 _ _ e1⟩,jc ⟨_,s4 _ _ e1,?_,bb ⟨rfl,dX (t1.trans s4) hL,?_⟩⟩⟩
  ·rw[Aa];exact bS<|by first | omega | (simp only[Ad,Dc];omega)
  ·rw[aw,xa<|hw.mp rfl];simp
 ·rintro H4 ⟨s4,hw⟩;refine bb ⟨rfl,t1.trans s4,?_⟩;rw[xc λh=>absurd (hw.mpr h)<|by decide]
  simpa using s4 _ _ e1
 rintro σ' Z2 ⟨rfl,t2,e2⟩;have UK:=k4s (z:=z) hT g.nm gp fj I;have jz:=hD.same t2;refine rV (λk H4=>ah Z2 H4/\(k=true↔∃ ss,KK n z "round" ss)) (λσ' H'=>σ'=[some<|.ref R,some<|.ref D,some<|.str z,some<|.ref L]/\ah H H'/\H' L=some (Ls<|wd (∃ ss,KK n z "double" ss) "double"++wd (∃ ss,KK n z "cut" ss) "cut"++wd (∃ ss,KK n z "round" ss) "round")) ?_ ?_ ?_ ?_
 ·refine b8 (nO un)<|fY (aT rZ) zU m5 1 (dD bx)<|ae 1 ⟨D,rfl,⟨_,ak.of jz.1⟩,λA hA=>?_⟩;refine K7 (σ:=[some<|.ref R,some<|.ref D,some<|.str z,some<|.ref L]) (λc=>z∉c/\∀ d,Nt.cS c [z] d->bV n d=true) (bS<|by omega) jz hA (λcl C s0 H0 ex v v0 H' R' h=>a8 4 K9 h) (λcl C s0 H0 ex u c H' T' hc eu cZ h=>?_) (λcl C s0 H0 ex u H' R' h=>ae 4 h) λH' ks cZ eA hk=>?_
  ·obtain⟨nc,UE⟩:=lc c hc;have jQ:=hR.same<|t2.trans cZ;refine jL<|uq<|xI<|b8 xx<|ae 2<|ae 4 ⟨u,_,rfl,.inl<|ak.of eu,rfl,iu _,_,rfl,?_⟩;show if(!j6 (.str z) (c.map V.str))=true then _ else _;rw[iN]
   by_cases hz:z∉c
   ·rw[BL<|by simpa using hz];refine xJ (xH<|bz GI hr<|aq<|ae 0<|aq<|bz GS hr<|aq<|ae 4<|aq<|cC<|aq<|ae 2<|az ⟨(by show 1<=sizeLine;decide),λp hp=>?_⟩);have sp:=aH hp<|.lst [.str z];exact az ⟨u,p,c,[z],rfl,sp _ _ eu,aw,by simp only[Ar,Dc];omega,nc,by simp,λl ss H5 s5 n5 e5 K6 x5=>az ⟨R,l,as,n,ss,rfl,jQ.same<|sp.trans s5,by omega,by omega,e5,λH6 s6=>⟨_,rfl,h _ _ ((sp.trans s5).trans s6) ⟨λe=>⟨hz,(zT x5).mp e⟩,λe=>(zT x5).mpr e.2⟩⟩⟩⟩
   ·rw[BK<|by simpa using hz];exact h _ _ (ah.refl _) ⟨λe=>absurd e (by decide),λe=>absurd e.1 hz⟩
  ·refine cC<|az ⟨(by show 0<=sizeLine;decide),λp hp=>?_⟩
   by_cases e:ks=[]
   ·subst e;exact⟨1,_,by decide,rS (k:=0) (xs:=[]) (ys:=[]) (λ_=>true) (ak.of<|(aH hp _) _ _ eA) (ak.of aw) rfl (λj x y hx _=>by simp at hx),_,rfl,cZ.trans<|aH hp _,λh=>absurd h (by decide),λh=>absurd rfl (hk.mpr<|UK.mpr h)⟩
   ·exact⟨1,_,by decide,uG (k:=1) (ak.of<|(aH hp _) _ _ eA) (ak.of (xs:=[]) aw) (by rw[Aa];exact λh=>e<|Bd.mp h),_,rfl,cZ.trans<|aH hp _,λ_=>UK.mp<|hk.mp e,λ_=>rfl⟩
 ·rintro H4 ⟨s4,hw⟩;refine fX<|jj<|ae 3 ⟨L,rfl,⟨_,s4 _ _ e2⟩,jc ⟨_,s4 _ _ e2,?_,bb ⟨rfl,dX (t2.trans s4) hL,?_⟩⟩⟩
  ·rw[Aa];exact bS<|by first | omega | (simp only[Ad,Dc];omega)
  ·rw[aw,xa<|hw.mp rfl];simp
 ·rintro H4 ⟨s4,hw⟩;refine bb ⟨rfl,t2.trans s4,?_⟩;rw[xc λh=>absurd (hw.mpr h)<|by decide]
  simpa using s4 _ _ e2
 rintro σ' Z3 ⟨rfl,t3,e3⟩;exact bN<|ae 3<|q L Z3 t3 e3
open PyProof.Rows (sortedS)
open Classical
def x0w{X:Cx}{P:Program}{w:World}:lR (XF P w) X (λ_ _ _=>False):=λ_ _ _ _ _ _ _ h=>by
 obtain⟨_,_,_,_,_,h,_⟩:=h;exact h.elim
def zV(K:PySem.W.Frag):Sp:=λvs H Q _=>∃(a:Addr) (ns:List Int),vs=[.ref a]/\ak K H a (ns.map V.int)/\ns.length<=63/\∀ H',Q (.bl true) H'
def k8j{n:Net}(T:av n)(h0:0 < n.length){z k:Str}{ss:Ñ}(h:KK n z k ss):words n z=[k]:=by
 have no:∀ v:Str,v≠k->wd (∃ ss,KK n z v ss) v=[]:=λv hv=>xc λ⟨b,hb⟩=>hv<|q7y T h0 hb h;have ys:wd (∃ ss,KK n z k ss) k=[k]:=xa ⟨ss,h⟩;unfold words;obtain⟨_,_,_,⟨rfl,_⟩ | ⟨rfl,_⟩ | ⟨rfl,_⟩⟩:=h
 ·rw[ys,no "cut" (by decide),no "round" (by decide)];rfl
 ·rw[ys,no "double" (by decide),no "round" (by decide)];rfl
 ·rw[ys,no "double" (by decide),no "cut" (by decide)];rfl
abbrev NW:Ñ:=["_law_script","_law_rows","_law_cuts_here","_law_row","_law_tie","_law_told"]
def oK:ao NW ["_law_script"] (aT pY):=⟨rfl,rfl,rfl,by decide +kernel,rfl,by decide +kernel,by decide +kernel⟩
def q8v{f:Addr}{fd:FuncData}{c:Str->Addr}(F:bv K "law" "law" pY f fd)(T:Txt mg)(cl:Cl K mg c)(GC:aS P w K mg base 9 "_law_cell_at" ["_law_script","_law_k"]<|yo K)(GB:aS P w K mg base 9 "_law_big" ["_law_script","_law_at"]<|E4 K)(GN:aS P w K mg base 9 "_law_net_by" ["_law_big_here","_law_most","_law_stem"] Hn)(GM:aS P w K mg base 9 "_law_small" ["_law_rows"] KL)(GU:aS P w K mg base 9 "_law_cuts" ["_law_rows"] K1)(GY:aS P w K mg base 9 "_law_copy" ["_law_rows"] Hx)(GK:fM P w K mg base 9 "kind_of" ["rows","tie"]<|Kq c)(GW:aS P w K mg base 9 "_law_words" ["_law_rows","_law_cuts_here","_law_tie"] K8):aE P w K mg base bD 10 f fd ["_law_script"] (zV K):=by
 refine F.gb oK (λvs H Q E h=>?_) λb0 H vs Q E hr h=>?_
 ·obtain⟨a,ns,rfl,_⟩:=h;rfl
 obtain⟨a,ns,rfl,hS,h63,q⟩:=h;have nd:=oK.nd;have un:=hr.ig;show Run _ _ _ [some<|.ref a,none,none,none,none,none] H;refine aW 1 nd (bz GM hr<|aq<|bz GN hr<|aq<|bz GB hr<|aq<|ae 0<|aq<|aC<|az ⟨a,ns,0,rfl,hS,by decide,λb1 H1 s1=>?_⟩);refine aq (aC<|aq<|bz GC hr<|aq<|ae 0<|aq<|aC<|az ⟨a,ns,1,rfl,s1.seq hS,by decide,λc2=>?_⟩);refine az ⟨b1,12,c2,rfl,by decide,by decide,λR0 Ht n0 H2 s2 n2 Hq yO K' hF0 La Lb Lc x0I=>?_⟩;have e24:((12:Int)).toNat=12:=rfl;rw[e24]at Lb Lc;have h00:0 < n0.length:=Dq.mpr hF0.some;refine az ⟨R0,Ht,n0,rfl,Hq,⟨yO,K',La.hr,h00,by omega,by omega⟩,λR as n H3 s3 hR g h7=>?_⟩;have hT:=g.tw;have gf:=g.few;have gp:=g.pos;have gl:=g.len;show Run _ _ _ [some<|.ref a,some<|.ref R,none,none,none,none] H3;refine aW 2 nd<|bz GU hr<|aq<|ae 1<|az ⟨R,as,n,rfl,hR,g,h7,λD us cs H4 s4 hD I=>?_⟩;have ju:=hR.same s4;have bF:=ju.len;show Run _ _ _ [some<|.ref a,some<|.ref R,some<|.ref D,none,none,none] H4;refine ia<|ae 1 ⟨R,rfl,⟨_,ak.of ju.lst⟩,?_⟩;refine ib (xs:=as.map λa=>V.ref a.1) (λi σ H'=>∃ u3 u4 u5:Option V,ah H4 H'/\σ=[some<|.ref a,some<|.ref R,some<|.ref D,u3,u4,u5]) ⟨_,_,_,ah.refl _,rfl⟩ ?_ ?_ ?_
 ·rintro i σ H' _ ⟨_,_,_,sm,_⟩;exact ak.of<|sm _ _ ju.lst
 ·rintro i x σ H5 hx ⟨u3,u4,u5,sm,rfl⟩;have fD:=(Ac.mp hx).1;rw[Aa]at fD;have jd:i < n.length:=by omega
  have ve:=ju.same sm;obtain⟨b,eb,dY,ebt,UM,er⟩:=ve.at jd;rw[Aj,eb]at hx;cases hx;refine a8 3 nd ?_;refine ia<|aY bK<|ae 3<|aC ⟨b.1,_,_,.ref b.2,rfl,rfl,aP.of ebt,rfl,b.2,rfl,⟨_,ak.of UM⟩,?_⟩;refine ib (xs:=(row n i).map V.str) (λi σ H'=>∃ u4 u5:Option V,ah H5 H'/\σ=[some<|.ref a,some<|.ref R,some<|.ref D,some<|.ref b.1,u4,u5]) ⟨_,_,ah.refl _,rfl⟩ ?_ ?_ ?_
  ·rintro j σ H' _ ⟨_,_,cZ,_⟩;exact ak.of<|cZ _ _ UM
  ·rintro j y σ H6 hy ⟨v4,v5,cZ,rfl⟩;rw[Aj,Az]at hy;obtain⟨z,hz,rfl⟩:=hy;have fj:z∈ag n:=by
    have:=As hz;rw[er]at this;exact Dh.mpr ⟨_,Bn jd,this⟩
   have Hj:=ve.same cZ;refine a8 4 nd ?_;refine aW 5 nd (SD GK hr x0w<|aq<|bz GY hr<|aq<|ae 1<|az ⟨R,as,n,rfl,Hj,by omega,λM bs H7 s7 n7 f7 hM=>?_⟩);refine aq<|ae 4<|az ⟨M,bs,n,z,rfl,hM,g.nm,hT,g.hr,gp,gl,gf,λk=>absurd fj k,λ_ u L wd ss H8 s8 nu nL eu eL ok=>?_⟩;have UN:=s7.trans s8;have UO:=(sm.trans cZ).trans UN;show Run _ _ _ [some<|.ref a,some<|.ref R,some<|.ref D,some<|.ref b.1,some<|.str z,some<|.ref u] H8;refine hV<|uq<|Nk<|Xd<|xH<|cF W3 T.Zo PyProof.Rows.boot_isinstance<|aq<|ae 5<|aq<|Xb (.ty "tuple") T.pZ PyProof.Rows.boot_tuple rfl (az ⟨_,_,_,true,rfl,.tup eu,HU K,true,rfl,cO ?_⟩);refine Nk<|b8 Mw<|cF dR T.len DX<|aq<|ae 5<|az ⟨u,_,rfl,.inr<|aP.of eu,aC ⟨rfl,_,rfl,cO ?_⟩⟩;refine Xf<|b8 (nO un)<|bz GW hr<|aq<|ae 1<|aq<|ae 2<|aq<|ae 4<|az ⟨R,D,as,n,us,cs,z,rfl,ju.same UO,g,h7,hD.same UO,I,fj,λA H9 s9 eA=>?_⟩;rw[k8j hT gp ok.kk]at eA;refine cC (aq<|aY bK<|ae 5<|aC ⟨u,_,_,.str wd,rfl,rfl,aP.of<|s9 _ _ eu,rfl,az ⟨(by show 1<=sizeLine;decide),λp hp=>?_⟩⟩);have sp:=aH hp<|.lst [.str wd];exact⟨1,true,by decide,q2m (zs:=[wd]) (sp _ _ eA) aw,_,rfl,cO<|bb<|bb ⟨_,_,((cZ.trans UN).trans s9).trans sp,rfl⟩⟩
  ·rintro σ H6 ⟨v4,v5,cZ,rfl⟩;exact bb ⟨_,_,_,sm.trans cZ,rfl⟩
 ·rintro σ H5 ⟨u3,u4,u5,sm,rfl⟩;exact bN<|CD<|q _
end
end E7
namespace E7
open PySem L2
def all_mk{l:PySem.W.OpenLaw}{w:World}{K:PySem.W.Frag}{h:Heap}{mg:Ò}{fa:Addr}(X:K.In h)(G:h.Ns mainGlobals mg)(C7:mg "law" = some (.ref fa))
  (h1:Df K "ends_round" yc) (h2:Df K "ends_in_order" yd) (h3:Df K "turned_left" EC) (h4:Df K "turned_right" ED) (h5:Df K "other_ends" EE) (h6:Df K "ties_by_end" ye) (h7:Df K "left_steps" yf) (h8:Df K "right_steps" yg) (h9:Df K "points_of" yh) (Ld:Df K "links_of" EG) (Le:Df K "summed" EH) (Lf:Df K "odd_points" iq) (Lg:Df K "cut_of" yj) (Lh:Df K "walkers_of" pT) (Li:Df K "walker_from" pU) (Lj:Df K "core_of" uI) (Ln:Df K "cores_of" yk) (Lp:Df K "parted" yl) (Lq:Df K "points_by" EI) (Lr:Df K "lowered" EJ) (Lv:Df K "_law_cell_at" EL) (Lw:Df K "_law_big" pV) (Lx:Df K "_law_names" ER) (Ly:Df K "_law_seats" EV) (Lz:Df K "_law_other" EW) (LA:Df K "_law_step" EX) (LD:Df K "_law_face" EZ) (LI:Df K "_law_put" pW) (LJ:Df K "_law_net_by" pX) (LL:Df K "_law_copy" ym) (LN:Df K "_law_sum" uK) (LO:Df K "_law_is_round" yn) (LU:Df K "ties_of" yi) (LV:Df K "need_tie" EF) (LW:Df K "kind_of" EK) (LX:Df K "_law_cuts" uJ) (LY:Df K "_law_words" rZ) (LZ:Df K "_law_small" E1) (L0:Df K "_law_less" E2) (L3:Df K "_law_joined" E3) (hl:Df K "law" pY)
  (qc:Kl K=true)
  (z:∀ x∈(["isinstance","tuple","str","int","bool","list","dict","set","enumerate","zip","len","range","sorted","max","all","ValueError"]:Ñ),PySem.W.nsIn K mainGlobals x=some none) :
  ∃ fd:FuncData,(∀(s:Shared) (v:Value),BindsTo s fd ⟨[v],[]⟩ [("_law_script",v)])/\∀ base:Heap,K.In base->base.Ns mainGlobals mg->aE l.prog w K mg base bD 10 fa fd ["_law_script"] (zV K):=by
 have T:Txt mg:=⟨CP X G (z _<|by simp),CP X G (z _<|by simp),CP X G (z _<|by simp),CP X G (z _<|by simp),CP X G (z _<|by simp),CP X G (z _<|by simp),CP X G (z _<|by simp),CP X G (z _<|by simp),CP X G (z _<|by simp),CP X G (z _<|by simp),CP X G (z _<|by simp),CP X G (z _<|by simp),CP X G (z _<|by simp),CP X G (z _<|by simp),CP X G (z _<|by simp),CP X G<|z _<|by simp⟩;have cl:=x0n X G qc;refine hl.law X G C7 (λ_ _ _ _ _ _ s v=> .of_eq rfl) λbase f fd F=>?_;have G1:aS l.prog w K mg base 1 "ends_round" ["row"] vw:=h1.has X G (λ_ _ _ _ _ _=>gQ λ_=>rfl) λF=>q5f F T;have G2:aS l.prog w K mg base 2 "ends_in_order" ["rows"] HL:=h2.has X G (λ_ _ _ _ _ _=>gQ λ_=>rfl) λF=>q1h F T (G1.mono<|by decide);have G3:aS l.prog w K mg base 1 "turned_left" ["end","many"] (jv λj=>j+1):=h3.has X G (λ_ _ _ _ _ _=>gR λ_ _=>rfl) λF=>q37 F T;have G4:aS l.prog w K mg base 1 "turned_right" ["end","many"] (jv λj=>j - 1):=h4.has X G (λ_ _ _ _ _ _=>gR λ_ _=>rfl) λF=>k66 F T;have G5:aS l.prog w K mg base 2 "other_ends" ["rows"] mI:=h5.has X G (λ_ _ _ _ _ _=>gQ λ_=>rfl) λF=>x1c F T (G1.mono<|by decide);have G6:aS l.prog w K mg base 2 "ties_by_end" ["rows"] mQ:=h6.has X G (λ_ _ _ _ _ _=>gQ λ_=>rfl) λF=>x02 F T (G1.mono<|by decide);have G7:aS l.prog w K mg base 3 "left_steps" ["rows"] (jy 1):=h7.has X G (λ_ _ _ _ _ _=>gQ λ_=>rfl) λF=>x0c F T (G5.mono<|by decide) (G3.mono<|by decide);have G8:aS l.prog w K mg base 3 "right_steps" ["rows"] (jy (-1)):=h8.has X G (λ_ _ _ _ _ _=>gQ λ_=>rfl) λF=>x0e F T (G5.mono<|by decide) (G4.mono<|by decide);have G15:aS l.prog w K mg base 1 "walker_from" ["lefts","rights","first"] qJ:=Li.has X G (λ_ _ _ _ _ _=>rJ λ_ _ _=>rfl) λF=>x01 F T;have G14:aS l.prog w K mg base 4 "walkers_of" ["rows"] Ip:=Lh.has X G (λ_ _ _ _ _ _=>gQ λ_=>rfl) λF=>q77 F T (G7.mono<|by decide) (G8.mono<|by decide) (G6.mono<|by decide) (G2.mono<|by decide) (G15.mono<|by decide);have G16:aS l.prog w K mg base 3 "core_of" ["rows","walker"] J3:=Lj.has X G (λ_ _ _ _ _ _=>gR λ_ _=>rfl) λF=>q50 F T (G6.mono<|by decide);have G17:aS l.prog w K mg base 5 "cores_of" ["rows"] J9:=Ln.has X G (λ_ _ _ _ _ _=>gQ λ_=>rfl) λF=>q2o F T (G14.mono<|by decide) (G16.mono<|by decide);have G9:aS l.prog w K mg base 1 "points_of" ["rows"] JP:=h9.has X G (λ_ _ _ _ _ _=>gQ λ_=>rfl) λF=>q9z F T;have G10:aS l.prog w K mg base 1 "links_of" ["rows"] IU:=Ld.has X G (λ_ _ _ _ _ _=>gQ λ_=>rfl) λF=>q2g F T;have UP:aS l.prog w K mg base 2 "cut_of" ["rows","points"] zC:=Lg.has X G (λ_ _ _ _ _ _=>gR λ_ _=>rfl) λF=>q7e F T (G10.mono<|by decide);have UQ:aS l.prog w K mg base 1 "odd_points" ["rows","some"] zE:=Lf.has X G (λ_ _ _ _ _ _=>gR λ_ _=>rfl) λF=>q9l F T;have UR:aS l.prog w K mg base 1 "summed" ["one","other"] zD:=Le.has X G (λ_ _ _ _ _ _=>gR λ_ _=>rfl) λF=>k7v F T;have G20:aS l.prog w K mg base 2 "lowered" ["steps","points","odds"] Ke:=Lr.has X G (λ_ _ _ _ _ _=>rJ λ_ _ _=>rfl) λF=>q65 F T (UR.mono<|by decide);have G19:aS l.prog w K mg base 4 "points_by" ["rows","odds"] qX:=Lq.has X G (λ_ _ _ _ _ _=>gR λ_ _=>rfl) λF=>x0q F T (G9.mono<|by decide) (G20.mono<|by decide) (UQ.mono<|by decide) (UP.mono<|by decide);have G18:aS l.prog w K mg base 6 "parted" ["rows","some"] Kf:=Lp.has X G (λ_ _ _ _ _ _=>gR λ_ _=>rfl) λF=>k7z F T (G17.mono<|by decide) (UP.mono<|by decide) (G19.mono<|by decide) (UQ.mono<|by decide) (UR.mono<|by decide);have UT:aS l.prog w K mg base 1 "_law_cell_at" ["_law_script","_law_k"] (yo K):=Lv.has X G (λ_ _ _ _ _ _=>gR λ_ _=>rfl) λF=>Zv F T;have G22:aS l.prog w K mg base 2 "_law_big" ["_law_script","_law_at"] (E4 K):=Lw.has X G (λ_ _ _ _ _ _=>gR λ_ _=>rfl) λF=>Zy F T (UT.mono<|by decide);have G23:aS l.prog w K mg base 1 "_law_names" ["_law_stem","_law_many"] E5:=Lx.has X G (λ_ _ _ _ _ _=>gR λ_ _=>rfl) λF=>ZA F T;have G24:aS l.prog w K mg base 1 "_law_seats" ["_law_rows"] E6:=Ly.has X G (λ_ _ _ _ _ _=>gQ λ_=>rfl) λF=>ZD F T;have G25:aS l.prog w K mg base 1 "_law_other" ["_law_rows","_law_seats_here","_law_end"] E8:=Lz.has X G (λ_ _ _ _ _ _=>rJ λ_ _ _=>rfl) λF=>ZE F T;have G26:aS l.prog w K mg base 2 "_law_step" ["_law_rows","_law_seats_here","_law_end","_law_turn"] E9:=LA.has X G (λ_ _ _ _ _ _=>Ny λ_ _ _ _=>rfl) λF=>ZF F T (G25.mono<|by decide);have G27:aS l.prog w K mg base 3 "_law_face" ["_law_rows","_law_seats_here","_law_end"] E':=LD.has X G (λ_ _ _ _ _ _=>rJ λ_ _ _=>rfl) λF=>ZH F T (G26.mono<|by decide);have G28:aS l.prog w K mg base 4 "_law_put" ["_law_rows","_law_big_here","_law_tie","_law_point"] G0:=LI.has X G (λ_ _ _ _ _ _=>Ny λ_ _ _ _=>rfl) λF=>q88 F T (G24.mono<|by decide) (G27.mono<|by decide);have G29:aS l.prog w K mg base 5 "_law_net_by" ["_law_big_here","_law_most","_law_stem"] Hn:=LJ.has X G (λ_ _ _ _ _ _=>rJ λ_ _ _=>rfl) λF=>q82 F T (G23.mono<|by decide) (G28.mono<|by decide);have G30:aS l.prog w K mg base 1 "_law_copy" ["_law_rows"] Hx:=LL.has X G (λ_ _ _ _ _ _=>gQ λ_=>rfl) λF=>q4w F T;have G33:aS l.prog w K mg base 1 "ties_of" ["rows"] qY:=LU.has X G (λ_ _ _ _ _ _=>gQ λ_=>rfl) λF=>q62 F T;have G34:fM l.prog w K mg base 2 "need_tie" ["rows","tie"] (Km<|jI K):=LV.wq X G (λ_ _ _ _ _ _=>gR λ_ _=>rfl) λF=>q6z F T cl (G33.mono<|by decide);have G35:fM l.prog w K mg base 8 "kind_of" ["rows","tie"] (Kq<|jI K):=LW.wq X G (λ_ _ _ _ _ _=>gR λ_ _=>rfl) λF=>q55 F T cl (G34.mono<|by decide) (G18.mono<|by decide);have G32:aS l.prog w K mg base 1 "_law_is_round" ["_law_rows","_law_some"] KS:=LO.has X G (λ_ _ _ _ _ _=>gR λ_ _=>rfl) λF=>q81 F T;have UU:aS l.prog w K mg base 1 "_law_sum" ["_law_one","_law_other_here"] zP:=LN.has X G (λ_ _ _ _ _ _=>gR λ_ _=>rfl) λF=>q3z F T;have G40:aS l.prog w K mg base 1 "_law_joined" ["_law_rows","_law_tie"] Ks:=L3.has X G (λ_ _ _ _ _ _=>gR λ_ _=>rfl) λF=>q3s F T;have G39:aS l.prog w K mg base 2 "_law_less" ["_law_rows"] KI:=L0.has X G (λ_ _ _ _ _ _=>gQ λ_=>rfl) λF=>q5g F T (G40.mono<|by decide);have G38:aS l.prog w K mg base 3 "_law_small" ["_law_rows"] KL:=LZ.has X G (λ_ _ _ _ _ _=>gQ λ_=>rfl) λF=>q1d F T (G39.mono<|by decide);have G36:aS l.prog w K mg base 2 "_law_cuts" ["_law_rows"] K1:=LX.has X G (λ_ _ _ _ _ _=>gQ λ_=>rfl) λF=>q5j F T (UU.mono<|by decide);have G37:aS l.prog w K mg base 2 "_law_words" ["_law_rows","_law_cuts_here","_law_tie"] K8:=LY.has X G (λ_ _ _ _ _ _=>rJ λ_ _ _=>rfl) λF=>q0m F T (G32.mono<|by decide) (UU.mono<|by decide);exact q8v F T cl (UT.mono<|by decide) (G22.mono<|by decide) (G29.mono<|by decide) (G38.mono<|by decide) (G36.mono<|by decide) (G30.mono<|by decide) (G35.mono<|by decide)<|G37.mono<|by decide
def walk{l:PySem.W.OpenLaw}{q:Program}{loose:Ñ}{XP:Ò->Heap->Prop}{YP:World->Heap->Prop}{d:DefRec}{K:Params->PySem.W.Frag}(hn:l.most=some 63)(lU:d.params.defaults=[])
  (hY:∀(w:World) (h:Heap),YP w h->(K w.params).In h)
  (F : ∀ (w : World) (mg : Str → Option Value) (fa : Addr) (h : Heap), (K w.params).In h → h.Ns mainGlobals mg → mg d.name = some (.ref fa) →
   ∃ fd:FuncData,(∀(s:Shared) (u:Value),BindsTo s fd ⟨[u],[]⟩ [("_law_script",u)])/\∀ base:Heap,(K w.params).In base->base.Ns mainGlobals mg->aE l.prog w (K w.params) mg base bD 10 fa fd ["_law_script"] (zV<|K w.params)) :
  PySem.W.WalkO q loose XP YP l.row.toRowW d [] (λf vs=>PySem.call f vs):=
 L2.lV (n:=63) (k:=10) (x:= "_law_script") (CX:=λ_=>bD) (sp:=λw=>zV<|K w.params) hn (by decide) lU ⟨rfl,by decide,by decide⟩ hY F (λ_ _ a ns hl _ hS=>⟨a,ns,rfl,hS,hl,λ_=>rfl⟩) λ_ _ _ _ _ z=>z
end E7
-- see NOTE.md
namespace PySem.W.Fast
def tw15595623380871615802:=()
def tw13681889488083086749:=()
def tw1988675689149479953:=()
def tw17320249214747876096:=()
def tw3951579415210824268:=()
def tw1653420577345891160:=()
def tw14236531620982847261:=()
def tw10310297648375868081:=()
def tw11582588079390742162:=()
def tw16979667389264331877:=()
def tw14762585912768769949:=()
def tw8278414071604802539:=()
def tw12971975599144995152:=()
def tw9251940115855000394:=()
def tw11418607769819737166:=()
def tw12469684244059668783:=()
def tw13888731882890427697:=()
def tw4585202483264509927:=()
def tw2095353132726578018:=()
def tw6312307320552076716:=()
def tw2399880917828960185:=()
def tw11765610714891243856:=()
def tw17420542869076446993:=()
def tw10368454692788437995:=()
def tw11276954590263922834:=()
def tw7286527560994194043:=()
def tw3446373422567244938:=()
def tw5787977412111864:=()
def tw12668974404948856310:=()
def tw8423234679121836113:=()
def tw5345739439249319174:=()
def tw10013899238294981015:=()
def tw4519708346086866151:=()
def tw12337872890425080029:=()
def tw15677345607592073230:=()
def tw908985555943492969:=()
def tw5530580054291573379:=()
def tw11526806219987268180:=()
def tw2816475963062391575:=()
def tw702780170626265614:=()
def tw4797042991611781296:=()
def tw13304721602305503495:=()
def tw6883142796812836697:=()
def tw4928418839570194032:=()
def tw11921257925919054879:=()
def tw13909551474040058154:=()
def tw12342582355024095711:=()
def tw10517089852436901032:=()
def tw14235639464660199057:=()
def tw4337408209941995601:=()
def tw1279043955722065016:=()
def tw2935594060180830742:=()
def tw7193576350865268607:=()
def tw13168440640366240325:=()
def tw5757645278444813554:=()
def tw14857751716740270495:=()
def tw5898298986096839343:=()
def tw12407625600449819525:=()
def tw4173563590047271358:=()
def tw4971925290019002176:=()
def tw3774876430791995729:=()
def tw18416230156211012541:=()
def tw4219058861977450889:=()
def tw7318826763901935017:=()
def tw514192882803293324:=()
def tw4549087794717211423:=()
def tw13633057228699068408:=()
def tw11561027530456480072:=()
def tw5374200656992002968:=()
def tw4142578265827642353:=()
def tw17109524329502668936:=()
def tw1811436253163833556:=()
def tw13150169085145839691:=()
def tw15609311482957560282:=()
def tw7979685293649249586:=()
def tw16594311416550327194:=()
def tw17717455959597990816:=()
def tw14110587971789783511:=()
def tw7735754356593643101:=()
def tw10484690012082710076:=()
def tw15703177587440293843:=()
def tw3654340326070161080:=()
def tw14232887628622806120:=()
def tw6466114423668651445:=()
def tw16812304490176860494:=()
def tw14799759349122983723:=()
def tw10720975717638607360:=()
def tw902970044337910194:=()
def tw11509200903264534898:=()
def tw14586147123336520093:=()
def tw15821648266967712183:=()
def tw12420658808937967273:=()
def tw15645224793054534043:=()
def tw7184102424347496227:=()
def tw17644952716080706285:=()
def tw17700277272773296486:=()
def tw12995197421161667101:=()
def tw12077306549197944324:=()
def tw4459457513245897057:=()
def tw1863031776665503325:=()
def tw18424996971258102300:=()
def tw3396234938280191069:=()
def tw6254627257696753547:=()
def tw18430422148063365519:=()
def tw9841377345386032766:=()
def tw6503706549908972684:=()
end PySem.W.Fast
open PySem PySem.W PyProof.Rows
set_option maxRecDepth 100000 in
set_option maxHeartbeats 0 in
theorem PySem.Challenge.cw_threewebs_k52_just_one_kind_holds : PySem.Challenge.rw_threewebs_k52_just_one_kind.Holds := by
 w_on;o_law;k_head;(case hw=>w_witness2)
 k_fill
 refine E7.walk (l:=PySem.Challenge.rw_threewebs_k52_just_one_kind) rfl rfl (λw h Y=>PySem.W.kIn_of Y) ?F
 case F=>
  intro w mg fa h KX G ui;refine' E7.all_mk KX G ui ?h1 ?h2 ?h3 ?h4 ?h5 ?h6 ?h7 ?h8 ?h9 ?Ld ?Le ?Lf ?Lg ?Lh ?Li ?Lj ?Ln ?Lp ?Lq ?Lr ?Lv ?Lw ?Lx ?Ly ?Lz ?LA ?LD ?LI ?LJ ?LL ?LN ?LO ?LU ?LV ?LW ?LX ?LY ?LZ ?L0 ?L3 ?h0 ?qc ?zz
  case h1 | h2 | h3 | h4 | h5 | h6 | h7 | h8 | h9 | Ld | Le | Lf | Lg | Lh | Li | Lj | Ln | Lp | Lq | Lr | Lv | Lw | Lx | Ly | Lz | LA | LD | LI | LJ | LL | LN | LO | LU | LV | LW | LX | LY | LZ | L0 | L3 | h0=>refine' L2.ut ?a ?l ?c ?k;(case a=>k_is);(case l=>k_is);(case c=>k_is);(case k=>k_is)
  case qc=>kernel_rfl
  case zz=>
   refine' List.forall_mem_cons.mpr ⟨?_,?_⟩;k_is
   iterate 15 (refine' List.forall_mem_cons.mpr ⟨?_,?_⟩;k_is)
   exact λx hx=>nomatch hx

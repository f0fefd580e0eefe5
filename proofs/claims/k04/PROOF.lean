import PyProof.Rows.All
import Wide.All
import OpenK.AllK
import Wide.FinOn
import Lean
import PyProof.EqAt
import PyProof.EqKinds
import PyProof.TupleCall
import KE.KDictLaws
import KE.KDictList
import KE.KDictSum
import KE.KIsAll
import KE.KSortTup
import KE.KUnpack
import KE.KUnpackStar
import PyProof.AttrMissSeq
import PyProof.Conv_int_bool
import PyProof.DictItems
import PyProof.DictIter
import PyProof.DictList
import PyProof.EnumFor
import PyProof.EnumMake
import PyProof.EnumStmt
import PyProof.ExcArgsOwn
import PyProof.ExcAttrAll.ValueError
import PyProof.ExcBaseAll.ValueError
import PyProof.NeKinds
import PyProof.NsDelKeeps
import PyProof.Rows.CatchOwn
import PyProof.Rows.CountFlat
import PyProof.Rows.EnumRows
import PyProof.Rows.FStr
import PyProof.Rows.SortRev
import PyProof.Rows.StrSplitJoin
import PyProof.Rows.StrWeight2
import PyProof.Rows.TupDisplay
import PyProof.RulesTry
import PyProof.SetNew
import PyProof.SetRoads
import PyProof.StationsW
import PyProof.TupleKey
import PyProof.WalkInts
import PyProof.ZipIter
import PySem.Challenge.RW_threewebs_k04_rows_vetted
local macro_rules|`(tactic|omega)=>`(tactic|first|lia|omega +splitDisjunctions)
abbrev BJ:=@PySem.wpAny_bind
abbrev BK:=@if_neg
abbrev BL:=@PySem.wpAny_pure
abbrev BR:=@if_pos
abbrev BW:=@decide_eq_true
abbrev BX:=@decide_eq_false
abbrev BZ:=@of_decide_eq_true
abbrev CG:=@congrArg
abbrev CJ:=@Ne.symm
abbrev CK:=@PySem.wpAny_holding
abbrev CN:=@decide_eq_true_iff
abbrev CP:=@PySem.F.plainAttrs_list
abbrev CQ:=@if_false
abbrev CT:=@PySem.W.mg_none_of
abbrev CV:=@Classical.byContradiction
abbrev CW:=@PySem.wpAny_mono
abbrev CZ:=@PySem.boot_len
abbrev DG:=@PySem.wpAny_setState_of
abbrev DK:=@PySem.mem_of_lookup
abbrev DN:=@PySem.Heap.SameBut.update
abbrev DP:=@if_true
abbrev DQ:=@PySem.wpAny_call_entry
abbrev DR:=@PySem.wpAny_newObj_type
abbrev DW:=@PySem.wpAny_setField
abbrev DX:=@PySem.F.slot_list_insert
abbrev DY:=@PySem.F.type_list_insert
abbrev EY:=@PySem.sizeLine_eq
abbrev FJ:=@PySem.wpAny_standAt
abbrev FN:=@PySem.W.kia_one
abbrev FP:=@of_decide_eq_false
abbrev FQ:=@or_false
abbrev FT:=@PyProof.Rows.boot_isinstance
abbrev FW:=@PySem.tupleKind_room_in1
abbrev FZ:=@PySem.Around.under_plainId
abbrev GD:=@PySem.wpAny_truthy_bool
abbrev GJ:=@decide_eq_true_eq
abbrev GK:=@PySem.codeAny_builtin
abbrev GQ:=@PyProof.Rows.wpS_bind
abbrev GR:=@PySem.wpAny_comprehension_free
abbrev GX:=@PySem.wpAny_typeNameOfWhole_itemiter
abbrev GZ:=@PySem.F.slot_dict_itemiterator_next
abbrev HD:=@PySem.Calls.callWith_builtin
abbrev HJ:=@PyProof.Rows.F.plain_set_update_loop
abbrev HN:=@PySem.wpAny_passesOwn
abbrev HS:=@Prod.ext
abbrev HW:=@PySem.wpAny_typeNameOf_itemiter
abbrev HX:=@PySem.wpAny_field
abbrev HY:=@PySem.codeAny_mono
abbrev IK:=@beq_self_eq_true
abbrev IV:=@PySem.wpAny_callSpecial?_slot
abbrev IW:=@PySem.W.mg_of
abbrev JB:=@PySem.plainId_quiet
abbrev JF:=@PySem.wpAny_attempt
abbrev JG:=@PySem.wpAny_Call_Name_kw
abbrev JH:=@PySem.wpAny_rule
abbrev JK:=@PySem.wpAny_setField_rec
abbrev JL:=@PySem.W.cellsFrom_some
abbrev JM:=@PySem.wpAny_of_eq
abbrev JN:=@PyProof.Rows.wpS_pure
abbrev JQ:=@List.Pairwise.map
abbrev JR:=@PySem.Obj.isFreed_of_fields
abbrev JT:=@PyProof.Rows.callWith_type1
abbrev JV:=@PySem.Calls.evalArgs_plain
abbrev JW:=@PySem.wpAny_newList
abbrev JX:=@PySem.PassesOwn.never
abbrev JZ:=@PySem.codeAny_of_tree
abbrev KC:=@PySem.W.KasT.kasWp_bind
abbrev KD:=@PyProof.Rows.F.entry_set_update_loop
abbrev KH:=@PySem.wpAny_typeOf
abbrev KJ:=@PyProof.Rows.boot_sorted
abbrev KN:=@PySem.Obj.data_mapFields
abbrev KQ:=@beq_iff_eq
abbrev KR:=@PySem.wpAny_seqItems
abbrev KY:=@decide_eq_false_iff_not
abbrev KZ:=@PySem.wpAny_pyIter_list
abbrev LC:=@PySem.wpAny_storeSet_of
abbrev LK:=@PySem.wpAny_pyIter_slot
abbrev LQ:=@bne_self_eq_false
abbrev LR:=@PySem.wpAny_isOneOf_itemiter
abbrev MF:=@List.eraseIdx_append_of_lt_length
abbrev MJ:=@PyProof.Rows.listUpdate_at
abbrev MK:=@PySem.wpAny_askSetting
abbrev MN:=@PySem.builtinLookup_eq_fast
abbrev MP:=@PyProof.Rows.boot_max
abbrev NK:=@PySem.F.slot_list_pop
abbrev NQ:=@PySem.F.type_list_pop
abbrev NZ:=@PyProof.Rows.boot_all
abbrev OD:=@List.eraseIdxIfInBounds_toArray
abbrev OJ:=@PySem.F.args_dict_itemiterator_next_1
abbrev PB:=@PySem.call_meets
abbrev PJ:=@PySem.wpAny_specialOf
abbrev PK:=@PySem.codeAny_call_builtin
abbrev PL:=@PyProof.Rows.listItems_at
abbrev PN:=@PyProof.Rows.wpS_forRange
abbrev PX:=@PySem.F.entry_dict_itemiterator_next
abbrev QB:=@PySem.F.slot_dict_itemiterator_iter
abbrev QC:=@PySem.wpAny_setEntries_of
abbrev QD:=@PySem.wpAny_fieldsOf
abbrev QF:=@PySem.wpAny_newTuple
abbrev QG:=@PyProof.Rows.seqEpoch_at
abbrev QJ:=@PySem.Calls.spliced_cons
abbrev QK:=@List.lookup_append
abbrev QL:=@List.getElem_range
abbrev QM:=@List.filter_append
abbrev QS:=@List.perm_ext_iff_of_nodup
abbrev QT:=@Option.isSome_map
abbrev QV:=@Nat.lt_of_succ_lt
abbrev QW:=@PySem.wpAny_dictEntries
abbrev QX:=@Nat.lt_trichotomy
abbrev QZ:=@PySem.wpAny_call
abbrev RB:=@List.drop_eq_getElem_cons
abbrev RD:=@PySem.F.slot_set_contains
abbrev RG:=@PySem.wpAny_isInstance
abbrev RJ:=@List.ext_getElem
abbrev RK:=@PySem.wpAny_forIn_list
abbrev RL:=@List.eraseIdx_cons_succ
abbrev RM:=@PySem.F.plainAttrs_dict
abbrev RN:=@PySem.wpAny_execs_nil
abbrev RP:=@List.of_mem_zip
abbrev RQ:=@PySem.typeLookup_type
abbrev RT:=@Nat.zero_lt_one
abbrev RV:=@Nat.min_eq_left
abbrev RW:=@PySem.wpAny_dictEpoch
abbrev RX:=@PySem.wpAny_alloc
abbrev RZ:=@List.drop_of_length_le
abbrev SJ:=@List.sum_replicate_nat
abbrev SM:=@Bool.false_and
abbrev SQ:=@List.getElem?_toArray
abbrev SX:=@List.length_filter_le
abbrev TF:=@PyProof.Rows.boot_int
abbrev TJ:=@PySem.F.plain_set_new
abbrev TQ:=@PyProof.Rows.boot_set
abbrev TV:=@PySem.F.slot_dict_get
abbrev TX:=@Bool.or_false
abbrev TY:=@Bool.true_and
abbrev UG:=@Nat.lt_trans
abbrev UJ:=@List.all_map
theorem Z8:8<=PySem.sizeLine:=by decide
theorem Z0:0<=PySem.sizeLine:=by decide
theorem Z2:2<=PySem.sizeLine:=by decide
theorem Z1:1<=PySem.sizeLine:=by decide
set_option Elab.async false
set_option linter.all false
set_option maxRecDepth 100000
set_option maxHeartbeats 4000000
abbrev Aa:=@List.length_map
abbrev Ab:=@List.getElem?_eq_getElem
abbrev Ac:=@List.getElem?_eq_some_iff
abbrev Ad:=@List.mem_cons_self
abbrev Ae:=@List.length_append
abbrev Af:=@List.getElem?_map
abbrev Ag:=@List.mem_singleton
abbrev Ah:=@PySem.Heap.get?_push_of_some
abbrev Ai:=@List.mem_cons
abbrev Aj:=@List.mem_cons_of_mem
abbrev Ak:=@Nat.le_refl
abbrev Al:=@List.mem_map
abbrev Am:=@List.map_append
abbrev An:=@List.mem_append
abbrev Ao:=@List.length_cons
abbrev Ap:=@List.mem_append_right
abbrev Aq:=@List.mem_of_getElem?
abbrev Ar:=@PySem.Heap.get?_push_size
abbrev As:=@PySem.Heap.lt_size
abbrev At:=@Bool.false_ne_true
abbrev Au:=@List.size_toArray
abbrev Av:=@Option.map_eq_some_iff
abbrev Aw:=@List.mem_append_left
abbrev Ax:=@Bool.false_eq_true
abbrev Ay:=@List.getElem?_append_left
abbrev Az:=@Int.toNat_natCast
abbrev Ba:=@List.append_assoc
abbrev Bb:=@List.map_cons
abbrev Bc:=@Nat.le_of_lt
abbrev Bd:=@List.getElem?_append_right
abbrev Be:=@List.length_take
abbrev Bf:=@List.length_eq_zero_iff
abbrev Bg:=@Nat.lt_of_lt_of_le
abbrev Bh:=@Array.getElem?_toList
abbrev Bi:=@Int.emod_nonneg
abbrev Bj:=@List.append_nil
abbrev Bk:=@Bool.and_eq_true
abbrev Bm:=@List.pairwise_iff_getElem
abbrev Bn:=@List.nodup_cons
abbrev Bo:=@Int.emod_lt_of_pos
abbrev Bp:=@Nat.ne_of_lt
abbrev Bq:=@List.take_length
abbrev Br:=@List.getElem?_of_mem
abbrev Bs:=@PySem.Heap.get?_update_other
abbrev Bt:=@List.not_mem_nil
abbrev Bu:=@List.mem_range
abbrev Bv:=@Nat.zero_le
abbrev Bw:=@List.getElem?_eq_none
abbrev Bx:=@Array.length_toList
abbrev By:=@List.take_add_one
abbrev Bz:=@Array.getElem?_eq_getElem
abbrev Cb:=@List.getElem_mem
abbrev Cc:=@List.nodup_append
abbrev Cd:=@List.nodup_nil
abbrev Ce:=@Nat.lt_succ_of_lt
abbrev Cf:=@List.map_map
abbrev Cg:=@List.flatten_cons
abbrev Ch:=@PySem.Heap.get?_update_self
abbrev Ci:=@List.contains_iff_mem
abbrev Cj:=@List.take_append_drop
abbrev Ck:=@List.length_pos_iff
abbrev Cm:=@Nat.mod_eq_of_lt
abbrev Cn:=@List.perm_append_comm
abbrev Co:=@List.count_cons_of_ne
abbrev Cp:=@Bool.eq_iff_iff
abbrev Cq:=@List.all_eq_true
abbrev Cr:=@Nat.le_trans
abbrev Cs:=@List.count_cons_self
abbrev Ct:=@Nat.lt_irrefl
abbrev Cu:=@Array.getD_eq_getD_getElem?
abbrev Cv:=@List.length_singleton
abbrev Cw:=@Nat.ne_of_gt
abbrev Cy:=@Nat.lt_or_ge
abbrev Cz:=@List.mem_filter
abbrev Da:=@List.nodup_iff_pairwise_ne
abbrev Db:=@List.foldl_cons
abbrev Dc:=@PySem.Heap.size_push
abbrev Dd:=@List.length_drop
abbrev De:=@List.ext_getElem?
abbrev Dg:=@Array.getElem?_eq_none
abbrev Dh:=@List.flatMap_append
abbrev Di:=@List.length_replicate
abbrev Dj:=@List.getElem?_take_of_lt
abbrev Dk:=@List.length_set
abbrev Dl:=@List.lookup_cons
abbrev Dm:=@List.mem_iff_getElem
abbrev Do:=@List.length_eraseIdx
abbrev Dp:=@List.take_of_length_le
abbrev Dq:=@List.length_range
abbrev Dr:=@List.map_congr_left
abbrev Ds:=@List.count_cons
abbrev Du:=@List.mem_flatten
abbrev Dv:=@Bool.not_true
abbrev Dw:=@Int.zero_add
abbrev Dx:=@Bool.eq_false_iff
abbrev Dy:=@List.getElem?_set
abbrev Dz:=@List.find?_cons
abbrev Eb:=@List.length_nil
abbrev Ec:=@Nat.not_lt_zero
abbrev Ed:=@List.filterMap_cons
abbrev Ee:=@List.getElem?_range
abbrev Ef:=@List.getElem?_eraseIdx
abbrev Eh:=@List.find?_eq_none
abbrev Ej:=@Array.getElem?_eq_some_iff
abbrev Ek:=@List.forIn_cons
abbrev El:=@Nat.le_of_succ_le
abbrev Em:=@Nat.succ_pos
abbrev Ep:=@List.flatMap_cons
abbrev Er:=@Nat.mod_self
abbrev Es:=@List.mem_erase_of_ne
abbrev Eu:=@List.pairwise_map
abbrev Ex:=@Option.isSome_iff_exists
abbrev Ey:=@List.length_erase_of_mem
abbrev Ez:=@List.getElem?_replicate
abbrev Fa:=@List.cons_append
abbrev Fb:=@List.getElem?_cons_succ
abbrev Fc:=@Nat.le_succ
abbrev Fd:=@List.append_of_mem
abbrev Fe:=@List.count_eq_zero
abbrev Ff:=@List.append_eq_nil_iff
abbrev Fg:=@Nat.lt_of_le_of_ne
abbrev Fh:=@Array.getElem?_setIfInBounds
abbrev Fi:=@List.any_cons
abbrev Fj:=@List.mem_zipIdx_iff_le_and_getElem?_sub
abbrev Fk:=@Array.getElem?_setIfInBounds_self_of_lt
abbrev Fm:=@List.getD_eq_getElem?_getD
abbrev Fn:=@List.getElem?_modify
abbrev Fo:=@List.getElem_inj
abbrev Fp:=@List.getElem_map
abbrev Fq:=@List.perm_middle
abbrev FrQ:=@List.filter_cons
abbrev Ft:=@List.mem_or_eq_of_mem_set
abbrev Fu:=@List.flatten_append
abbrev Fv:=@Array.getElem?_replicate
abbrev Fw:=@List.mem_of_mem_eraseIdx
abbrev Fx:=@List.eq_of_mem_replicate
abbrev Fy:=@List.range_succ
abbrev Fz:=@List.mem_filterMap
abbrev Ga:=@List.count_pos_iff
abbrev Gb:=@Nat.lt_of_le_of_lt
abbrev Gc:=@List.getElem?_drop
abbrev Gd:=@List.getElem?_set_self
abbrev Ge:=@Nat.zero_add
abbrev Gf:=@List.length_pos_of_mem
abbrev Gg:=@Nat.zero_lt_of_lt
abbrev Gh:=@Nat.mod_lt
abbrev Gi:=@Nat.lt_succ_self
abbrev Gj:=@List.nodup_range
abbrev Gk:=@List.isEmpty_nil
abbrev Gm:=@List.mem_flatMap
abbrev Gn:=@List.map_take
abbrev Go:=@List.map_drop
abbrev Gp:=@List.getElem?_set_ne
abbrev Gq:=@List.pairwise_append
abbrev Gr:=@Option.map_some
abbrev Gs:=@List.find?_some
abbrev Gu:=@List.nil_append
abbrev Gv:=@List.map_set
abbrev Gw:=@Bool.and_false
abbrev Gx:=@Bool.not_false
abbrev Gy:=@Nat.one_pos
abbrev Gz:=@List.all_cons
abbrev Hc:=@List.sum_cons
namespace L2
open PySem PySem.Spec PyProof.Rows
abbrev Key:=Sum Int Str
def qj:Key->Value->Bool
 | .inl k,v=>Value.isInt k v
 | .inr x,v=>Value.isStrOf x v
def yN(w:World):Key->Int
 | .inl k=>hashInt k
 | .inr x=>hashStr w x
theorem kJ:∀{k:Key} {v:Value},qj k v=true->(∃ i t,k=Sum.inl i/\v=Value.int i t)\/(∃ x t,k=Sum.inr x/\v=Value.str x t)
 | .inl i,v,h=>by
  obtain⟨t,e⟩:=Value.isInt_shape (k:=i) (v:=v) h;exact .inl ⟨i,t,rfl,e⟩
 | .inr x,v,h=>by
  obtain⟨t,e⟩:=Value.isStrOf_shape (x:=x) (v:=v) h;exact .inr ⟨x,t,rfl,e⟩
theorem RU(i:Int)(t:Tok):qj (.inl i) (.int i t)=true:=by simp [qj,Value.isInt]
theorem RY(x:Str)(t:Tok):qj (.inr x) (.str x t)=true:=by simp [qj,Value.isStrOf]
theorem R0(a b:Int):decide ((Sum.inl a:Key)=Sum.inl b)=(a == b):=by
 by_cases e:a=b
 ·subst e;simp
 ·have h:¬(Sum.inl a:Key)=Sum.inl b:=λq=>e<|Sum.inl.inj q;rw [BX h];exact(beq_eq_false_iff_ne.mpr e).symm
theorem R1(a b:Str):decide ((Sum.inr a:Key)=Sum.inr b)=decide (a=b):=by
 by_cases e:a=b
 ·subst e;simp
 ·have h:¬(Sum.inr a:Key)=Sum.inr b:=λq=>e<|Sum.inr.inj q;rw [BX h,BX e]
theorem R3(a:Int)(b:Str):decide ((Sum.inl a:Key)=Sum.inr b)=false:=BX λq=>nomatch q
theorem R5(a:Str)(b:Int):decide ((Sum.inr a:Key)=Sum.inl b)=false:=BX λq=>nomatch q
def bR(prog:Program)(w:World):PySem.KeyKind prog w Key where
 is:=qj
 hash:=yN w
 inj:=λv a b ha hb=>by
  rcases kJ ha with ⟨i,t,rfl,rfl⟩ | ⟨x,t,rfl,rfl⟩
  ·rcases kJ hb with ⟨j,u,rfl,e⟩ | ⟨y,u,rfl,e⟩
   ·injection e with e1 _;rw [e1]
   ·exact nomatch e
  ·rcases kJ hb with ⟨j,u,rfl,e⟩ | ⟨y,u,rfl,e⟩
   ·exact nomatch e
   ·injection e with e1 _;rw [e1]
 byValue:=λk v h=>by
  rcases kJ h with ⟨i,t,rfl,rfl⟩ | ⟨x,t,rfl,rfl⟩ <;> rfl
 pyHash:=λhv h=>by
  rcases kJ hv with ⟨i,t,rfl,rfl⟩ | ⟨x,t,rfl,rfl⟩
  ·exact wpAny_pyHash_int h
  ·exact wpAny_pyHash_str h
 eqBool:=λhu hv h=>by
  rcases kJ hu with ⟨i,t,rfl,rfl⟩ | ⟨x,t,rfl,rfl⟩
  ·rcases kJ hv with ⟨j,u,rfl,rfl⟩ | ⟨y,u,rfl,rfl⟩
   ·rw [R0] at h;exact wpAny_eqBool_int h
   ·rw [R3] at h;exact SeqAt.EqAt.int_str i t y u _ _ _ _ h
  ·rcases kJ hv with ⟨j,u,rfl,rfl⟩ | ⟨y,u,rfl,rfl⟩
   ·rw [R5] at h;exact SeqAt.EqAt.str_int x t j u _ _ _ _ h
   ·rw [R1] at h;exact wpAny_eqBool_str h
 «strs»:=λk x t v h=>by
  rcases kJ h with ⟨i,u,rfl,e⟩ | ⟨y,u,rfl,e⟩
  ·exact nomatch e
  ·injection e with e1 _
   subst e1;cases v <;> rfl
theorem R9(prog:Program)(w:World)(i:Int)(t:Tok):(bR prog w).is (.inl i) (.int i t)=true:=RU i t
theorem Sb(prog:Program)(w:World)(x:Str)(t:Tok):(bR prog w).is (.inr x) (.str x t)=true:=RY x t
inductive V where
 | non | bl (b:Bool) | int (i:Int) | str (x:Str) | iM (b:Array UInt8) | kK (b:UInt64) | ref (a:Addr) | ty (n:String)
 deriving DecidableEq
def RelV:V->Value->Prop
 | .non,u=>u=Value.none
 | .bl b,u=>u=Value.bool b
 | .int i,u=>∃ t,u=Value.int i t
 | .str x,u=>∃ t,u=Value.str x t
 | .iM b,u=>∃ t,u=Value.bytes b t
 | .kK b,u=>∃ t,u=Value.float b t
 | .ref a,u=>u=Value.ref a
 | .ty n,u=>u=Value.type n
abbrev av:List V->List Value->Prop:=Paired RelV
theorem av.length{xs:List V}{us:List Value}(r:av xs us):xs.length=us.length:=Paired.length r
theorem av.get:∀{xs:List V} {us:List Value} {i:Nat} {x:V},av xs us->xs[i]?=some x->∃ u,us[i]?=some u/\RelV x u
 | _,_,_,_,.nil,e=>by simp at e
 | _,_,0,_,.cons r _,e=>by simp at e;subst e;exact⟨_,rfl,r⟩
 | _,_,i+1,x,.cons _ t,e=>by
  obtain⟨u,h1,h2⟩:=av.get (i:=i) (x:=x) t (by simpa using e);exact⟨u,by simpa using h1,h2⟩
theorem av.set{x:V}{u:Value}(r:RelV x u):∀{xs:List V} {us:List Value} (i:Nat),av xs us->av (xs.set i x) (us.set i u)
 | _,_,_,.nil=> .nil
 | _,_,0,.cons _ t=> .cons r t
 | _,_,i+1,.cons q t=> .cons q<|av.set r i t
theorem av.append:∀{xs ys:List V} {us ws:List Value},av xs us->av ys ws->av (xs++ys) (us++ws)
 | _,_,_,_,.nil,s=>s
 | _,_,_,_,.cons r t,s=> .cons r<|av.append t s
theorem av.take:∀{xs:List V} {us:List Value} (n:Nat),av xs us->av (xs.take n) (us.take n)
 | _,_,0,_=> .nil
 | _,_,_+1,.nil=> .nil
 | _,_,n+1,.cons r t=> .cons r<|av.take n t
theorem av.drop:∀{xs:List V} {us:List Value} (n:Nat),av xs us->av (xs.drop n) (us.drop n)
 | _,_,0,r=>r
 | _,_,_+1,.nil=> .nil
 | _,_,n+1,.cons _ t=>av.drop n t
def cT:Option V->Option Value->Prop
 | some v,some u=>RelV v u
 | none,none=>True
 | _,_=>False
def KV{κ:Type}:List (κ×V)->List (κ×Value)->Prop:=Paired λ(p:κ×V) (q:κ×Value)=>p.1=q.1/\RelV p.2 q.2
def kV:Key->V
 | .inl i=> .int i
 | .inr x=> .str x
inductive HO where
 | lst (xs:List V)
 | tup (xs:List V)
 | dK (kvs:List<|Key×V) | dT (kvs:List<|List Key×V)
 | set (S:Int->Bool) (n:Nat)
 | ins (C dx:Addr) (fs:List<|Str×V)
 | own (x:Addr)
 | xd (fs:List<|Str×V)
 | met (f x:Addr)
 | v5 (lo hi:Int)
 | cJ (o:Obj) (u:HO)
 | mr (ps:Array Value)
 | ext (φ:Heap->Prop)
abbrev Hp:=Addr->Option HO
def upd(H:Hp)(a:Addr)(o:HO):Hp:=λb=>if b=a then some o else H b
theorem aw{H:Hp}{a:Addr}{o:HO}:upd H a o a=some o:=by unfold upd;rw [BR rfl]
theorem aq{H:Hp}{a b:Addr}{o:HO}(h:b≠a):upd H a o b=H b:=by unfold upd;rw [BK h]
theorem qk{H:Hp}{a:Addr}{o u:HO}:upd (upd H a o) a u=upd H a u:=by
 funext b;unfold upd;split <;> rfl
theorem bN{H:Hp}{a b:Addr}{o u:HO}(h:H a=some o)(h':H b=some u)(d:o≠u):a≠b:=by
 intro e;subst e;rw [h] at h';exact d<|Option.some.inj h'
theorem bC{H:Hp}{a b:Addr}{o:HO}(h:H a=some o)(h':H b=none):a≠b:=by
 intro e;subst e;rw [h] at h';cases h'
section
variable(P:Program)(w:World)
def ax(H:Hp)(h:Heap)(a:Addr):HO->Prop
 | .lst xs=>xs.length<=sizeLine/\∃(its:List Value) (n:Nat),av xs its/\h.get? a=some {cls:= .type "list",data:= .seq its.toArray n}
 | .tup xs=>xs.length<=sizeLine/\∃ its:List Value,av xs its/\IsTup h a its.toArray
 | .dK kvs=>kvs.length<=sizeLine/\(a == sysModules)=false/\∃ vs,KV kvs vs/\h.DictOf (bR P w) a vs
 | .dT kvs=>kvs.length<=sizeLine/\(a == sysModules)=false/\∃ xs:List<|List Key×Addr×Value,
   Paired (λ(p:List Key×V) (q:List Key×Addr×Value)=>p.1=q.1/\H q.2.1=some (.tup<|p.1.map kV)/\RelV p.2 q.2.2) kvs xs /\
   ∃ o es ep,h.get? a=some o/\o.ExactDict/\o.data = .dict es ep/\es.toList=xs.map (entryOfKey<|tupleKind<|bR P w)/\(xs.map (·.1)).Nodup
 | .set S n=>h.SetOf (intKind P w) a S n
 | .ins C dx fs=>H dx=some (.own a)/\fs.length<=1000/\dx≠a/\h.get? a=some (PySem.W.instObj C dx) /\
   ∃ mA,h.Ns1 dx mA/\(∀ f,cT (fs.lookup f)<|mA f)/\PySem.Within mA (fs.map (·.1))
 | .own _=>∃ o,h.get? a=some o
 | .xd fs=>∃ mA,h.Ns1 a mA/\∀ f,cT (fs.lookup f)<|mA f
 | .v5 lo hi=>∃ t u v,h.get? a=some {cls:= .type "range",data:= .fields #[.int lo t,.int hi u,.int 1 v]}
 | .cJ o u=>h.get? a=some o/\ax H h a u
 | .mr ps=>h.get? a=some {cls:= .none,data:= .fields ps}
 | .met f x=>h.get? a=some (PySem.W.methodObj (.ref f)<|.ref x)
 | .ext φ=>φ h/\(∃ o,h.get? a=some o)/\∀ h1 h2:Heap,φ h1->(∀ o,h1.get? a=some o->h2.get? a=some o)->φ h2
def b7(H:Hp)(h:Heap):Prop:=∀ a o,H a=some o->ax P w H h a o
end
section
variable{P:Program}{w:World}{H H':Hp}{h h':Heap}{a:Addr}{o:HO}
theorem ax.lt(x:ax P w H h a o):a < h.objs.size:=by
 cases o with
 | lst xs=>obtain⟨_,_,_,_,e⟩:=x;exact As e
 | tup xs=>obtain⟨_,_,_,p⟩:=x;exact p.lt
 | dK kvs=>obtain⟨_,_,_,_,o,_,_,e,_⟩:=x;exact As e
 | dT kvs=>obtain⟨_,_,_,_,o,_,_,e,_⟩:=x;exact As e
 | set S n=>obtain⟨o,_,_,_,e,_⟩:=x;exact As e
 | ins C dx fs=>obtain⟨_,_,_,e,_⟩:=x;exact As e
 | own y=>obtain⟨_,e⟩:=x;exact As e
 | xd fs=>obtain⟨_,⟨_,_,_,e,_⟩,_⟩:=x;exact As e
 | v5 lo hi=>obtain⟨_,_,_,e⟩:=x;exact As e
 | cJ ob u=>obtain⟨e,_⟩:=x;exact As e
 | mr ps=>exact As (show h.get? a=some _ from x)
 | met f y=>exact As (show h.get? a=some _ from x)
 | ext φ=>obtain⟨_,⟨_,e⟩,_⟩:=x;exact As e
theorem Paired.nI{α β:Type}{F G:α->β->Prop}:∀{l₁:List α} {l₂:List β},Paired F l₁ l₂->(∀ a b,F a b->G a b)->Paired G l₁ l₂
 | _,_,.nil,_=> .nil
 | _,_,.cons r t,f=> .cons (f _ _ r)<|Paired.nI t f
theorem ax.fb(x:ax P w H h a o)(k:∀ b u,(b=a\/H b=some (.own a))->h.get? b=some u->h'.get? b=some u)
  (ho:∀ b,H b=some (.own a)->H' b=some (.own a)) (ht:∀ b xs,H b=some (.tup xs)->H' b=some (.tup xs)):ax P w H' h' a o:=by
 induction o with
 | lst xs=>obtain⟨z,its,n,r,e⟩:=x;exact⟨z,its,n,r,k _ _ (.inl rfl) e⟩
 | tup xs=>obtain⟨z,its,r,ob,e,c⟩:=x;exact⟨z,its,r,ob,k _ _ (.inl rfl) e,c⟩
 | dK kvs=>obtain⟨z,y,vs,r,ob,es,ep,e,c⟩:=x;exact⟨z,y,vs,r,ob,es,ep,k _ _ (.inl rfl) e,c⟩
 | dT kvs=>
  obtain⟨z,y,xs,r,ob,es,ep,e,c⟩:=x;exact⟨z,y,xs,Paired.nI r λp q z=>⟨z.1,ht _ _ z.2.1,z.2.2⟩,ob,es,ep,k _ _ (.inl rfl) e,c⟩
 | set S n=>obtain⟨ob,es,ep,t,e,c⟩:=x;exact⟨ob,es,ep,t,k _ _ (.inl rfl) e,c⟩
 | ins C dx fs=>
  obtain⟨d,z,ne,e,mA,⟨od,es,ep,e2,c⟩,r⟩:=x;exact⟨ho _ d,z,ne,k _ _ (.inl rfl) e,mA,⟨od,es,ep,k _ _ (.inr d) e2,c⟩,r⟩
 | own y=>obtain⟨ob,e⟩:=x;exact⟨ob,k _ _ (.inl rfl) e⟩
 | xd fs=>obtain⟨mA,⟨od,es,ep,e,c⟩,r⟩:=x;exact⟨mA,⟨od,es,ep,k _ _ (.inl rfl) e,c⟩,r⟩
 | v5 lo hi=>obtain⟨t,u,v,e⟩:=x;exact⟨t,u,v,k _ _ (.inl rfl) e⟩
 | cJ ob u ih=>obtain⟨e,q⟩:=x;exact⟨k _ _ (.inl rfl) e,ih q⟩
 | mr ps=>
  have e:h.get? a=some {cls:= .none,data:= .fields ps}:=x;show h'.get? a=some {cls:= .none,data:= .fields ps};exact k a _ (.inl rfl) e
 | met f y=>
  have e:h.get? a=some (PySem.W.methodObj (.ref f)<|.ref y):=x;show h'.get? a=some (PySem.W.methodObj (.ref f)<|.ref y);exact k a _ (.inl rfl) e
 | ext φ=>obtain⟨p,⟨o,e⟩,st⟩:=x;exact⟨st _ _ p λo q=>k _ _ (.inl rfl) q,⟨o,k _ _ (.inl rfl) e⟩,st⟩
theorem b7.lt(x:b7 P w H h)(e:H a=some o):a < h.objs.size:=(x a o e).lt
theorem b7.fresh(x:b7 P w H h)(e:h.objs.size<=a):H a=none:=by
 cases q:H a with
 | none=>rfl
 | some u=>exact absurd (Bg (x.lt q) e)<|Ct _
theorem b7.kept(x:b7 P w H h)(k:∀ b u,h.get? b=some u->h'.get? b=some u):b7 P w H h':=λa o e=>
 (x a o e).fb (λb u _ q=>k b u q) (λ_ q=>q) λ_ _ q=>q
theorem b7.laid(x:b7 P w H h)(k:∀ b u,h.get? b=some u->h'.get? b=some u)(hp:h.objs.size<=a)(new:ax P w (upd H a o) h' a o):b7 P w (upd H a o) h':=λb u e=>by
 have hn:=x.fresh hp
 by_cases hb:b=a
 ·subst hb;rw [aw] at e;cases e;exact new
 ·rw [aq hb] at e;exact(x b u e).fb (λc v _ q=>k c v q) (λc q=>by rw [aq<|bC q hn];exact q) λc xs q=>by rw [aq<|bC q hn];exact q
end
def Rd(H:Hp)(a:Addr)(u:HO):Prop:=H a=some u\/∃ o,H a=some (.cJ o u)
theorem Rd.ok{P:Program}{w:World}{H:Hp}{h:Heap}{a:Addr}{u:HO}(r:Rd H a u)(x:b7 P w H h):ax P w H h a u:=by
 rcases r with r | ⟨o,r⟩
 ·exact x a u r
 ·obtain⟨_,q⟩:=x a _ r;exact q
def rQ:Option HO->Prop
 | some (.lst _)=>True
 | some (.dK _)=>True
 | some (.dT _)=>True
 | some (.set _ _)=>True
 | some (.ins _ _ _)=>True
 | some (.ext _)=>True
 | _=>False
section
variable{P:Program}{w:World}{H:Hp}{h h':Heap}{x e:Addr}{o':HO}
theorem b7.write(ok:b7 P w H h)(mu:rQ<|H x)(he:e=x\/H e=some (.own x))(k:∀ b u,b≠e->h.get? b=some u->h'.get? b=some u)(ql:∃ u,h'.get? e=some u)
  (new:ax P w (upd H x o') h' x o'):b7 P w (upd H x o') h':=λb u q=>by
 have rR:∀ c y,H c=some (.own y)->c≠x:=λc y r z=>by subst z;rw [r] at mu;exact mu
 have yO:∀ c xs,H c=some (.tup xs)->c≠x:=λc xs r z=>by subst z;rw [r] at mu;exact mu
 by_cases hb:b=x
 ·subst hb;rw [aw] at q;cases q;exact new
 ·rw [aq hb] at q
  by_cases kL:b=e
  ·have q':H b=some (.own x):=by
    rcases he with z | z
    ·exact absurd (kL.trans z) hb
    ·rw [kL];exact z
   rw [q] at q';cases q';obtain⟨v,hv⟩:=ql;exact⟨v,by rw [kL];exact hv⟩
  ·refine(ok b u q).fb (λc v hc r=>k c v ?_ r) (λc r=>by rw [aq<|rR c b r];exact r) λc xs r=>by rw [aq<|yO c xs r];exact r
   rcases hc with rfl | hc
   ·exact kL
   ·rintro rfl
    rcases he with z | z
    ·exact rR c b hc z
    ·rw [hc] at z;cases z;exact hb rfl
end
structure Un(fs ex:List Addr)(H H':Hp)(h h':Heap):Prop where
 keep:∀ b o,h.get? b=some o->H b=none->b∉fs->b∉ex->h'.get? b=some o
 slot:∀ b o,h.get? b=some o->H b=none->b∈fs->b∉ex->∃ sl,h'.get? b=some {o with slots:=sl}
 free:∀ b o,h.get? b=some o->H b=none->b∉ex->H' b=none
 there:∀ b o,h.get? b=some o->b∉ex->∃ o',h'.get? b=some o'
 dF:∀ b xs,H b=some (.tup xs)->H' b=some (.tup xs)
 dn:∀ b o u,H b=some (.cJ o u)->H' b=some (.cJ o u)
 dG:∀ b ps,H b=some (.mr ps)->∃ more,H' b=some (.mr<|ps++more)
section
variable{fs Sd ex JO:List Addr}{H H1 H2:Hp}{h h1 h2 h':Heap}{a x e:Addr}{o:HO}
theorem Un.any(u:Un fs ex H H1 h h1){b:Addr}{ob:Obj}(q:h.get? b=some ob)(n:H b=none)(hx:b∉ex):∃ sl,h1.get? b=some {ob with slots:=sl}:=by
 by_cases hb:b∈fs
 ·exact u.slot b ob q n hb hx
 ·exact⟨ob.slots,u.keep b ob q n hb hx⟩
theorem Un.kept(k:∀ b u,h.get? b=some u->h'.get? b=some u):Un fs ex H H h h':=
 ⟨λb ob q _ _ _=>k b ob q,λb ob q _ _ _=>⟨ob.slots,k b ob q⟩,λ_ _ _ n _=>n,λb ob q _=>⟨ob,k b ob q⟩,λ_ _ q=>q,λ_ _ _ q=>q,λ_ ps q=>⟨#[],by rw [q];simp⟩⟩
theorem Un.refl:Un fs ex H H h h:=Un.kept λ_ _ q=>q
theorem Un.laid(k:∀ b u,h.get? b=some u->h'.get? b=some u)(hp:h.objs.size<=a)(hn:H a=none):Un fs ex H (upd H a o) h h' where
 keep:=λb u q _ _ _=>k b u q
 slot:=λb u q _ _ _=>⟨u.slots,k b u q⟩
 free:=λb u q n _=>by rw [aq<|Bp<|Bg (As q) hp];exact n
 there:=λb u q _=>⟨u,k b u q⟩
 dF:=λb xs q=>by rw [aq<|bC q hn];exact q
 dn:=λb u xs q=>by rw [aq<|bC q hn];exact q
 dG:=λb ps q=>⟨#[],by rw [aq<|bC q hn,q];simp⟩
theorem Un.write(mu:rQ<|H x)(he:e=x\/H e=some (.own x))(k:∀ b u,b≠e->h.get? b=some u->h'.get? b=some u)(ql:∃ u,h'.get? e=some u):Un fs ex H (upd H x o) h h':=by
 have hx:∀ b,H b=none->b≠x:=λb n z=>by subst z;rw [n] at mu;exact mu
 have hb:∀ b,H b=none->b≠e:=λb n z=>by
  subst z
  rcases he with r | r
  ·exact hx b n r
  ·rw [n] at r;cases r
 have hm:∀ b u,H b=some u->¬ rQ (some u)->b≠x:=λb u q nm z=>by subst z;rw [q] at mu;exact nm mu
 refine⟨λb u q n _ _=>k b u (hb b n) q,λb u q n _ _=>⟨u.slots,k b u (hb b n) q⟩,λb u q n _=>by rw [aq<|hx b n];exact n,λb u q _=>?_,
  λb xs q=>by rw [aq<|hm b _ q λz=>z];exact q,λb u xs q=>by rw [aq<|hm b _ q λz=>z];exact q,λb ps q=>⟨#[],by rw [aq<|hm b _ q λz=>z,q];simp⟩⟩
 by_cases kL:b=e
 ·subst kL;exact ql
 ·exact⟨u,k b u kL q⟩
end
def v6(h:Heap)(H:Hp):List Addr:=(List.range h.objs.size).filter λa=>(H a).isSome
def fc(h:Heap)(H:Hp):Heap:=PySem.W.hideAll h<|v6 h H
theorem Se(h:Heap)(H:Hp):(fc h H).objs.size=h.objs.size:=PySem.W.hideAll_size _ _
theorem Sf{h:Heap}{H:Hp}{b:Addr}{o:Obj}(e:h.get? b=some o)(n:H b=none):(fc h H).get? b=some o:=
 PySem.W.hideAll_get _ e λhm=>by
  have q:(H b).isSome=true:=(Cz.mp hm).2;rw [n] at q;simp at q
theorem Sg{h:Heap}{H:Hp}{b:Addr}{o:Obj}(e:(fc h H).get? b=some o):h.get? b=some o/\H b=none:=by
 have e':h.get? b=some o:=PySem.W.of_hideAll (v6 h H) e;refine⟨e',?_⟩;cases q:H b with
 | none=>rfl
 | some x=>
  have hm:b∈v6 h H:=Cz.mpr ⟨Bu.mpr<|As e',by simp [q]⟩;have z:(fc h H).get? b=none:=PySem.W.hideAll_none (v6 h H) hm;rw [z] at e;cases e
structure Mod(K:PySem.W.Frag)(mg:Str->Option Value)(base:Heap):Prop where
 nJ:K.In base
 glob:base.Ns mainGlobals mg
 blt:∃ mb,base.Ns builtinsNs mb/\∀ x:Str,x ≠ "__name__"->mb x=bootBuiltins x
 nolimit:base.NoLimit
structure Cx where
 prog:Program
 w:World
 K:PySem.W.Frag
 mg:Str->Option Value
 base:Heap
 A:Around
 N:List Str
 s₀:Shared
 H₀:Hp
 env:Env
 outer:List Env
 stack:List Env
 ex:List Addr
 fn:Str->Bool
 calm:Bool
 pn:List<|Addr×Obj
 xe:Value->Shared->Prop
def dg(l:List Env):List Addr:=l.filterMap (·.frame)
abbrev Cx.fs(X:Cx):List Addr:=dg X.outer
def yP(sc:Scope)(x:Str):Prop:=sc.names.lookup x=some .local\/sc.names.lookup x=some .cell\/sc.names.lookup x=some .free
def Loc(sc:Scope)(x:Str):Prop:=sc.names.lookup x=some .local\/sc.names.lookup x=some .cell
def Look(env:Env)(h:Heap)(m:Str->Option Value)(x:Str)(u:Value):Prop:=
 (env.kindOf x=some .local/\m x=some u)\/((env.kindOf x=some .cell\/env.kindOf x=some .free)/\∃ c,env.cells.lookup x=some c/\h.IsCell c (some u))
structure Cx.Ok(X:Cx):Prop where
 mod:Mod X.K X.mg X.base
 kind:X.env.scope.kind = .function
 glob:X.env.globals=mainGlobals
 blt:X.env.builtins=builtinsNs
 above:X.s₀.heap.objs.size<=X.env.locals
 inj:∀ x y c,X.env.cells.lookup x=some c->X.env.cells.lookup y=some c->x=y
 has:∀ x,(X.env.kindOf x=some .cell\/X.env.kindOf x=some .free)->∃ c,X.env.cells.lookup x=some c
 kN:∀ x c,X.fn x=true->X.env.cells.lookup x=some c->X.s₀.heap.objs.size<=c
 hd:X.calm=true->X.A.handled=none
 frames:X.A.frames=some X.stack
 j7:X.stack=X.outer\/(X.stack=X.env :: X.outer/\X.env.frame=some X.env.locals)
 qm:∀ b∈X.ex,b≠X.env.locals/\∀ x c,X.env.cells.lookup x=some c->c≠b
 bs:∀ b o,X.base.get? b=some o->X.s₀.heap.get? b=some o/\X.H₀ b=none
 jd:X.base.objs.size<=X.s₀.heap.objs.size
 fe:∀ b o,X.base.get? b=some o->b∉X.ex
 fQ:∀ b∈X.ex,b∉X.fs
 cG:X.s₀.heap.FunFrames X.base X.outer
 j8:∀ b∈X.fs,X.H₀ b=none
structure Inv(X:Cx)(pins:List<|Addr×Obj)(σ:List<|Option V)(H:Hp)(s:Shared):Prop where
 ok:X.Ok
 os:s.os=X.s₀.os
 bare:AllBare s.gens
 base:Un X.fs X.ex X.H₀ H X.s₀.heap s.heap
 loc:∃ m,s.heap.Ns X.env.locals m/\∀(i:Nat) (x:Str) (v:V),X.N[i]?=some x->σ[i]?=some (some v)->yP X.env.scope x->∃ u,RelV v u/\Look X.env s.heap m x u
 cell:∀ x c,X.env.cells.lookup x=some c->∃ v,s.heap.IsCell c v
 free:H X.env.locals=none
 bq:∀ x c,X.env.cells.lookup x=some c->H c=none
 pin:∀ p∈X.pn++pins,s.heap.get? p.1=some p.2/\H p.1=none/\p.1≠X.env.locals/\p.1∉X.fs/\∀ v,p.2.data ≠ .cell v
 aA:b7 X.prog X.w H s.heap
 len:σ.length=X.N.length
section
variable{X:Cx}{pins:List (Addr×Obj)}{σ:List (Option V)}{H H':Hp}{s:Shared}{h':Heap}
theorem Cx.Ok.yQ(ok:X.Ok){b:Addr}{o:Obj}(e:X.base.get? b=some o):b∉X.fs:=λhb=>by
 have:=(ok.cG.mem hb).1;rw [e] at this;cases this
theorem Inv.bs(I:Inv X pins σ H s):∀ b o,X.base.get? b=some o->s.heap.get? b=some o/\H b=none:=λb o e=>
 ⟨I.base.keep b o (I.ok.bs b o e).1 (I.ok.bs b o e).2 (I.ok.yQ e)<|I.ok.fe b o e,I.base.free b o (I.ok.bs b o e).1 (I.ok.bs b o e).2<|I.ok.fe b o e⟩
theorem Inv.bk(I:Inv X pins σ H s):∀ b o,X.base.get? b=some o->s.heap.get? b=some o:=λb o e=>(I.bs b o e).1
theorem Inv.mod(I:Inv X pins σ H s):Mod X.K X.mg X.base:=I.ok.mod
theorem Inv.dY(I:Inv X pins σ H s):X.K.In s.heap:=I.ok.mod.nJ.keeps I.bk
theorem Inv.lt(I:Inv X pins σ H s):X.env.locals < s.heap.objs.size:=let ⟨_,hn,_⟩:=I.loc;hn.lt
theorem Inv.sz(I:Inv X pins σ H s):X.s₀.heap.objs.size<=s.heap.objs.size:=Cr I.ok.above<|Bc I.lt
theorem Inv.yR(I:Inv X pins σ H s){a:Addr}(h:s.heap.objs.size<=a):a∉X.fs:=λhb=>by
 obtain⟨_,o,ho,_⟩:=I.ok.cG.mem hb;exact absurd (Bg (As ho)<|Cr I.sz h)<|Ct _
theorem Inv.jy(I:Inv X pins σ H s):∀ x c,X.env.cells.lookup x=some c->c≠X.env.locals:=λx c e z=>by
 obtain⟨v,o,ho,hd⟩:=I.cell x c e;obtain⟨m,⟨o',es,ep,gN,Sh,_⟩,_⟩:=I.loc;rw [z,gN] at ho;cases ho;rw [Sh] at hd;cases hd
theorem Inv.cG(I:Inv X pins σ H s):s.heap.FunFrames X.base X.outer:=by
 have all:∀(l:List Env),(∀ b∈dg l,b∈X.fs)->X.s₀.heap.FunFrames X.base l->s.heap.FunFrames X.base l:=by
  intro l
  induction l with
  | nil=>intro _ _;trivial
  | cons env r ih=>
   intro hs hl;obtain⟨hk,⟨L,o,hf,hn,ho,hd⟩,hr⟩:=hl;have hL:L∈X.fs:=hs L (by unfold dg;rw [Ed,hf];exact Ad);obtain⟨sl,e⟩:=I.base.slot L o ho (I.ok.j8 L hL) hL λz=>I.ok.fQ L z hL;exact⟨hk,⟨L,_,hf,hn,e,hd⟩,ih (λb hb=>hs b<|by unfold dg;rw [Ed,hf];exact Aj _ hb) hr⟩
 exact all X.outer (λ_ hb=>hb) I.ok.cG
theorem Inv.stack(I:Inv X pins σ H s):s.heap.FunFrames X.base X.stack:=by
 rcases I.ok.j7 with e | ⟨e,hf⟩
 ·rw [e];exact I.cG
 ·rw [e];obtain⟨m,hn,_⟩:=I.loc;refine .cons (by rw [I.ok.kind];decide) hf hn ?_ I.cG;exact Heap.get?_none_of_le<|Cr I.ok.jd I.ok.above
theorem Inv.c8(I:Inv X pins σ H s):∀ b∈dg X.stack,b∈X.env.locals :: X.fs:=λb hb=>by
 rcases I.ok.j7 with e | ⟨e,hf⟩
 ·rw [e] at hb;exact Aj _ hb
 ·rw [e] at hb;unfold dg at hb;rw [Ed,hf] at hb;exact hb
theorem Inv.dw(I:Inv X pins σ H s):∀ b∈dg X.stack,H b=none:=λb hb=>by
 rcases Ai.mp (I.c8 b hb) with e | hb
 ·rw [e];exact I.free
 ·obtain⟨_,o,ho,_⟩:=I.ok.cG.mem hb;exact I.base.free b o ho (I.ok.j8 b hb) λz=>I.ok.fQ b z hb
theorem Inv.step{g':Array GenState}{t':Nat}{d':Drawn}{ch:List Addr}(I:Inv X pins σ H s)
  (j9:∀ b∈ch,(b∈X.ex\/X.s₀.heap.objs.size<=b)/\b≠X.env.locals/\(∀ x c,X.env.cells.lookup x=some c->c≠b)/\∀ p∈X.pn++pins,p.1≠b)
  (keep:∀ b o,b≠X.env.locals->b∉X.fs->b∉ch->s.heap.get? b=some o->H b=none->h'.get? b=some o)
  (slot:∀ b o,b≠X.env.locals->b∈X.fs->b∉ch->s.heap.get? b=some o->H b=none->∃ sl,h'.get? b=some {o with slots:=sl}) (free:∀ b o,b∉ch->s.heap.get? b=some o->H b=none->H' b=none)
  (there:∀ b o,b∉ch->s.heap.get? b=some o->∃ o',h'.get? b=some o')
  (dF:∀ b xs,H b=some (.tup xs)->H' b=some (.tup xs)) (dn:∀ b o u,H b=some (.cJ o u)->H' b=some (.cJ o u)) (dG:∀ b ps,H b=some (.mr ps)->∃ more,H' b=some (.mr<|ps++more))
  (ns:∀ m,s.heap.Ns X.env.locals m->h'.Ns X.env.locals m) (aA:b7 X.prog X.w H' h') (hg:AllBare g') :
  Inv X pins σ H' {s with heap:=h',gens:=g',drawn:=d',toks:=t'}:=by
 have JP:∀ b o,X.s₀.heap.get? b=some o->b≠X.env.locals:=λb o e=>Bp<|Bg (As e) I.ok.above;have v7:∀ b o,X.s₀.heap.get? b=some o->b∉X.ex->b∉ch:=λb o e hx hb=>by
  rcases (j9 b hb).1 with z | z
  ·exact hx z
  ·exact absurd (Bg (As e) z)<|Ct _
 have cellK:∀ x c,X.env.cells.lookup x=some c->∀ v,s.heap.IsCell c v->h'.IsCell c v:=λx c e v ⟨o,ho,hd⟩=>by
  have rS:c∉ch:=λz=>(j9 c z).2.2.1 x c e rfl
  by_cases hc:c∈X.fs
  ·obtain⟨sl,q⟩:=slot c o (I.jy x c e) hc rS ho<|I.bq x c e;exact⟨_,q,hd⟩
  ·exact⟨o,keep c o (I.jy x c e) hc rS ho<|I.bq x c e,hd⟩
 refine⟨I.ok,I.os,hg,⟨λb o e n hb hx=>?_,λb o e n hb hx=>?_,λb o e n hx=>?_,λb o e hx=>?_,λb xs e=>dF b xs<|I.base.dF b xs e,λb o xs e=>dn b o xs<|I.base.dn b o xs e,λb ps e=>?_⟩,?_,λx c e=>?_,?_,λx c e=>?_,λp hp=>?_,aA,I.len⟩
 ·exact keep b o (JP b o e) hb (v7 b o e hx) (I.base.keep b o e n hb hx)<|I.base.free b o e n hx
 ·obtain⟨sl,e1⟩:=I.base.slot b o e n hb hx;obtain⟨v8,e2⟩:=slot b _ (JP b o e) hb (v7 b o e hx) e1<|I.base.free b o e n hx;exact⟨v8,e2⟩
 ·obtain⟨o',e1⟩:=I.base.there b o e hx;exact free b o' (v7 b o e hx) e1<|I.base.free b o e n hx
 ·obtain⟨o',e1⟩:=I.base.there b o e hx;exact there b o' (v7 b o e hx) e1
 ·obtain⟨m1,e1⟩:=I.base.dG b ps e;obtain⟨m2,e2⟩:=dG b _ e1;exact⟨m1++m2,by rw [e2,Array.append_assoc]⟩
 ·obtain⟨m,hn,hl⟩:=I.loc;refine⟨m,ns m hn,λi x v e1 e2 e3=>?_⟩;obtain⟨u,r,l⟩:=hl i x v e1 e2 e3;refine⟨u,r,?_⟩
  rcases l with l | ⟨k,c,e,z⟩
  ·exact .inl l
  ·exact .inr ⟨k,c,e,cellK x c e _ z⟩
 ·obtain⟨v,z⟩:=I.cell x c e;exact⟨v,cellK x c e v z⟩
 ·obtain⟨m,⟨o,_,_,ho,_⟩,_⟩:=I.loc;exact free _ o (λz=>(j9 _ z).2.1 rfl) ho I.free
 ·obtain⟨v,o,ho,hd⟩:=I.cell x c e;exact free c o (λz=>(j9 c z).2.2.1 x c e rfl) ho<|I.bq x c e
 ·obtain⟨e,n,ne,nf,d⟩:=I.pin p hp;have rS:p.1∉ch:=λz=>(j9 p.1 z).2.2.2 p hp rfl;exact⟨keep p.1 p.2 ne nf rS e n,free p.1 p.2 rS e n,ne,nf,d⟩
theorem Inv.un{t':Nat}(I:Inv X pins σ H s)(u:Un X.fs [] H H' s.heap h')(aA:b7 X.prog X.w H' h'):Inv X pins σ H' {s with heap:=h',toks:=t'}:=by
 obtain⟨m,⟨o,es,ep,ho,r⟩,_⟩:=id I.loc;obtain⟨sl,hL⟩:=u.any ho I.free (by simp);exact I.step (g':=s.gens) (d':=s.drawn) (ch:=[]) (λ_ z=>nomatch z) (λb o _ hb _ e n=>u.keep b o e n hb<|by simp) (λb o _ hb _ e n=>u.slot b o e n hb<|by simp) (λb o _ e n=>u.free b o e n<|by simp) (λb o _ e=>u.there b o e<|by simp) u.dF u.dn u.dG (λm' hm=>by
  obtain⟨o',da,v9,gN,r'⟩:=hm;rw [ho] at gN;cases gN;exact⟨_,da,v9,hL,r'⟩) aA I.bare
theorem Inv.call{g':Array GenState}{t':Nat}{d':Drawn}{ch:List Addr}(I:Inv X pins σ H s)(u:Un (dg X.stack) ch H H' s.heap h')(aA:b7 X.prog X.w H' h')(hg:AllBare g')
  (j9:∀ b∈ch,(b∈X.ex\/X.s₀.heap.objs.size<=b)/\b≠X.env.locals/\(∀ x c,X.env.cells.lookup x=some c->c≠b)/\∀ p∈X.pn++pins,p.1≠b) :
  Inv X pins σ H' {s with heap:=h',gens:=g',drawn:=d',toks:=t'}:=by
 obtain⟨m,⟨o,es,ep,ho,r⟩,_⟩:=id I.loc;obtain⟨sl,hL⟩:=u.any ho I.free λz=>(j9 _ z).2.1 rfl;exact I.step (ch:=ch) j9 (λb o hL hb hc e n=>u.keep b o e n (λz=>(Ai.mp<|I.c8 b z).elim hL hb) hc) (λb o _ _ hc e n=>u.any e n hc) (λb o hc e n=>u.free b o e n hc) (λb o hc e=>u.there b o e hc) u.dF u.dn u.dG (λm' hm=>by
  obtain⟨o',da,v9,gN,r'⟩:=hm;rw [ho] at gN;cases gN;exact⟨_,da,v9,hL,r'⟩) aA hg
theorem Inv.turned{t':Nat}{it:Addr}(I:Inv X pins σ H s)(k:∀ b o,b≠it->s.heap.get? b=some o->h'.get? b=some o)(hn:H it=none)(hL:it≠X.env.locals)
  (h1:it∈X.ex\/X.s₀.heap.objs.size<=it) (h2:∀ x c,X.env.cells.lookup x=some c->c≠it) (h3:∀ p∈X.pn++pins,p.1≠it):Inv X pins σ H {s with heap:=h',toks:=t'}:=by
 have rT:∀ b u,H b=some u->b≠it:=λb u e z=>by rw [z,hn] at e;cases e
 refine I.step (g':=s.gens) (d':=s.drawn) (ch:=[it]) (λb hb=>?_) (λb o _ _ hc e _=>k b o (λz=>hc<|by simp [z]) e) (λb o _ _ hc e _=>⟨o.slots,k b o (λz=>hc<|by simp [z]) e⟩) (λ_ _ _ _ n=>n)
  (λb o hc e=>⟨o,k b o (λz=>hc<|by simp [z]) e⟩) (λ_ _ e=>e) (λ_ _ _ e=>e) (λb ps e=>⟨#[],by rw [e];simp⟩) (λm hm=>?_) (λb u e=>?_) I.bare
 ·have e:b=it:=by simpa using hb
  subst e;exact⟨h1,hL,h2,h3⟩
 ·obtain⟨o,es,ep,ho,r⟩:=hm;exact⟨o,es,ep,k _ o (CJ hL) ho,r⟩
 ·refine(I.aA b u e).fb (λc v hc q=>k c v ?_ q) (λ_ q=>q) λ_ _ q=>q
  rcases hc with z | z
  ·rw [z];exact rT b u e
  ·exact rT c _ z
theorem Inv.tok(I:Inv X pins σ H s)(t:Nat):Inv X pins σ H {s with toks:=t}:=I.un (h':=s.heap) (t':=t) Un.refl I.aA
theorem Inv.kept{t':Nat}(I:Inv X pins σ H s)(k:∀ b u,s.heap.get? b=some u->h'.get? b=some u):Inv X pins σ H {s with heap:=h',toks:=t'}:=I.un (Un.kept k)<|I.aA.kept k
theorem Inv.laid{a:Addr}{o:HO}{t':Nat}(I:Inv X pins σ H s)(k:∀ b u,s.heap.get? b=some u->h'.get? b=some u)(hp:s.heap.objs.size<=a)(new:ax X.prog X.w (upd H a o) h' a o) :
  Inv X pins σ (upd H a o) {s with heap:=h',toks:=t'}:=I.un (Un.laid k hp<|I.aA.fresh hp)<|I.aA.laid k hp new
theorem Inv.write{x e:Addr}{o:HO}{t':Nat}(I:Inv X pins σ H s)(mu:rQ<|H x)(he:e=x\/H e=some (.own x))(k:∀ b u,b≠e->s.heap.get? b=some u->h'.get? b=some u)(ql:∃ u,h'.get? e=some u)
  (new:ax X.prog X.w (upd H x o) h' x o):Inv X pins σ (upd H x o) {s with heap:=h',toks:=t'}:=I.un (Un.write mu he k ql)<|I.aA.write mu he k ql new
theorem Inv.ie{mv:List (Addr×Obj)}(I:Inv X pins σ H s)(h:∀ p∈mv,s.heap.get? p.1=some p.2/\H p.1=none/\p.1≠X.env.locals/\p.1∉X.fs/\∀ v,p.2.data ≠ .cell v):Inv X mv σ H s:=
 ⟨I.ok,I.os,I.bare,I.base,I.loc,I.cell,I.free,I.bq,λp hp=>(An.mp hp).elim (λz=>I.pin p<|Aw _ z)<|h p,I.aA,I.len⟩
theorem yS{N:List Str}(hN:N.Nodup){i j:Nat}{x:Str}(a:N[i]?=some x)(b:N[j]?=some x):i=j:=by
 obtain⟨h1,e1⟩:=Ac.mp a;obtain⟨h2,e2⟩:=Ac.mp b;exact(Fo hN).mp<|e1.trans e2.symm
theorem JS{M:Model}{A:Around}{E:Value->Shared->Prop}{i:Nat}{x:Str}{v:V}{u:Value}{Q:Unit->Shared->Prop}(I:Inv X pins σ H s)(hN:X.N.Nodup)(hi:X.N[i]?=some x)(hx:Loc X.env.scope x)(r:RelV v u)
  (h:∀ s',Inv X pins (σ.set i<|some v) H s'->(∃ a,Heap.SameBut a s.heap s'.heap/\(a=X.env.locals\/X.env.cells.lookup x=some a))->Q () s') (hf:X.fn x=true\/X.env.scope.names.lookup x=some .local:=by first | exact .inl rfl | exact .inr rfl | assumption):wpAny M A (storeName X.env x u) Q E s:=by
 obtain⟨m,hn,hl⟩:=id I.loc;have nK:(X.env.scope.kind == .class || (X.env.scope.kind == .module && X.env.locals != X.env.globals))=false:=by rw [I.ok.kind];rfl
 have hiσ:i < σ.length:=by rw [I.len];exact(Ac.mp hi).1
 have jy:=I.jy;have tracked:∀{a:Addr} {h':Heap},(∃ o,s.heap.get? a=some o/\H a=none)->Heap.SameBut a s.heap h'->b7 X.prog X.w H h':=λ{a h'} ha hs b ob e=>by
  obtain⟨_,_,mw⟩:=ha;refine(I.aA b ob e).fb (λc w' hc q=>(hs.2 c ?_).trans q) (λ_ q=>q) λ_ _ q=>q;rintro rfl
  rcases hc with rfl | hc
  ·rw [mw] at e;cases e
  ·rw [mw] at hc;cases hc
 rcases hx with hk | hk
 ·refine wpAny_storeName_local hk hn (λh' fS hs=>?_) nK;obtain⟨oL,_,_,je,_⟩:=id hn;refine h _ ⟨I.ok,I.os,I.bare,⟨λb o e n hb hx=>?_,λb o e n hb hx=>?_,I.base.free,λb o e hx=>?_,I.base.dF,I.base.dn,I.base.dG⟩,⟨_,fS,λj y v' e1 e2 e3=>?_⟩,λy c e=>?_,I.free,I.bq,λp hp=>?_,tracked ⟨oL,je,I.free⟩ hs,by simpa using I.len⟩ ⟨_,hs,.inl rfl⟩
  ·exact(hs.2 b<|Bp<|Bg (As e) I.ok.above).trans<|I.base.keep b o e n hb hx
  ·obtain⟨sl,e1⟩:=I.base.slot b o e n hb hx;exact⟨sl,(hs.2 b<|Bp<|Bg (As e) I.ok.above).trans e1⟩
  ·obtain⟨o',e1⟩:=I.base.there b o e hx;exact⟨o',(hs.2 b<|Bp<|Bg (As e) I.ok.above).trans e1⟩
  ·by_cases hj:j=i
   ·subst hj;rw [hi] at e1;cases e1;rw [Gd hiσ] at e2;cases e2;exact⟨u,r,.inl ⟨hk,by simp⟩⟩
   ·rw [Gp<|CJ hj] at e2;obtain⟨u',r',q⟩:=hl j y v' e1 e2 e3;refine⟨u',r',?_⟩
    rcases q with ⟨k,e⟩ | ⟨k,c,e,z⟩
    ·refine .inl ⟨k,?_⟩;have:y≠x:=λe=>hj<|yS hN e1<|e ▸ hi;simp [this,e]
    ·exact .inr ⟨k,c,e,z.sameBut hs<|jy y c e⟩
  ·obtain⟨w',z⟩:=I.cell y c e;exact⟨w',z.sameBut hs<|jy y c e⟩
  ·obtain⟨e,n,ne,nf,d⟩:=I.pin p hp;exact⟨(hs.2 p.1 ne).trans e,n,ne,nf,d⟩
 ·have rU:X.fn x=true:=by
   rcases hf with z | z
   ·exact z
   ·rw [z] at hk;cases hk
  obtain⟨c,hc⟩:=I.ok.has x<|.inl hk;obtain⟨w',z⟩:=I.cell x c hc;refine wpAny_storeName_cell I.ok.kind hk hc z λh' bO hs=>?_;obtain⟨oc,JU,yT⟩:=id z;refine h {s with heap:=h'} ⟨I.ok,I.os,I.bare,⟨λb o e n hb hx=>?_,λb o e n hb hx=>?_,I.base.free,λb o e hx=>?_,I.base.dF,I.base.dn,I.base.dG⟩,⟨m,hn.sameBut hs<|CJ<|jy x c hc,λj y v' e1 e2 e3=>?_⟩,λy c' e=>?_,I.free,I.bq,λp hp=>?_,tracked ⟨oc,JU,I.bq x c hc⟩ hs,by simpa using I.len⟩ ⟨c,hs,.inr hc⟩
  ·exact(hs.2 b<|Bp<|Bg (As e)<|I.ok.kN x c rU hc).trans<|I.base.keep b o e n hb hx
  ·obtain⟨sl,e1⟩:=I.base.slot b o e n hb hx;exact⟨sl,(hs.2 b<|Bp<|Bg (As e)<|I.ok.kN x c rU hc).trans e1⟩
  ·obtain⟨o',e1⟩:=I.base.there b o e hx;exact⟨o',(hs.2 b<|Bp<|Bg (As e)<|I.ok.kN x c rU hc).trans e1⟩
  ·by_cases hj:j=i
   ·subst hj;rw [hi] at e1;cases e1;rw [Gd hiσ] at e2;cases e2;exact⟨u,r,.inr ⟨.inl hk,c,hc,bO⟩⟩
   ·rw [Gp<|CJ hj] at e2;obtain⟨u',r',q⟩:=hl j y v' e1 e2 e3;refine⟨u',r',?_⟩
    rcases q with q | ⟨k,c',e,z'⟩
    ·exact .inl q
    ·refine .inr ⟨k,c',e,z'.sameBut hs ?_⟩;rintro rfl;exact hj<|yS hN e1<|I.ok.inj _ _ _ e hc ▸ hi
  ·by_cases ig:c'=c
   ·subst ig;exact⟨_,bO⟩
   ·obtain⟨w2,z2⟩:=I.cell y c' e;exact⟨w2,z2.sameBut hs ig⟩
  ·obtain⟨e,n,ne,nf,d⟩:=I.pin p hp;refine⟨(hs.2 p.1 ?_).trans e,n,ne,nf,d⟩;intro q;rw [q,JU] at e;have q':oc=p.2:=Option.some.inj e;exact d w'<|by rw [<- q'];exact yT
theorem yU{M:Model}{A:Around}{E:Value->Shared->Prop}{i:Nat}{x:Str}{v:V}{u:Value}{Q:Unit->Shared->Prop}(I:Inv X pins σ H s)(hN:X.N.Nodup)(hi:X.N[i]?=some x)(hx:Loc X.env.scope x)(r:RelV v u)
  (h:∀ s',Inv X pins (σ.set i<|some v) H s'->Q () s') (hf:X.fn x=true\/X.env.scope.names.lookup x=some .local:=by first | exact .inl rfl | exact .inr rfl | assumption):wpAny M A (storeName X.env x u) Q E s:=
 JS I hN hi hx r (λs' I' _=>h s' I') hf
theorem Inv.call'{s':Shared}{ch:List Addr}(I:Inv X pins σ H s)(ho:s'.os=s.os)(u:Un (dg X.stack) ch H H' s.heap s'.heap)(aA:b7 X.prog X.w H' s'.heap)(hg:AllBare s'.gens)
  (j9:∀ b∈ch,(b∈X.ex\/X.s₀.heap.objs.size<=b)/\b≠X.env.locals/\(∀ x c,X.env.cells.lookup x=some c->c≠b)/\∀ p∈X.pn++pins,p.1≠b):Inv X pins σ H' s':=by
 obtain⟨h',g',d',t',o'⟩:=s';have e:o'=s.os:=ho;subst e;exact I.call (g':=g') (t':=t') (d':=d') u aA hg j9
end
abbrev XK:=Value->Option Addr->Hp->Prop
abbrev St:=List<|Option V
abbrev VK:=V->Hp->Prop
abbrev TE:=St->Hp->VK->Prop
abbrev TT:=St->Hp->(Bool->Hp->Prop)->Prop
abbrev TA:=St->Hp->(List V->Hp->Prop)->Prop
structure Ends where
 nx:St->Hp->Prop
 rt:VK
 bk:St->Hp->Prop:=λ_ _=>False
 ct:St->Hp->Prop:=λ_ _=>False
abbrev TS:=Ends->St->Hp->Prop
def EP(X:Cx)(pins:List<|Addr×Obj)(σ:St)(Q:VK)(u:Value)(s':Shared):Prop:=∃ v H',Inv X pins σ H' s'/\RelV v u/\Q v H'
def TP(X:Cx)(pins:List<|Addr×Obj)(σ:St)(Q:Bool->Hp->Prop)(b:Bool)(s':Shared):Prop:=∃ H',Inv X pins σ H' s'/\Q b H'
def AP(X:Cx)(pins:List<|Addr×Obj)(σ:St)(Q:List V->Hp->Prop)(us:List Value)(s':Shared):Prop:=∃ vs H',Inv X pins σ H' s'/\av vs us/\Q vs H'
def SP(X:Cx)(pins:List<|Addr×Obj)(D:Ends)(f:Flow)(s':Shared):Prop:=
 match f with
 | .next=>∃ σ' H',Inv X pins σ' H' s'/\D.nx σ' H'
 | .brk=>∃ σ' H',Inv X pins σ' H' s'/\D.bk σ' H'
 | .cont=>∃ σ' H',Inv X pins σ' H' s'/\D.ct σ' H'
 | .ret u=>∃ v σ' H',Inv X pins σ' H' s'/\RelV v u/\D.rt v H'
def PE(X:Cx)(e:Expr)(t:TE):Prop:=
 ∀(pins:List<|Addr×Obj) (s:Shared) (σ:St) (H:Hp) (Q:VK),Inv X pins σ H s->t σ H Q->wpAny (model X.prog X.w) X.A (eval e X.env) (EP X pins σ Q) X.xe s
def PT(X:Cx)(e:Expr)(t:TT):Prop:=
 ∀(pins:List<|Addr×Obj) (s:Shared) (σ:St) (H:Hp) (Q:Bool->Hp->Prop),Inv X pins σ H s->t σ H Q->wpAny (model X.prog X.w) X.A (isTrue e X.env<|eval e X.env) (TP X pins σ Q) X.xe s
def PW(X:Cx)(e:Expr)(t:TT):Prop:=
 ∀(whole:Sem Value) (pins:List<|Addr×Obj) (s:Shared) (σ:St) (H:Hp) (Q:Bool->Hp->Prop),Inv X pins σ H s->t σ H Q->wpAny (model X.prog X.w) X.A (isTrue e X.env whole) (TP X pins σ Q) X.xe s
def PA(X:Cx)(es:List Expr)(t:TA):Prop:=
 ∀(pos:Pos) (pins:List<|Addr×Obj) (s:Shared) (σ:St) (H:Hp) (Q:List V->Hp->Prop),Inv X pins σ H s->t σ H Q->wpAny (model X.prog X.w) X.A (spliced<|backTo pos<|starEach es X.env) (AP X pins σ Q) X.xe s
def PS(X:Cx)(st:Stmt)(t:TS):Prop:=
 ∀(pins:List<|Addr×Obj) (s:Shared) (σ:St) (H:Hp) (D:Ends),Inv X pins σ H s->t D σ H->wpAny (model X.prog X.w) X.A (exec st X.env) (SP X pins D) X.xe s
def iN(X:Cx)(st:List Stmt)(t:TS):Prop:=
 ∀(pins:List<|Addr×Obj) (s:Shared) (σ:St) (H:Hp) (D:Ends),Inv X pins σ H s->t D σ H->wpAny (model X.prog X.w) X.A (execs st X.env) (SP X pins D) X.xe s
theorem aE{α:Type}{t:Sem α}{Q Q':α->Shared->Prop}{M:Model}{A:Around}{E:Value->Shared->Prop}{s:Shared}(h:wpAny M A t Q E s)(hQ:∀ a s,Q a s->Q' a s):wpAny M A t Q' E s:=CW h hQ λ_ _ x=>x
section
variable{X:Cx}
theorem bin{a b:Expr}{ta tb:TE}(ha:PE X a ta)(hb:PE X b tb){pins:List (Addr×Obj)}{s:Shared}{σ:St}{H:Hp}{R:V->V->Hp->Prop}(I:Inv X pins σ H s)(h:ta σ H λx H1=>tb σ H1 λy H2=>R x y H2)
  {α:Type} {Q:α->Shared->Prop} {f:Value->Value->Sem α}
  (hf:∀ v u s2 x y H2,Inv X pins σ H2 s2->RelV x v->RelV y u->R x y H2->wpAny (model X.prog X.w) X.A (f v u) Q X.xe s2) :
  wpAny (model X.prog X.w) X.A (eval a X.env) (λv s₁=>wpAny (model X.prog X.w) X.A (eval b X.env) (λu s₂=>wpAny (model X.prog X.w) X.A (f v u) Q X.xe s₂) X.xe s₁) X.xe s:=by
 refine aE (ha pins s σ H _ I h) λv s1 ⟨x,H1,I1,r1,q1⟩=>?_;refine aE (hb pins s1 σ H1 _ I1 q1) λu s2 ⟨y,H2,I2,r2,q2⟩=>?_;exact hf v u s2 x y H2 I2 r1 r2 q2
def yV(i:Nat):TE:=λσ H Q=>∃ v,σ[i]?=some (some v)/\Q v H
def tC(v:V):TE:=λ_ H Q=>Q v H
theorem Si{i:Nat}{x:Str}{pos:Pos}(hN:X.N[i]?=some x)(hv:yP X.env.scope x)(hd:(x == ("__debug__" : Str))=false:=by decide)(ii:(x == ("__classdict__" : Str))=false:=by decide):PE X (.Name x pos) (yV i):=by
 intro pins s σ H Q I h;obtain⟨v,e,h⟩:=h;obtain⟨m,hn,hl⟩:=I.loc;obtain⟨u,r,l⟩:=hl i x v hN e hv;have fin:EP X pins σ Q u s:=⟨v,H,I,r,h⟩
 rcases l with ⟨hk,hm⟩ | ⟨hk,c,hc,ik⟩
 ·exact wpAny_Name (wpAny_loadName_local I.ok.kind hk hn hm fin) hd
 ·rcases hk with hk | hk
  ·exact wpAny_Name (wpAny_loadName_cell I.ok.kind hk hc ik fin) hd
  ·exact wpAny_Name (wpAny_loadName_free I.ok.kind hk hc ik fin ii) hd
theorem Sj{i j pos}:PE X (.Constant (.int i) j pos) (tC<|.int i):=λ_ _ _ H _ I h=>wpAny_Constant_int ⟨.int i,H,I.tok _,⟨_,rfl⟩,h⟩
theorem Sl{b j pos}:PE X (.Constant (.bool b) j pos) (tC<|.bl b):=λ_ _ _ H _ I h=>Constant_bool ⟨.bl b,H,I,rfl,h⟩
theorem Sn{x j pos}:PE X (.Constant (.str x) j pos) (tC<|.str x):=λ_ _ _ H _ I h=>Calls.Constant_str ⟨.str x,H,I.tok _,⟨_,rfl⟩,h⟩
def Gl(X:Cx)(x:Str):Prop:=X.env.kindOf x=some .globalImplicit
theorem rV{E:Value->Shared->Prop}{pins:List (Addr×Obj)}{s:Shared}{σ:St}{H:Hp}{x:Str}{u:Value}{pos:Pos}{Q:Value->Shared->Prop}(I:Inv X pins σ H s)(hg:Gl X x)(hm:X.mg x=some u)(h:Q u s)
  (hd:(x == ("__debug__" : Str))=false:=by decide):wpAny (model X.prog X.w) X.A (eval (.Name x pos) X.env) Q E s:=
 Calls.Name_function_global I.ok.kind hg (Calls.loadGlobal_global (by rw [I.ok.glob];exact I.mod.glob.keeps I.bk) hm h) hd
theorem nL{E:Value->Shared->Prop}{pins:List (Addr×Obj)}{s:Shared}{σ:St}{H:Hp}{x:Str}{u:Value}{pos:Pos}{Q:Value->Shared->Prop}(I:Inv X pins σ H s)(hg:Gl X x)(hm:X.mg x=none)(hv:bootBuiltins x=some u)(h:Q u s)
  (hn:x ≠ "__name__":=by decide) (hd:(x == ("__debug__" : Str))=false:=by decide):wpAny (model X.prog X.w) X.A (eval (.Name x pos) X.env) Q E s:=by
 obtain⟨mb,h1,h2⟩:=I.mod.blt;exact Calls.Name_function_global I.ok.kind hg (Calls.loadGlobal_builtin (by rw [I.ok.glob];exact I.mod.glob.keeps I.bk) hm (by rw [I.ok.blt];exact h1.keeps I.bk) ((h2 x hn).trans hv) h) hd
theorem Sq{x:Str}{v:V}{u:Value}{pos:Pos}(hg:Gl X x)(hm:X.mg x=some u)(r:RelV v u)(hd:(x == ("__debug__" : Str))=false:=by decide):PE X (.Name x pos) (tC v):=
 λ_ _ _ H _ I h=>rV I hg hm ⟨v,H,I,r,h⟩ hd
theorem Sr{x:Str}{v:V}{u:Value}{pos:Pos}(hg:Gl X x)(hm:X.mg x=none)(hv:bootBuiltins x=some u)(r:RelV v u)(hn:x ≠ "__name__":=by decide)(hd:(x == ("__debug__" : Str))=false:=by decide):PE X (.Name x pos) (tC v):=
 λ_ _ _ H _ I h=>nL I hg hm hv ⟨v,H,I,r,h⟩ hn hd
variable{a b:Expr}{ta tb:TE}{pos:Pos}
def PC(X:Cx)(op:CmpOp)(a b:Expr)(t:TE):Prop:=
 ∀(pins:List<|Addr×Obj) (s:Shared) (σ:St) (H:Hp) (Q:VK),Inv X pins σ H s->t σ H Q ->
  wpAny (model X.prog X.w) X.A (eval a X.env) (λv s₁=>wpAny (model X.prog X.w) X.A (eval b X.env) (λu s₂=>wpAny (model X.prog X.w) X.A (compareOp op v u) (EP X pins σ Q) X.xe s₂) X.xe s₁) X.xe s
def tB(t:TE):TT:=λσ H Q=>t σ H λx H1=>∃ c,x = .bl c/\Q c H1
theorem JY{op:CmpOp}{t:TE}(h:PC X op a b t)(h1:behindInMarks op b=false:=by first | exact rW _ (by decide) (by decide) | rfl):PT X (.Compare a [op] [b] pos) (tB t):=by
 intro pins s σ H Q I hw;refine wpAny_isTrue_Compare1 (aE (h pins s σ H _ I hw) λv s1 h1=>aE h1 λu s2 h2=>aE h2 λc s3 ⟨x,H1,I1,r1,q1⟩=>?_) h1;obtain⟨d,rfl,q⟩:=q1;cases r1;exact GD ⟨H1,I1,q⟩
theorem Sv{e:Expr}{t:TE}(h:PE X e t)(he:∀ whole,isTrue e X.env whole=(do let v <- whole;standAt e.pos;holding [v] (truthy v)):=by intro _;rfl):PT X e (tB t):=by
 intro pins s σ H Q I hw;refine isTrue_plain (aE (h pins s σ H _ I hw) λv s1 ⟨x,H1,I1,r1,q1⟩=>?_)<|he _;obtain⟨d,rfl,q⟩:=q1;cases r1;exact GD ⟨H1,I1,q⟩
variable{tA wa:TT}{rest:List Expr}
def yW(t u:TT):TT:=λσ H Q=>t σ H λc H1=>if c=true then u σ H1 Q else Q false H1
def Sw(t u:TT):TT:=λσ H Q=>t σ H λc H1=>if c=true then Q true H1 else u σ H1 Q
def yX(t:TT):TT:=λσ H Q=>t σ H λc H1=>Q (!c) H1
theorem Sx(ha:PT X a tA):PW X (.BoolOp .And [a] pos) tA:=by
 intro wh pins s σ H Q I h;refine isTrue_and<|aE (ha pins s σ H Q I h) λc s1 e=>?_;cases c with
 | true=>exact isTrue_and_nil e
 | false=>exact e
theorem Sy(ha:PT X a tA):PW X (.BoolOp .Or [a] pos) tA:=by
 intro wh pins s σ H Q I h;refine isTrue_or<|aE (ha pins s σ H Q I h) λc s1 e=>?_;cases c with
 | false=>exact isTrue_or_nil e
 | true=>exact e
theorem Sz(ha:PT X a tA)(hb:PW X (.BoolOp .And (b :: rest) pos) wa):PW X (.BoolOp .And (a :: b :: rest) pos) (yW tA wa):=by
 intro wh pins s σ H Q I h;refine isTrue_and<|aE (ha pins s σ H _ I h) λc s1 ⟨H1,I1,q1⟩=>?_;cases c with
 | true=>exact hb wh pins s1 σ H1 Q I1 q1
 | false=>exact⟨H1,I1,q1⟩
theorem SA(ha:PT X a tA)(hb:PW X (.BoolOp .Or (b :: rest) pos) wa):PW X (.BoolOp .Or (a :: b :: rest) pos) (Sw tA wa):=by
 intro wh pins s σ H Q I h;refine isTrue_or<|aE (ha pins s σ H _ I h) λc s1 ⟨H1,I1,q1⟩=>?_;cases c with
 | true=>exact⟨H1,I1,q1⟩
 | false=>exact hb wh pins s1 σ H1 Q I1 q1
theorem SD(ha:PT X a tA):PT X (.UnaryOp .Not a pos) (yX tA):=by
 intro pins s σ H Q I h;exact isTrue_not<|ha pins s σ H (λc H1=>Q (!c) H1) I h
def SE(ta tb:TE):TE:=λσ H Q=>ta σ H λx H1=>∃ c,x = .bl c/\if c=true then tb σ H1 Q else Q (.bl false) H1
theorem SF{op}{t:TE}(h:PE X a t):PE X (.BoolOp op [a] pos) t:=λpins s σ H Q I hw=>BoolOp_one<|h pins s σ H Q I hw
theorem SG(ha:PE X a ta)(hb:PE X (.BoolOp .And (b :: rest) pos) tb):PE X (.BoolOp .And (a :: b :: rest) pos) (SE ta tb):=by
 intro pins s σ H Q I h;refine BoolOp_and<|aE (ha pins s σ H _ I h) λv s1 ⟨x,H1,I1,r1,q1⟩=>?_;obtain⟨c,rfl,q1⟩:=q1;cases r1;refine GD ?_;cases c with
 | true=>exact hb pins s1 σ H1 Q I1 q1
 | false=>exact⟨.bl false,H1,I1,rfl,q1⟩
end
def al(K:PySem.W.Frag)(H:Hp)(a:Addr)(xs:List V):Prop:=
 Rd H a (.lst xs) \/
  ∃(o:Obj) (its:Array Value) (n:Nat),K.lookup a=some o/\o.cls = .type "list"/\o.dict=none/\o.data = .seq its n/\its.size<=sizeLine/\av xs its.toList
def aK(K:PySem.W.Frag)(H:Hp)(a:Addr)(xs:List V):Prop:=
 Rd H a (.tup xs) \/
  ∃(o:Obj) (its:Array Value) (n:Nat),K.lookup a=some o/\o.cls = .type "tuple"/\o.data = .seq its n/\its.size<=sizeLine/\av xs its.toList
def yY:Value->Option V
 | .none=>some .non
 | .bool b=>some<|.bl b
 | .int i _=>some<|.int i
 | .str x _=>some<|.str x
 | .bytes b _=>some<|.iM b
 | .float b _=>some<|.kK b
 | .ref a=>some<|.ref a
 | .type n=>some<|.ty n
 | _=>none
theorem RelV.abs{x:V}{u:Value}(r:RelV x u):yY u=some x:=by
 cases x with
 | non=>cases r;rfl
 | bl _=>cases r;rfl
 | int _=>obtain⟨t,rfl⟩:=r;rfl
 | str _=>obtain⟨t,rfl⟩:=r;rfl
 | iM _=>obtain⟨t,rfl⟩:=r;rfl
 | kK _=>obtain⟨t,rfl⟩:=r;rfl
 | ref _=>cases r;rfl
 | ty _=>cases r;rfl
theorem RelV.inj{x y:V}{u:Value}(r:RelV x u)(q:RelV y u):x=y:=Option.some.inj<|r.abs.symm.trans q.abs
theorem av.inj:∀{xs ys:List V} {us:List Value},av xs us->av ys us->xs=ys
 | _,_,_,.nil,.nil=>rfl
 | _,_,_,.cons r t,.cons r' t'=>by rw [r.inj r',av.inj t t']
section
variable{X:Cx}{pins:List (Addr×Obj)}{σ:St}{H:Hp}{s:Shared}{a:Addr}{xs ys:List V}
theorem al.of{K:PySem.W.Frag}(h:H a=some (.lst xs)):al K H a xs:= .inl<|.inl h
theorem aK.of{K:PySem.W.Frag}(h:H a=some (.tup xs)):aK K H a xs:= .inl<|.inl h
theorem Inv.list(I:Inv X pins σ H s)(h:al X.K H a xs):∃ its:List Value,av xs its/\PlainL s.heap a its.toArray/\xs.length<=sizeLine:=by
 rcases h with h | ⟨o,its,n,hk,hc,hd,hs,hz,r⟩
 ·obtain⟨z,its,n,r,e⟩:=h.ok I.aA;exact⟨its,r,⟨_,n,e,rfl,rfl,rfl⟩,z⟩
 ·refine⟨its.toList,r,⟨o,n,I.dY a o hk,hc,hd,by simpa using hs⟩,?_⟩;have e:=r.length;simp only [Bx] at e;omega
theorem Inv.tuple(I:Inv X pins σ H s)(h:aK X.K H a xs):∃ its:List Value,av xs its/\IsTup s.heap a its.toArray/\xs.length<=sizeLine:=by
 rcases h with h | ⟨o,its,n,hk,hc,hs,hz,r⟩
 ·obtain⟨z,its,r,p⟩:=h.ok I.aA;exact⟨its,r,p,z⟩
 ·refine⟨its.toList,r,⟨o,I.dY a o hk,hc,n,by simpa using hs⟩,?_⟩;have e:=r.length;simp only [Bx] at e;omega
theorem Inv.dH(I:Inv X pins σ H s)(h:al X.K H a xs)(h':al X.K H a ys):xs=ys:=by
 obtain⟨its,r,⟨o,n,e,_,_,d⟩,_⟩:=I.list h;obtain⟨its',r',⟨o',n',e',_,_,d'⟩,_⟩:=I.list h';rw [e] at e';cases e';rw [d] at d'
 injection d' with d1 _
 have:its=its':=by simpa using CG Array.toList d1
 subst this;exact r.inj r'
theorem Inv.iO(I:Inv X pins σ H s)(h:aK X.K H a xs)(h':aK X.K H a ys):xs=ys:=by
 obtain⟨its,r,⟨o,e,_,n,d⟩,_⟩:=I.tuple h;obtain⟨its',r',⟨o',e',_,n',d'⟩,_⟩:=I.tuple h';rw [e] at e';cases e';rw [d] at d'
 injection d' with d1 _
 have:its=its':=by simpa using CG Array.toList d1
 subst this;exact r.inj r'
end
abbrev Cx.dq(X:Cx)(E:Value->Shared->Prop):Cx:={X with xe:=E}
abbrev Cx.qo(X:Cx):Cx:=X.dq λ_ _=>False
theorem Cx.Ok.dq{X:Cx}(ok:X.Ok)(E:Value->Shared->Prop):(X.dq E).Ok:=
 ⟨ok.mod,ok.kind,ok.glob,ok.blt,ok.above,ok.inj,ok.has,ok.kN,ok.hd,ok.frames,ok.j7,ok.qm,ok.bs,ok.jd,ok.fe,ok.fQ,ok.cG,ok.j8⟩
theorem Cx.Ok.bH{X:Cx}{E:Value->Shared->Prop}(ok:(X.dq E).Ok):X.Ok:=
 ⟨ok.mod,ok.kind,ok.glob,ok.blt,ok.above,ok.inj,ok.has,ok.kN,ok.hd,ok.frames,ok.j7,ok.qm,ok.bs,ok.jd,ok.fe,ok.fQ,ok.cG,ok.j8⟩
section
variable{X:Cx}{pins:List (Addr×Obj)}{σ:St}{H:Hp}{s:Shared}{E:Value->Shared->Prop}
theorem Inv.dq(I:Inv X pins σ H s)(E:Value->Shared->Prop):Inv (X.dq E) pins σ H s:=⟨I.ok.dq E,I.os,I.bare,I.base,I.loc,I.cell,I.free,I.bq,I.pin,I.aA,I.len⟩
theorem Inv.bH(I:Inv (X.dq E) pins σ H s):Inv X pins σ H s:=⟨I.ok.bH,I.os,I.bare,I.base,I.loc,I.cell,I.free,I.bq,I.pin,I.aA,I.len⟩
theorem SP.bH{D:Ends}{f:Flow}{s':Shared}(h:SP (X.dq E) pins D f s'):SP X pins D f s':=by
 cases f with
 | next=>obtain⟨σ',H',I,q⟩:=h;exact⟨σ',H',I.bH,q⟩
 | brk=>obtain⟨σ',H',I,q⟩:=h;exact⟨σ',H',I.bH,q⟩
 | cont=>obtain⟨σ',H',I,q⟩:=h;exact⟨σ',H',I.bH,q⟩
 | ret u=>obtain⟨v,σ',H',I,r,q⟩:=h;exact⟨v,σ',H',I.bH,r,q⟩
theorem iN.qo{st:List Stmt}{t:TS}(h:iN X.qo st t):iN X st t:=λpins s σ H D I hw=>
 CW (h pins s σ H D (I.dq _) hw) (λ_ _ q=>q.bH) λ_ _ z=>False.elim z
end
section
variable{X:Cx}{st:Stmt}{rest:List Stmt}{t u:TS}{e:Expr}{te:TE}{pos:Pos}
def SH:TS:=λD σ H=>D.nx σ H
def yZ(t u:TS):TS:=λD σ H=>t {D with nx:=u D} σ H
theorem J1:iN X [] SH:=λ_ _ σ H _ I h=>RN ⟨σ,H,I,h⟩
theorem SK(h1:PS X st t)(h2:iN X rest u):iN X (st :: rest) (yZ t u):=by
 intro pins s σ H D I h;refine wpAny_execs_cons<|aE (h1 pins s σ H {D with nx:=u D} I h) λf s1 q=>?_;cases f with
 | next=>
  obtain⟨σ',H',I',q⟩:=q;exact h2 pins s1 σ' H' D I' q
 | ret v=>exact q
 | brk=>exact q
 | cont=>exact q
theorem Inv.quiet{pins:List (Addr×Obj)}{σ:St}{H:Hp}{s:Shared}(I:Inv X pins σ H s):interactive X.env=false:=by simp [interactive,I.ok.kind]
def SL(te:TE):TS:=λD σ H=>te σ H λ_ H1=>D.nx σ H1
theorem SR(he:PE X e te)(hs:swapsWith e none pos.line X.env=pure false:=by rfl):PS X (.Expr e pos) (SL te):=by
 intro pins s σ H D I h;exact wpAny_Expr_any (aE (he pins s σ H _ I h) λv s1 ⟨x,H1,I1,r1,q1⟩=>⟨σ,H1,I1,q1⟩) I.quiet hs
def y4(te:TE):TS:=λD σ H=>te σ H D.rt
theorem SU(he:PE X e te):PS X (.Return (some e) pos) (y4 te):=by
 intro pins s σ H D I h;exact wpAny_Return_some<|aE (he pins s σ H _ I h) λv s1 ⟨x,H1,I1,r1,q1⟩=>⟨x,σ,H1,I1,r1,q1⟩
def y7(c:TT)(t u:TS):TS:=λD σ H=>c σ H λb H1=>if b=true then t D σ H1 else u D σ H1
theorem SV{c:Expr}{a b:List Stmt}{tc:TT}(hc:PT X c tc)(ha:iN X a t)(hb:iN X b u):PS X (.If c a b pos) (y7 tc t u):=by
 intro pins s σ H D I h;refine wpAny_If<|aE (hc pins s σ H _ I h) λd s1 ⟨H1,I1,q1⟩=>?_;cases d with
 | true=>exact ha pins s1 σ H1 D I1 q1
 | false=>exact hb pins s1 σ H1 D I1 q1
end
abbrev TG:=V->St->Hp->(St->Hp->Prop)->Prop
abbrev nM:=List V->St->Hp->(St->Hp->Prop)->Prop
def PG(X:Cx)(target:Expr)(t:TG):Prop:=
 ∀(pins:List<|Addr×Obj) (s:Shared) (σ:St) (H:Hp) (v:V) (u:Value) (Q:St->Hp->Prop),Inv X pins σ H s->RelV v u->t v σ H Q ->
  wpAny (model X.prog X.w) X.A (assign target X.env u) (λ_ s'=>∃ σ' H',Inv X pins σ' H' s'/\Q σ' H') X.xe s
def wc(X:Cx)(ts:List Expr)(t:nM):Prop:=
 ∀(pins:List<|Addr×Obj) (s:Shared) (σ:St) (H:Hp) (vs:List V) (us:List Value) (Q:St->Hp->Prop),Inv X pins σ H s->av vs us->t vs σ H Q ->
  wpAny (model X.prog X.w) X.A (assignInOrder ((assignEach ts X.env).map (·.2)) us) (λ_ s'=>∃ σ' H',Inv X pins σ' H' s'/\Q σ' H') X.xe s
abbrev nN:=V->V->V->Hp->(Hp->Prop)->Prop
def rX(X:Cx)(t:nN):Prop:=
 ∀(pins:List<|Addr×Obj) (s:Shared) (σ:St) (H:Hp) (o i v:V) (ov iv u:Value) (Q:Hp->Prop),Inv X pins σ H s->RelV o ov->RelV i iv->RelV v u->t o i v H Q ->
  wpAny (model X.prog X.w) X.A (setItem ov iv u) (λ_ s'=>∃ H',Inv X pins σ H' s'/\Q H') X.xe s
section
variable{X:Cx}{pos:Pos}
def J9(i:Nat):TG:=λv σ H Q=>Q (σ.set i<|some v) H
theorem SW{i:Nat}{x:Str}(hN:X.N.Nodup)(hi:X.N[i]?=some x)(hx:Loc X.env.scope x)(hf:X.fn x=true\/X.env.scope.names.lookup x=some .local:=by first | exact .inl rfl | exact .inr rfl | assumption):PG X (.Name x pos) (J9 i):=by
 intro pins s σ H v u Q I r h;exact wpAny_assign_Name<|yU I hN hi hx r (λs' I'=>⟨_,H,I',h⟩) hf
def nO:nM:=λvs σ H Q=>vs=[]/\Q σ H
def qp(t:TG)(u:nM):nM:=λvs σ H Q=>∃ v r,vs=v :: r/\t v σ H λσ' H'=>u r σ' H' Q
theorem J':wc X [] nO:=by
 intro pins s σ H vs us Q I r h;obtain⟨e,h⟩:=h;subst e;cases r;exact assignInOrder_nil ⟨σ,H,I,h⟩
theorem rY{e:Expr}{es:List Expr}{t:TG}{u:nM}(h1:PG X e t)(h2:wc X es u)
  (hs:(assignEach (e :: es) X.env).map (·.2)=assign e X.env :: (assignEach es X.env).map (·.2):=by rfl):wc X (e :: es) (qp t u):=by
 intro pins s σ H vs us Q I r h;obtain⟨v,vr,e1,h⟩:=h;subst e1;cases r with
 | cons r rr=>
  rw [hs];refine assignInOrder_cons<|aE (h1 pins s σ H _ _ _ I r h) λ_ s1 ⟨σ1,H1,I1,q1⟩=>?_;exact h2 pins s1 σ1 H1 _ _ Q I1 rr q1
def y8(K:PySem.W.Frag)(n:Nat)(t:nM):TG:=λv σ H Q=>∃ a xs,v = .ref a/\aK K H a xs/\xs.length=n/\t xs σ H Q
theorem Ka{es:List Expr}{k:Nat}{t:nM}{n:Nat}(hc:X.calm=true)(h:wc X es t)
  (hn:(assignEach es X.env).length=n:=by rfl) (cR:(assignEach es X.env).findIdx? (·.1)=none:=by rfl):PG X (.Tuple es k pos) (y8 X.K n t):=by
 intro pins s σ H v u Q I r hw;obtain⟨a,xs,e1,hq,hl,hw⟩:=hw;subst e1;cases r;obtain⟨its,rv,ht,hz⟩:=I.tuple hq;refine assign_Tuple_tuple (I.ok.hd hc) ht (by simp [hn,<- hl,rv.length]) cR λh' hx=>?_;have I1:Inv X pins σ H {s with heap:=h'}:=I.kept (t':=s.toks) λb o e=>hx b o (Bp<|As e) e;exact h pins _ σ H xs _ Q I1 (by simpa using rv) hw
def y9(to ti:TE)(t:nN):TG:=λv σ H Q=>to σ H λo H1=>ti σ H1 λi H2=>t o i v H2 λH3=>Q σ H3
theorem SY{o i:Expr}{to ti:TE}{t:nN}(ho:PE X o to)(hi:PE X i ti)(hs:rX X t)
  (ha : ∀ v, assign (.Subscript o i pos) X.env v = (do
   let ov <- holding [v]<|eval o X.env
   let iv <- holding [v,ov]<|eval i X.env
   standAt pos
   holding [v,ov,iv] (setItem ov iv v)
   release [v,ov,iv] []):=by intro _;rfl):PG X (.Subscript o i pos) (y9 to ti t):=by
 intro pins s σ H v u Q I r h;rw [ha];refine BJ<|CK<|aE (ho pins s σ H _ I h) λov s1 ⟨x,H1,I1,r1,q1⟩=>?_;refine BJ<|CK<|aE (hi pins s1 σ H1 _ I1 q1) λiv s2 ⟨y,H2,I2,r2,q2⟩=>?_;refine BJ<|FJ<|BJ<|CK<|aE (hs pins s2 σ H2 x y v ov iv u _ I2 r1 r2 r q2) λ_ s3 ⟨H3,I3,q3⟩=>?_;exact wpAny_release ⟨σ,H3,I3,q3⟩
def rZ(te:TE)(g:TG):TS:=λD σ H=>te σ H λx H1=>g x σ H1 D.nx
theorem SZ{tg e:Expr}{te:TE}{g:TG}(he:PE X e te)(hg:PG X tg g)(hs:swapsWithSole [tg] e pos.line X.env=pure false:=by rfl)(hw:swappedStores [tg] e X.env=pure none:=by rfl)
  (h1:(assignEach [tg] X.env).map (·.2)=[assign tg X.env]:=by rfl):PS X (.Assign [tg] e pos) (rZ te g):=by
 intro pins s σ H D I h;refine wpAny_Assign_stores (aE (he pins s σ H _ I h) λv s1 ⟨x,H1,I1,r1,q1⟩=>?_) hs hw;rw [h1];exact aE (hg pins s1 σ H1 x v _ I1 r1 q1) λ_ s2 q=>q
theorem S1{i:Nat}{x:Str}{e:Expr}{te:TE}{pos':Pos}(hN:X.N.Nodup)(hi:X.N[i]?=some x)(hx:Loc X.env.scope x)(he:PE X e te)(hs:swapsWith e (some<|.Name x pos') pos.line X.env=pure false:=by rfl)(hf:X.fn x=true\/X.env.scope.names.lookup x=some .local:=by first | exact .inl rfl | exact .inr rfl | assumption) :
  PS X (.Assign [.Name x pos'] e pos) (rZ te<|J9 i):=by
 intro pins s σ H D I h;refine wpAny_Assign_Name (aE (he pins s σ H _ I h) λv s1 ⟨y,H1,I1,r1,q1⟩=>?_) hs;exact yU I1 hN hi hx r1 (λs2 I2=>⟨_,H1,I2,q1⟩) hf
def S6(c:TT)(tb:TS):TS:=λD σ H=>∃ W:Nat->St->Hp->Prop,(∃ m,W m σ H)/\∀ m σ H,W m σ H ->
 c σ H λb H1=>if b=true then ∃ N:St->Hp->Prop,(∀ σ' H',N σ' H'->∃ m',m' < m/\W m' σ' H')/\tb {D with nx:=N,ct:=N,bk:=D.nx} σ H1 else D.nx σ H1
theorem S7{c:Expr}{body:List Stmt}{tc:TT}{tb:TS}(hp:PassesOwn (model X.prog X.w) X.A X.env X.xe)(hc:PT X c tc)(hb:iN X body tb):PS X (.While c body [] pos) (S6 tc tb):=by
 intro pins s σ H D I h;obtain⟨W,⟨m0,w0⟩,turn⟩:=h;refine wpAny_While<|codeAny_whileLoop (λn s'=>∃ σ' H',Inv X pins σ' H' s'/\W n σ' H') ?_ m0 ⟨σ,H,I,w0⟩;rintro n s1 ⟨σ1,H1,I1,w1⟩;refine HN hp<|aE (hc pins s1 σ1 H1 _ I1<|turn n σ1 H1 w1) λb s2 ⟨H2,I2,q2⟩=>?_;cases b with
 | true=>
  obtain⟨N,hN,q2⟩:=q2;rw [BR rfl];refine HN hp<|aE (hb pins s2 σ1 H2 _ I2 q2) λf s3 q3=>?_;cases f with
  | next=>
   obtain⟨σ3,H3,I3,n3⟩:=q3;obtain⟨m',hm,w3⟩:=hN σ3 H3 n3;exact⟨m',hm,σ3,H3,I3,w3⟩
  | cont=>
   obtain⟨σ3,H3,I3,n3⟩:=q3;obtain⟨m',hm,w3⟩:=hN σ3 H3 n3;exact⟨m',hm,σ3,H3,I3,w3⟩
  | brk=>exact q3
  | ret v=>exact q3
 | false=>
  rw [BK At];exact RN ⟨σ1,H2,I2,q2⟩
end
structure It where
 go:Nat->Hp->Prop
 qt:Nat->Hp->V->Hp->Prop
 stop:Nat->Hp->Prop
def ci(X:Cx)(pins:List<|Addr×Obj)(H:Hp)(b:Addr):Prop:=
 H b=none/\b≠X.env.locals/\b∉X.fs/\(b∈X.ex\/X.s₀.heap.objs.size<=b)/\(∀ x c,X.env.cells.lookup x=some c->c≠b)/\∀ p∈X.pn++pins,p.1≠b
theorem Inv.iP{X:Cx}{pins:List (Addr×Obj)}{σ:St}{H H':Hp}{s:Shared}{b:Addr}(I:Inv X pins σ H s)(hb:s.heap.objs.size<=b)(hn:H' b=none):ci X pins H' b:=by
 refine⟨hn,Cw<|Bg I.lt hb,I.yR hb,.inr<|Cr I.sz hb,λx c e z=>?_,λp hp z=>?_⟩
 ·obtain⟨v,q⟩:=I.cell x c e;exact absurd (Bg q.lt<|by rw [z];exact hb)<|Ct _
 ·exact absurd (Bg (As (I.pin p hp).1)<|by rw [z];exact hb)<|Ct _
structure Turn(P:Program)(w:World)(K:PySem.W.Frag)(tg:Expr)(J:It)(fp:List Addr)(it:Addr)(tn:Nat->Heap->Prop):Prop where
 mem:it∈fp
 obj:∀ i h,tn i h->∀ b∈fp,∃ o,h.get? b=some o/\∀ v,o.data ≠ .cell v
 keep:∀ i h h',tn i h->(∀ b∈fp,∀ o,h.get? b=some o->h'.get? b=some o)->tn i h'
 item:∀(X:Cx),X.prog=P->X.w=w->X.K=K->X.calm=true->∀(i:Nat) (pins:List<|Addr×Obj) (s:Shared) (σ:St) (H:Hp) (E:Value->Shared->Prop),Inv X pins σ H s->(∀ b∈fp,ci X pins H b)->tn i s.heap->J.go i H ->
  wpAny (model P w) X.A (pyNext<|.ref it) (λr s1=>∃ u,r=some u /\
   wpAny (model P w) X.A (letOwnedTupleGo tg (.ref it) u) (λ_ s2=>∃ x H',Inv X pins σ H' s2/\RelV x u/\J.qt i H x H'/\tn (i+1) s2.heap/\∀ b∈fp,H' b=none) E s1) E s
 done:∀(X:Cx),X.prog=P->X.w=w->X.K=K->X.calm=true->∀(i:Nat) (pins:List<|Addr×Obj) (s:Shared) (σ:St) (H:Hp) (E:Value->Shared->Prop),Inv X pins σ H s->(∀ b∈fp,ci X pins H b)->tn i s.heap->J.stop i H ->
  wpAny (model P w) X.A (pyNext<|.ref it) (λr s1=>r=none/\Inv X pins σ H s1) E s
 self:∀(A:Around) (i:Nat) (s:Shared) (Q:Value->Shared->Prop) (E:Value->Shared->Prop),tn i s.heap->Q (.ref it) s->wpAny (model P w) A (pyIter<|.ref it) Q E s
abbrev TI:=St->Hp->(It->Hp->Prop)->Prop
def Kb(X:Cx)(pins:List<|Addr×Obj)(σ:St)(tg:Expr)(R:It->Hp->Prop)(kP:Value)(s2:Shared):Prop:=
 ∃(it:Addr) (fp:List Addr) (tn:Nat->Heap->Prop) (J:It) (H':Hp),kP = .ref it/\Inv X pins σ H' s2/\Turn X.prog X.w X.K tg J fp it tn/\tn 0 s2.heap/\(∀ b∈fp,ci X pins H' b)/\R J H'
def PI(X:Cx)(tg iter:Expr)(wi:TI):Prop:=
 ∀(pins:List<|Addr×Obj) (s:Shared) (σ:St) (H:Hp) (R:It->Hp->Prop),Inv X pins σ H s->wi σ H R ->
  wpAny (model X.prog X.w) X.A (eval iter X.env) (λv s1=>wpAny (model X.prog X.w) X.A (pyIter v) (Kb X pins σ tg R) X.xe s1) X.xe s
theorem sd{M:Model}{A:Around}{E:Value->Shared->Prop}{s:Shared}{tg:Expr}{it:Addr}{u:Value}{o:Obj}{n:String}{vs:Array Value}{Q:Unit->Shared->Prop}(ho:s.heap.get? it=some o)(hc:o.cls = .type n)(hd:o.data = .fields vs)
    (hn:["enumerate","zip","dict_itemiterator","dict_reverseitemiterator","odict_iterator","itertools.zip_longest","itertools.pairwise"].contains n=false) (hQ:Q () s):wpAny M A (letOwnedTupleGo tg (.ref it) u) Q E s:=by
  unfold letOwnedTupleGo;cases tg <;> first
    | exact BL hQ
    | (cases u <;> first
        | exact BL hQ
        | (refine BJ<|wpAny_load ho ?_
           rw [hc,hd];show wpAny M A (if(["enumerate","zip","dict_itemiterator","dict_reverseitemiterator","odict_iterator","itertools.zip_longest","itertools.pairwise"].contains n && vs[0]? == some (rawInt _))=true then _ else _) Q E s;rw [BK<|by intro h;rw [hn,SM] at h;cases h];exact BL hQ))
def qu(K:PySem.W.Frag)(a:Addr):It:=
 ⟨λi H=>∃ xs x,al K H a xs/\xs[i]?=some x,λi H x H'=>H'=H/\∀ xs,al K H a xs->xs[i]?=some x,λi H=>∃ xs,al K H a xs/\xs.length<=i⟩
def we(K:PySem.W.Frag)(a:Addr):It:=
 ⟨λi H=>∃ xs x,aK K H a xs/\xs[i]?=some x,λi H x H'=>H'=H/\∀ xs,aK K H a xs->xs[i]?=some x,λi H=>∃ xs,aK K H a xs/\xs.length<=i⟩
def qv(lo:Int)(n:Nat):It:=⟨λi _=>i < n,λi H x H'=>H'=H/\x = .int (lo+i),λi _=>n<=i⟩
theorem S8{P:Program}{w:World}{K:PySem.W.Frag}{tg:Expr}(a it:Addr):Turn P w K tg (qu K a) [it] it (λi h=>h.IsListIter it a i) where
 mem:=by simp
 obj:=λi h st b hb=>by
  have e:b=it:=by simpa using hb
  subst e;obtain⟨o,e,c,d⟩:=st;exact⟨o,e,λv z=>by rw [d] at z;cases z⟩
 keep:=λi h h' st k=>st.at λo e=>k it (by simp) o e
 item:=by
  intro X hP hw hK hc i pins s σ H E I hf st hg;subst hP hw hK;obtain⟨xs,x,hq,hx⟩:=hg;obtain⟨its,rv,p,hz⟩:=I.list hq;obtain⟨u,hu,ru⟩:=rv.get hx;obtain⟨f0,f1,f2,f3,f4,f5⟩:=hf it (by simp);refine wpAny_pyNext_list_item st p.isList (x:=u) (by simpa using hu) λh' cS sb=>?_;have I1:Inv X pins σ H {s with heap:=h'}:=I.turned (t':=s.toks) (λb o hb e=>(sb.2 b hb).trans e) f0 f1 f3 f4 f5;obtain⟨o,e,c,d⟩:=id cS;exact⟨u,rfl,sd (s:={s with heap:=h'}) e c d (by decide) ⟨x,H,I1,ru,⟨rfl,λys hy=>by rw [I.dH hy hq];exact hx⟩,cS,λb hb=>(hf b hb).1⟩⟩
 done:=by
  intro X hP hw hK hc i pins s σ H E I hf st hg;subst hP hw hK;obtain⟨xs,hq,hx⟩:=hg;obtain⟨its,rv,p,hz⟩:=I.list hq;obtain⟨f0,f1,f2,f3,f4,f5⟩:=hf it (by simp);have hl:=rv.length;exact wpAny_pyNext_list_end (I.ok.hd hc) st p.isList (by simp;omega) λh' eb=>⟨rfl,I.turned (t':=s.toks) (λb o hb e=>eb b o hb e) f0 f1 f3 f4 f5⟩
 self:=λ_ _ _ _ _ st h=>wpAny_pyIter_listiter st h
theorem S9{P:Program}{w:World}{K:PySem.W.Frag}{tg:Expr}(a it:Addr):Turn P w K tg (we K a) [it] it (λi h=>h.IsTupleIter it a i) where
 mem:=by simp
 obj:=λi h st b hb=>by
  have e:b=it:=by simpa using hb
  subst e;obtain⟨o,e,c,d⟩:=st;exact⟨o,e,λv z=>by rw [d] at z;cases z⟩
 keep:=λi h h' st k=>st.at λo e=>k it (by simp) o e
 item:=by
  intro X hP hw hK hc i pins s σ H E I hf st hg;subst hP hw hK;obtain⟨xs,x,hq,hx⟩:=hg;obtain⟨its,rv,p,hz⟩:=I.tuple hq;obtain⟨u,hu,ru⟩:=rv.get hx;obtain⟨f0,f1,f2,f3,f4,f5⟩:=hf it (by simp);refine wpAny_pyNext_tuple_item st (show s.heap.IsTuple a its.toArray from p) (x:=u) (by simpa using hu) λh' cS sb=>?_;have I1:Inv X pins σ H {s with heap:=h'}:=I.turned (t':=s.toks) (λb o hb e=>(sb.2 b hb).trans e) f0 f1 f3 f4 f5;obtain⟨o,e,c,d⟩:=id cS;exact⟨u,rfl,sd (s:={s with heap:=h'}) e c d (by decide) ⟨x,H,I1,ru,⟨rfl,λys hy=>by rw [I.iO hy hq];exact hx⟩,cS,λb hb=>(hf b hb).1⟩⟩
 done:=by
  intro X hP hw hK hc i pins s σ H E I hf st hg;subst hP hw hK;obtain⟨xs,hq,hx⟩:=hg;obtain⟨its,rv,p,hz⟩:=I.tuple hq;obtain⟨f0,f1,f2,f3,f4,f5⟩:=hf it (by simp);have hl:=rv.length;exact wpAny_pyNext_tuple_end (I.ok.hd hc) st (show s.heap.IsTuple a its.toArray from p) (by simp;omega) λh' eb=>⟨rfl,I.turned (t':=s.toks) (λb o hb e=>eb b o hb e) f0 f1 f3 f4 f5⟩
 self:=λ_ _ _ _ _ st h=>wpAny_pyIter_tupleiter st h
theorem Ta{P:Program}{w:World}{K:PySem.W.Frag}{tg:Expr}(it:Addr)(lo:Int)(n:Nat):Turn P w K tg (qv lo n) [it] it (λi h=>IsRangeIter h it (lo+(i:Nat) * 1) ((n:Int) - (i:Nat)) 1) where
 mem:=by simp
 obj:=λi h st b hb=>by
  have e:b=it:=by simpa using hb
  subst e;exact⟨_,st,λv z=>by
   have z':Data.fields _=Data.cell v:=z;cases z'⟩
 keep:=λi h h' st k=>k it (by simp) _ st
 item:=by
  intro X hP hw hK hc i pins s σ H E I hf st hg;subst hP hw hK;obtain⟨f0,f1,f2,f3,f4,f5⟩:=hf it (by simp);have W:=Walks.range (prog:=X.prog) (w:=X.w) (I.ok.hd hc) it lo 1 n;refine W.item i s _ _ hg st λv h' tk hv cS kk=>?_;obtain⟨t,rfl⟩:=hv;have I1:Inv X pins σ H {s with heap:=h',toks:=tk}:=I.turned (λb o hb e=>kk b o (by simpa using hb) e) f0 f1 f3 f4 f5;refine⟨_,rfl,sd (s:={s with heap:=h',toks:=tk}) (n:= "range_iterator") cS rfl rfl (by decide) ⟨.int<|lo+i,H,I1,⟨t,?_⟩,⟨rfl,rfl⟩,cS,λb hb=>(hf b hb).1⟩⟩;rw [Int.mul_one]
 done:=by
  intro X hP hw hK hc i pins s σ H E I hf st hg;subst hP hw hK;obtain⟨f0,f1,f2,f3,f4,f5⟩:=hf it (by simp);exact wpAny_pyNext_range_end (I.ok.hd hc) st (by have:n<=i:=hg;omega) λh' eb=>⟨rfl,I.turned (t':=s.toks) (λb o hb e=>eb b o hb e) f0 f1 f3 f4 f5⟩
 self:=λ_ _ _ _ _ st h=>wpAny_pyIter_rangeiter st h
section
variable{X:Cx}{tg:Expr}
def Tb(K:PySem.W.Frag)(tl:TE):TI:=λσ H R=>tl σ H λx H1=>∃ a,x = .ref a/\(∃ xs,al K H1 a xs)/\R (qu K a) H1
def zb(K:PySem.W.Frag)(tl:TE):TI:=λσ H R=>tl σ H λx H1=>∃ a,x = .ref a/\(∃ xs,aK K H1 a xs)/\R (we K a) H1
theorem iQ{l:Expr}{tl:TE}(hl:PE X l tl):PI X tg l (Tb X.K tl):=by
 intro pins s σ H R I h;refine aE (hl pins s σ H _ I h) λv s1 ⟨x,H1,I1,r1,q1⟩=>?_;obtain⟨a,e,⟨xs,hq⟩,q⟩:=q1;subst e;cases r1;obtain⟨its,rv,p,hz⟩:=I1.list hq;refine KZ p.isList ?_;refine⟨s1.heap.objs.size,[s1.heap.objs.size],_,_,H1,rfl,I1.kept (t':=s1.toks) λb o e=>Ah _ e,S8 a _,⟨_,Ar _ rfl,rfl,rfl⟩,λb hb=>?_,q⟩;have e:b=s1.heap.objs.size:=by simpa using hb
 subst e;exact I1.iP (Ak _)<|I1.aA.fresh<|Ak _
theorem Tc{l:Expr}{tl:TE}(hl:PE X l tl):PI X tg l (zb X.K tl):=by
 intro pins s σ H R I h;refine aE (hl pins s σ H _ I h) λv s1 ⟨x,H1,I1,r1,q1⟩=>?_;obtain⟨a,e,⟨xs,hq⟩,q⟩:=q1;subst e;cases r1;obtain⟨its,rv,p,hz⟩:=I1.tuple hq;refine wpAny_pyIter_tuple (show s1.heap.IsTuple a its.toArray from p) ?_;refine⟨s1.heap.objs.size,[s1.heap.objs.size],_,_,H1,rfl,I1.kept (t':=s1.toks) λb o e=>Ah _ e,S9 a _,⟨_,Ar _ rfl,rfl,rfl⟩,λb hb=>?_,q⟩;have e:b=s1.heap.objs.size:=by simpa using hb
 subst e;exact I1.iP (Ak _)<|I1.aA.fresh<|Ak _
theorem Td{pins:List (Addr×Obj)}{σ:St}{H:Hp}{s:Shared}{R:It->Hp->Prop}{E:Value->Shared->Prop}{lo hi:Int}{t u v:Tok}{tk:Nat}(I:Inv X pins σ H s)(h1:-(2 ^ 62)<=lo)(h2:lo < 2 ^ 62)(h3:-(2 ^ 62)<=hi)(h4:hi < 2 ^ 62)
  (q:R (qv lo (hi - lo).toNat) H):wpAny (model X.prog X.w) X.A (pyIter<|.ref s.heap.objs.size) (Kb X pins σ tg R) E {s with heap:=s.heap.push {cls:= .type "range",data:= .fields #[.int lo t,.int hi u,.int 1 v]},toks:=tk}:=by
 refine wpAny_pyIter_range (IsRange.new ..) (small_one h1 h2 h3 h4) ?_;have I1:Inv X pins σ H {s with heap:=s.heap.push {cls:= .type "range",data:= .fields #[.int lo t,.int hi u,.int 1 v]},toks:=tk}:=I.kept λb o e=>Ah _ e;refine⟨(s.heap.push {cls:= .type "range",data:= .fields #[.int lo t,.int hi u,.int 1 v]}).objs.size,[(s.heap.push {cls:= .type "range",data:= .fields #[.int lo t,.int hi u,.int 1 v]}).objs.size],_,_,H,rfl,
  I1.kept (t':=tk) λb o e=>Ah _ e,Ta _ lo (hi - lo).toNat,?_,λb hb=>?_,q⟩
 ·have e1:lo+((0:Nat):Int) * 1=lo:=by simp
  have e2:(((hi - lo).toNat:Nat):Int) - ((0:Nat):Int)=Builtin.Range.rangeSize lo hi 1:=by rw [rangeSize_one];split <;> omega
  show IsRangeIter _ _ (lo+((0:Nat):Int) * 1) ((((hi - lo).toNat:Nat):Int) - ((0:Nat):Int)) 1;rw [e1,e2];exact Ar _ rfl
 ·have e:b=(s.heap.push {cls:= .type "range",data:= .fields #[.int lo t,.int hi u,.int 1 v]}).objs.size:=by simpa using hb
  subst e;exact I1.iP (Ak _)<|I1.aA.fresh<|Ak _
def Kc(ta:TA):TI:=λσ H R=>ta σ H λvs H1=>∃ j:Int,vs=[.int j]/\-(2 ^ 62)<=j/\j < 2 ^ 62/\R (qv 0 j.toNat) H1
theorem Kd{a:Expr}{ta:TA}{p pos:Pos}(hg:Gl X "range")(hm:X.mg "range" = none)(ha:PA X [a] ta)(hs:starEach [a] X.env=[(false,eval a X.env)]:=by rfl):PI X tg (.Call (.Name "range" p) [a] [] pos) (Kc ta):=by
 intro pins s σ H R I h;refine Call_<|nL I hg hm boot_range<|JT (aE (ha pos pins s σ H _ I h) λus s1 ⟨vs,H1,I1,r1,q1⟩=>?_) hs rfl;obtain⟨j,e,q1,q2,q⟩:=q1;subst e;cases r1 with
 | cons r rr=>
  cases rr;obtain⟨t,rfl⟩:=r;exact call_range_1<|Td I1 (by omega) (by omega) q1 q2<|by simpa using q
def zf(wi:TI)(g:TG)(tb:TS):TS:=λD σ H=>wi σ H λJ H1=>∃ W:Nat->Nat->St->Hp->Prop,(∃ m,W 0 m σ H1)/\∀ i m σ H,W i m σ H ->
 (J.stop i H/\D.nx σ H)\/(J.go i H/\∃ N:St->Hp->Prop,(∀ σ' H',N σ' H'->∃ m',m' < m/\W (i+1) m' σ' H')/\∀ x H',J.qt i H x H'->g x σ H' λσ2 H2=>tb {D with nx:=N,ct:=N,bk:=D.nx} σ2 H2)
def se(fp:List Addr)(h:Heap):List (Addr×Obj):=fp.filterMap λb=>(h.get? b).map λo=>(b,o)
theorem wg{fp:List Addr}{h:Heap}{b:Addr}{o:Obj}(hb:b∈fp)(e:h.get? b=some o):(b,o)∈se fp h:=Fz.mpr ⟨b,hb,by rw [e];rfl⟩
theorem Te{fp:List Addr}{h:Heap}{p:Addr×Obj}(hp:p∈se fp h):p.1∈fp/\h.get? p.1=some p.2:=by
 obtain⟨b,hb,e⟩:=Fz.mp hp;cases q:h.get? b with
 | none=>rw [q] at e;cases e
 | some o=>
  rw [q] at e;have e':(b,o)=p:=Option.some.inj e;subst e';exact⟨hb,q⟩
theorem Inv.pinned{pins:List (Addr×Obj)}{σ:St}{H:Hp}{s:Shared}{fp:List Addr}(I:Inv X pins σ H s)(hf:∀ b∈fp,ci X pins H b)(ho:∀ b∈fp,∃ o,s.heap.get? b=some o/\∀ v,o.data ≠ .cell v):Inv X (pins++se fp s.heap) σ H s:=
 I.ie λp hp=>(An.mp hp).elim (λz=>I.pin p<|Ap _ z) λz=>by
  obtain⟨hb,e⟩:=Te z;obtain⟨f0,f1,f2,_⟩:=hf p.1 hb;obtain⟨o,e',d⟩:=ho p.1 hb;rw [e] at e';cases e';exact⟨e,f0,f1,f2,d⟩
theorem Inv.cU{pins pl:List (Addr×Obj)}{σ:St}{H:Hp}{s:Shared}(I:Inv X (pins++pl) σ H s):Inv X pins σ H s:=I.ie λp hp=>I.pin p<|Ap _<|Aw _ hp
theorem Tf{iter:Expr}{body:List Stmt}{wi:TI}{g:TG}{tb:TS}{pos:Pos}(hp:PassesOwn (model X.prog X.w) X.A X.env X.xe)(hc:X.calm=true)(hi:PI X tg iter wi)(hg:PG X tg g)(hb:iN X body tb)
  (hs:∀ x,foldedSetIterable iter X.env x=pure x:=by intro _;rfl):PS X (.For tg iter body [] pos) (zf wi g tb):=by
 intro pins s σ H D I h;refine wpAny_For (aE (hi pins s σ H _ I h) λv s1 h1=>aE h1 λkP s2 h2=>?_) hs;obtain⟨it,fp,tn,J,H2,e,I2,T,eV,f2,W,⟨m0,w0⟩,turn⟩:=h2;subst e;have stat:∀{H':Hp},(∀ b∈fp,H' b=none)->∀ b∈fp,ci X pins H' b:=λhn b hb=>⟨hn b hb,(f2 b hb).2⟩;refine codeAny_forLoop_any (λn s'=>∃ i σ' H',Inv X pins σ' H' s'/\tn i s'.heap/\(∀ b∈fp,H' b=none)/\W i n σ' H') ?_ m0 ⟨0,σ,H2,I2,eV,λb hb=>(f2 b hb).1,w0⟩;rintro n s3 ⟨i,σ3,H3,I3,Ke,Kf,w3⟩
 rcases turn i n σ3 H3 w3 with ⟨stop,qn⟩ | ⟨go,N,hN,step⟩
 ·refine HN hp<|aE (T.done X rfl rfl rfl hc i pins s3 σ3 H3 X.xe I3 (stat Kf) Ke stop) λr s4 ⟨hr,I4⟩=>?_;subst hr;exact RN ⟨σ3,H3,I4,qn⟩
 ·refine HN hp<|aE (T.item X rfl rfl rfl hc i pins s3 σ3 H3 X.xe I3 (stat Kf) Ke go) λr s4 ⟨u,hr,h4⟩=>?_;subst hr;refine HN hp<|aE h4 λ_ s5 ⟨x,H5,I5,r5,y5,zg,Tg⟩=>?_;have Ti:=I5.pinned (stat Tg)<|T.obj _ _ zg;refine HN hp<|aE (hg _ s5 σ3 H5 x u _ Ti r5<|step x H5 y5) λ_ s6 ⟨σ6,H6,I6,q6⟩=>?_;refine HN hp<|aE (hb _ s6 σ6 H6 _ I6 q6) λf s7 q7=>?_;have again:∀{σ7:St} {H7:Hp},Inv X (pins++se fp s5.heap) σ7 H7 s7->N σ7 H7->∃ m,m < n/\∃ i σ' H',Inv X pins σ' H' s7/\tn i s7.heap/\(∀ b∈fp,H' b=none)/\W i m σ' H':=λ{σ7 H7} I7 n7=>by
   obtain⟨m',hm,w7⟩:=hN σ7 H7 n7;refine⟨m',hm,i+1,σ7,H7,I7.cU,T.keep _ _ _ zg λb hb o e=>(I7.pin (b,o)<|Ap _<|Ap _<|wg hb e).1,λb hb=>?_,w7⟩;obtain⟨o,e,d⟩:=T.obj _ _ zg b hb;exact(I7.pin (b,o)<|Ap _<|Ap _<|wg hb e).2.1
  cases f with
  | next=>obtain⟨σ7,H7,I7,n7⟩:=q7;exact again I7 n7
  | cont=>obtain⟨σ7,H7,I7,n7⟩:=q7;exact again I7 n7
  | brk=>obtain⟨σ7,H7,I7,q7⟩:=q7;exact⟨σ7,H7,I7.cU,q7⟩
  | ret v=>obtain⟨x7,σ7,H7,I7,r7,q7⟩:=q7;exact⟨x7,σ7,H7,I7.cU,r7,q7⟩
end
abbrev R2:=V->V->Hp->VK->Prop
def cV(X:Cx)(f:Value->Value->Sem Value)(r:R2):Prop:=
 ∀(pins:List<|Addr×Obj) (s:Shared) (σ:St) (H:Hp) (x y:V) (v u:Value) (Q:VK),Inv X pins σ H s->RelV x v->RelV y u->r x y H Q ->
  wpAny (model X.prog X.w) X.A (f v u) (EP X pins σ Q) X.xe s
def eI(X:Cx)(f:Value)(r:List V->Hp->VK->Prop):Prop:=
 ∀(pins:List<|Addr×Obj) (s:Shared) (σ:St) (H:Hp) (xs:List V) (us:List Value) (Q:VK),Inv X pins σ H s->av xs us->r xs H Q ->
  wpAny (model X.prog X.w) X.A (call f us) (EP X pins σ Q) X.xe s
def zh(X:Cx)(r:V->Hp->(Bool->Hp->Prop)->Prop):Prop:=
 ∀(pins:List<|Addr×Obj) (s:Shared) (σ:St) (H:Hp) (x:V) (v:Value) (Q:Bool->Hp->Prop),Inv X pins σ H s->RelV x v->r x H Q ->
  wpAny (model X.prog X.w) X.A (truthy v) (TP X pins σ Q) X.xe s
def wj(r:R2)(ta tb:TE):TE:=λσ H Q=>ta σ H λx H1=>tb σ H1 λy H2=>r x y H2 Q
def rI(C:Int->Int->Prop)(g:Int->Int->V):R2:=λx y H Q=>∃ i j,x = .int i/\y = .int j/\C i j/\Q (g i j) H
def qw(g:Int->Int->V):R2:=λx y H Q=>∃ i j,x = .int i/\y = .int j/\Q (g i j) H
section
variable{X:Cx}{a b c:Expr}{ta tb tc:TE}{pos:Pos}
theorem nP(ha:PE X a ta)(hb:PE X b tb){pins:List (Addr×Obj)}{s:Shared}{σ:St}{H:Hp}{R:V->V->Hp->Prop}(I:Inv X pins σ H s)
  (h:ta σ H λx H1=>tb σ H1 λy H2=>R x y H2) {Q:Value->Shared->Prop} {f:Value->Value->Sem Value}
  (hf:∀ v u s2 x y H2,Inv X pins σ H2 s2->RelV x v->RelV y u->R x y H2->wpAny (model X.prog X.w) X.A (f v u) Q X.xe s2) :
  wpAny (model X.prog X.w) X.A (eval a X.env) (λv s₁=>wpAny (model X.prog X.w) X.A (eval b X.env) (λu s₂=>wpAny (model X.prog X.w) X.A (f v u) Q X.xe s₂) X.xe s₁) X.xe s:=by
 refine aE (ha pins s σ H _ I h) λv s1 ⟨x,H1,I1,r1,q1⟩=>?_;refine aE (hb pins s1 σ H1 _ I1 q1) λu s2 ⟨y,H2,I2,r2,q2⟩=>?_;exact hf v u s2 x y H2 I2 r1 r2 q2
theorem Tj{op:Operator}{r:R2}(ho:cV X (binaryOp op) r)(ha:PE X a ta)(hb:PE X b tb):PE X (.BinOp a op b pos) (wj r ta tb):=by
 intro pins s σ H Q I h;exact wpAny_BinOp<|nP ha hb I h λv u s2 x y H2 I2 rx ry q=>ho pins s2 σ H2 x y v u Q I2 rx ry q
theorem wk{f:Value->Value->Sem Value}{C:Int->Int->Prop}{g:Int->Int->Int}
  (rule:∀(i j:Int) (t u:Tok) (s:Shared) (Q:Value->Shared->Prop) (E:Value->Shared->Prop),C i j->Q (.int (g i j) s.toks) {s with toks:=s.toks+1}->wpAny (model X.prog X.w) X.A (f (.int i t)<|.int j u) Q E s) :
  cV X f (rI C λi j=> .int<|g i j):=by
 intro pins s σ H x y v u Q I rx ry h;obtain⟨i,j,rfl,rfl,hc,q⟩:=h;obtain⟨t,rfl⟩:=rx;obtain⟨t',rfl⟩:=ry;exact rule i j t t' s _ _ hc ⟨.int<|g i j,H,I.tok _,⟨_,rfl⟩,q⟩
theorem sf{f:Value->Value->Sem Value}{g:Int->Int->Int}
  (rule:∀(i j:Int) (t u:Tok) (s:Shared) (Q:Value->Shared->Prop) (E:Value->Shared->Prop),Q (.int (g i j) s.toks) {s with toks:=s.toks+1}->wpAny (model X.prog X.w) X.A (f (.int i t)<|.int j u) Q E s) :
  cV X f (qw λi j=> .int<|g i j):=by
 intro pins s σ H x y v u Q I rx ry h;obtain⟨i,j,rfl,rfl,q⟩:=h;obtain⟨t,rfl⟩:=rx;obtain⟨t',rfl⟩:=ry;exact rule i j t t' s _ _ ⟨.int<|g i j,H,I.tok _,⟨_,rfl⟩,q⟩
theorem sg{f:Value->Value->Sem Value}{g:Int->Int->Bool}
  (rule:∀(i j:Int) (t u:Tok) (s:Shared) (Q:Value->Shared->Prop) (E:Value->Shared->Prop),Q (.bool<|g i j) s->wpAny (model X.prog X.w) X.A (f (.int i t)<|.int j u) Q E s) :
  cV X f (qw λi j=> .bl<|g i j):=by
 intro pins s σ H x y v u Q I rx ry h;obtain⟨i,j,rfl,rfl,q⟩:=h;obtain⟨t,rfl⟩:=rx;obtain⟨t',rfl⟩:=ry;exact rule i j t t' s _ _ ⟨.bl<|g i j,H,I,rfl,q⟩
def si(i j:Int):Prop:=0 < j/\j < 1073741824
def zi(i j:Int):Prop:=0<=j/\j<=1000000/\i.natAbs < 2 ^ 64
def nQ(i j:Int):Prop:=(-(2 ^ 64) < i/\i < 2 ^ 64)\/(-(2 ^ 64) < j/\j < 2 ^ 64)
theorem nQ.ok{i j:Int}(h:nQ i j):IntMulOk i j:=by
 rcases h with ⟨h1,h2⟩ | ⟨h1,h2⟩
 ·exact .of_left<|intBits_le_64 h1 h2
 ·exact .of_right<|intBits_le_64 h1 h2
theorem dZ:cV X (binaryOp .Add) (qw λi j=> .int<|i+j):=sf λ_ _ _ _ _ _ _ q=>add_int q
theorem Tl:cV X (binaryOp .Sub) (qw λi j=> .int<|i - j):=sf λ_ _ _ _ _ _ _ q=>sub_int q
theorem wm:cV X (binaryOp .Mult) (rI nQ λi j=> .int<|i * j):=wk λ_ _ _ _ _ _ _ hc q=>mul_int q hc.ok
theorem dz:cV X (binaryOp .FloorDiv) (rI si λi j=> .int<|i / j):=wk λi j _ _ _ _ _ hc q=>by
 have h1:(0:Int) < j:=hc.1;have h2:j < 1073741824:=hc.2;exact floordiv_int (by omega) (by rw [Int.fdiv_eq_ediv_of_nonneg i<|by omega];exact q)<|.inl<|PyProof.noPylong_small<|by omega
theorem cr:cV X (binaryOp .Mod) (rI (λ_ j=>0 < j) λi j=> .int<|i % j):=wk λi j _ _ _ _ _ hc q=>by
 have h1:(0:Int) < j:=hc;exact mod_int' (by omega)<|by rw [Int.fmod_eq_emod_of_nonneg i<|by omega];exact q
theorem Kg:cV X (binaryOp .Pow) (rI zi λi j=> .int<|i ^ j.toNat):=wk λ_ _ _ _ _ _ _ hc q=>pow_int_small hc.1 hc.2.1 hc.2.2 q
def sj:V->V->Bool
 | .non,.non=>true | .non,.int _=>true | .int _,.non=>true | .non,.bl _=>true | .bl _,.non=>true | .non,.str _=>true | .str _,.non=>true
 | .int _,.int _=>true | .bl _,.bl _=>true | .str _,.str _=>true | .iM _,.iM _=>true
 | .int _,.str _=>true | .str _,.int _=>true | .bl _,.str _=>true | .str _,.bl _=>true
 | _,_=>false
def To:R2:=λx y H Q=>sj x y=true/\Q (.bl<|decide (x=y)) H
def Tq:R2:=λx y H Q=>sj x y=true/\Q (.bl (!decide (x=y))) H
theorem Kh{i j:Int}:decide (V.int i=V.int j)=(i == j):=by
 rw [Cp];simp
theorem zj{i j:Bool}:decide (V.bl i=V.bl j)=(i == j):=by
 rw [Cp];simp
theorem Ki{i j:Str}:decide (V.str i=V.str j)=(i == j):=by
 rw [Cp];simp
theorem Kj{i j:Array UInt8}:decide (V.iM i=V.iM j)=(i.toList == j.toList):=by
 rw [Cp];cases i;cases j;simp
theorem cK{pins:List (Addr×Obj)}{σ:St}{H:Hp}{s:Shared}{Q:VK}{k k':Bool}(I:Inv X pins σ H s)(q:Q (.bl k) H)(e:k=k'):EP X pins σ Q (.bool k') s:=by
 subst e;exact⟨.bl k,H,I,rfl,q⟩
theorem dA:cV X (compareOp .Eq) To:=by
 intro pins s σ H x y v u Q I rx ry h;obtain⟨hs,q⟩:=h;cases x with
 | non=>
  cases rx;cases y with
  | non=>cases ry;exact PySem.EqNone.eq_none_none<|cK I q<|by simp
  | bl j=>cases ry;exact PySem.EqNone.eq_none_bool<|cK I q<|by simp
  | int j=>obtain⟨t',rfl⟩:=ry;exact PySem.EqNone.eq_none_int<|cK I q<|by simp
  | str j=>obtain⟨t',rfl⟩:=ry;exact PySem.EqNone.eq_none_str<|cK I q<|by simp
  | _=>exact absurd (show false=true from hs) At
 | bl i=>
  cases rx;cases y with
  | non=>cases ry;exact PySem.EqNone.eq_bool_none<|cK I q<|by simp
  | bl j=>cases ry;exact eq_bool<|cK I q zj
  | str j=>obtain⟨t',rfl⟩:=ry;exact PySem.EqMixed.eq_bool_str<|cK I q<|by simp
  | _=>exact absurd (show false=true from hs) At
 | int i=>
  obtain⟨t,rfl⟩:=rx;cases y with
  | non=>cases ry;exact PySem.EqNone.eq_int_none<|cK I q<|by simp
  | int j=>obtain⟨t',rfl⟩:=ry;exact eq_int<|cK I q Kh
  | str j=>obtain⟨t',rfl⟩:=ry;exact PySem.EqMixed.eq_int_str<|cK I q<|by simp
  | _=>exact absurd (show false=true from hs) At
 | str i=>
  obtain⟨t,rfl⟩:=rx;cases y with
  | non=>cases ry;exact PySem.EqNone.eq_str_none<|cK I q<|by simp
  | bl j=>cases ry;exact PySem.EqMixed.eq_str_bool<|cK I q<|by simp
  | int j=>obtain⟨t',rfl⟩:=ry;exact PySem.EqMixed.eq_str_int<|cK I q<|by simp
  | str j=>obtain⟨t',rfl⟩:=ry;exact eq_str<|cK I q Ki
  | _=>exact absurd (show false=true from hs) At
 | iM i=>
  obtain⟨t,rfl⟩:=rx;cases y with
  | iM j=>obtain⟨t',rfl⟩:=ry;exact PySem.W.eq_bytes<|cK I q Kj
  | _=>exact absurd (show false=true from hs) At
 | _=>cases y <;> exact absurd (show false=true from hs) At
theorem zp:cV X (compareOp .NotEq) Tq:=by
 intro pins s σ H x y v u Q I rx ry h;obtain⟨hs,q⟩:=h;cases x with
 | non=>
  cases rx;cases y with
  | non=>cases ry;exact PySem.EqNone.ne_none_none<|cK I q<|by simp
  | bl j=>cases ry;exact PySem.EqNone.ne_none_bool<|cK I q<|by simp
  | int j=>obtain⟨t',rfl⟩:=ry;exact PySem.EqNone.ne_none_int<|cK I q<|by simp
  | str j=>obtain⟨t',rfl⟩:=ry;exact PySem.EqNone.ne_none_str<|cK I q<|by simp
  | _=>exact absurd (show false=true from hs) At
 | bl i=>
  cases rx;cases y with
  | non=>cases ry;exact PySem.EqNone.ne_bool_none<|cK I q<|by simp
  | bl j=>cases ry;exact ne_bool<|cK I q<|CG not zj
  | str j=>obtain⟨t',rfl⟩:=ry;exact PySem.EqMixed.ne_bool_str<|cK I q<|by simp
  | _=>exact absurd (show false=true from hs) At
 | int i=>
  obtain⟨t,rfl⟩:=rx;cases y with
  | non=>cases ry;exact PySem.EqNone.ne_int_none<|cK I q<|by simp
  | int j=>obtain⟨t',rfl⟩:=ry;exact ne_int<|cK I q<|CG not Kh
  | str j=>obtain⟨t',rfl⟩:=ry;exact PySem.EqMixed.ne_int_str<|cK I q<|by simp
  | _=>exact absurd (show false=true from hs) At
 | str i=>
  obtain⟨t,rfl⟩:=rx;cases y with
  | non=>cases ry;exact PySem.EqNone.ne_str_none<|cK I q<|by simp
  | bl j=>cases ry;exact PySem.EqMixed.ne_str_bool<|cK I q<|by simp
  | int j=>obtain⟨t',rfl⟩:=ry;exact PySem.EqMixed.ne_str_int<|cK I q<|by simp
  | str j=>obtain⟨t',rfl⟩:=ry;exact ne_str<|cK I q<|CG not Ki
  | _=>exact absurd (show false=true from hs) At
 | iM i=>
  obtain⟨t,rfl⟩:=rx;cases y with
  | iM j=>obtain⟨t',rfl⟩:=ry;exact PySem.W.ne_bytes<|cK I q<|CG not Kj
  | _=>exact absurd (show false=true from hs) At
 | _=>cases y <;> exact absurd (show false=true from hs) At
theorem zq:cV X (compareOp .Lt) (qw λi j=> .bl<|decide (i < j)):=sg λ_ _ _ _ _ _ _ q=>lt_int q
theorem Kk:cV X (compareOp .Gt) (qw λi j=> .bl<|decide (j < i)):=sg λ_ _ _ _ _ _ _ q=>gt_int q
theorem Tr:cV X (compareOp .In) (λx y H Q=>∃ i j,x = .str i/\y = .str j/\Q (.bl (!(Builtin.Str.occurrences j i 0 j.length 1).isEmpty)) H):=by
 intro pins s σ H x y v u Q I rx ry h;obtain⟨i,j,rfl,rfl,q⟩:=h;obtain⟨t,rfl⟩:=rx;obtain⟨t',rfl⟩:=ry;exact in_str<|cK I q rfl
theorem Ts{op:CmpOp}{r:R2}(ho:cV X (compareOp op) r)(ha:PE X a ta)(hb:PE X b tb)(hm:behindInMarks op b=false):PE X (.Compare a [op] [b] pos) (wj r ta tb):=by
 intro pins s σ H Q I h;exact wpAny_Compare1 (nP ha hb I h λv u s2 x y H2 I2 rx ry q=>ho pins s2 σ H2 x y v u Q I2 rx ry q) hm
def Tv(t:TE):TT:=λσ H Q=>t σ H λx H'=>∃ k,x = .bl k/\Q k H'
theorem Tx{op:CmpOp}{r:R2}(ho:cV X (compareOp op) r)(ha:PE X a ta)(hb:PE X b tb)(hm:behindInMarks op b=false):PT X (.Compare a [op] [b] pos) (Tv<|wj r ta tb):=by
 intro pins s σ H Q I h;refine wpAny_isTrue_Compare1 (aE (ha pins s σ H _ I h) λv s1 ⟨x,H1,I1,r1,q1⟩=>aE (hb pins s1 σ H1 _ I1 q1) λu s2 ⟨y,H2,I2,r2,q2⟩=>
  aE (ho pins s2 σ H2 x y v u _ I2 r1 r2 q2) λc s3 ⟨z,H3,I3,r3,k,e,q3⟩=>?_) hm
 subst e;cases r3;exact GD ⟨H3,I3,q3⟩
def nR(K:PySem.W.Frag)(x:V)(H:Hp)(k:Bool):Prop:=
 match x with
 | .non=>k=false
 | .bl b=>k=b
 | .int i=>k=(i != 0)
 | .str y=>y.length<=sizeLine/\k=((y.length:Int) != 0)
 | .iM y=>y.size<=sizeLine/\k=((y.size:Int) != 0)
 | .ref p=>(∃ xs,al K H p xs/\k = !xs.isEmpty)\/(∃ xs,aK K H p xs/\k = !xs.isEmpty)\/∃ kvs,H p=some (.dK kvs)/\k = !kvs.isEmpty
 | _=>False
theorem Tz{κ:Type}{kvs:List (κ×V)}{vs:List (κ×Value)}(r:KV kvs vs):(!vs.isEmpty) = !kvs.isEmpty:=by
 cases r <;> rfl
theorem Kl{xs:List V}{its:List Value}(r:av xs its):(!its.toArray.isEmpty) = !xs.isEmpty:=by
 cases r <;> simp
theorem nS:(sizeLine:Nat) < 2 ^ 63:=by rw [EY];decide
theorem TB:zh X (λx H Q=>∃ k,nR X.K x H k/\Q k H):=by
 intro pins s σ H x v Q I rx h;obtain⟨k,e,q⟩:=h;have hl:=nS;have hs:sizeLine=16777216:=EY;cases x with
 | non=>
  cases rx;have e':k=false:=e;subst e';exact truthy_none ⟨H,I,q⟩
 | bl b=>
  cases rx;have e':k=b:=e;subst e';exact GD ⟨H,I,q⟩
 | int i=>
  obtain⟨t,rfl⟩:=rx;have e':k=(i != 0):=e;subst e';exact PySem.P.truthy_int ⟨H,I,q⟩
 | str y=>
  obtain⟨t,rfl⟩:=rx;obtain⟨hy,e'⟩:y.length<=sizeLine/\k=((y.length:Int) != 0):=e;subst e';exact PySem.P.truthy_str (by omega) ⟨H,I.tok _,q⟩
 | iM y=>
  obtain⟨t,rfl⟩:=rx;obtain⟨hy,e'⟩:y.size<=sizeLine/\k=((y.size:Int) != 0):=e;subst e';exact PySem.W.truthy_bytes (by omega) ⟨H,I.tok _,q⟩
 | ref p=>
  cases rx;have e':(∃ xs,al X.K H p xs/\k = !xs.isEmpty)\/(∃ xs,aK X.K H p xs/\k = !xs.isEmpty)\/∃ kvs,H p=some (.dK kvs)/\k = !kvs.isEmpty:=e
  rcases e' with ⟨xs,hx,e'⟩ | ⟨xs,hx,e'⟩ | ⟨kvs,hx,e'⟩
  ·subst e';obtain⟨its,r,pl,hz⟩:=I.list hx;have hlen:=r.length;exact wpAny_truthy_list pl.isList (by simp only [Au];omega) ⟨H,I.tok _,by rw [Kl r];exact q⟩
  ·subst e';obtain⟨its,r,pl,hz⟩:=I.tuple hx;have hlen:=r.length;exact truthy_tuple pl (by simp only [Au];omega) ⟨H,I.tok _,by rw [Kl r];exact q⟩
  ·subst e';obtain⟨hz,hS,vs,r,m⟩:kvs.length<=sizeLine/\(p == sysModules)=false/\∃ vs,KV kvs vs/\s.heap.DictOf (bR X.prog X.w) p vs:=I.aA p _ hx;have hlen:kvs.length=vs.length:=Paired.length r;exact wpAny_truthy_dict hS m (by omega) ⟨H,I.tok _,by rw [Tz r];exact q⟩
 | _=>exact(show False from e).elim
theorem TC(ha:PE X a ta)(he:∀ whole,isTrue a X.env whole=(do let v <- whole;standAt a.pos;holding [v] (truthy v))) :
  PT X a (λσ H Q=>ta σ H λx H'=>∃ k,nR X.K x H' k/\Q k H'):=by
 intro pins s σ H Q I h;exact isTrue_plain (aE (ha pins s σ H _ I h) λv s1 ⟨x,H1,I1,r1,q1⟩=>TB pins s1 σ H1 x v Q I1 r1 q1)<|he _
theorem TD:cV X (binaryOp .Add) (λx y H Q=>∃ i j,x = .str i/\y = .str j/\i.length+j.length<=sizeLine/\Q (.str<|i++j) H):=by
 intro pins s σ H x y v u Q I rx ry h;obtain⟨i,j,rfl,rfl,hz,q⟩:=h;obtain⟨t,rfl⟩:=rx;obtain⟨t',rfl⟩:=ry;exact add_str (λt' tk=>⟨.str<|i++j,H,I.tok _,⟨_,rfl⟩,q⟩) hz
theorem vals1{x:V}{us:List Value}(r:av [x] us):∃ u,us=[u]/\RelV x u:=by
 cases r with
 | cons r1 r2=>cases r2;exact⟨_,rfl,r1⟩
theorem vals2{x y:V}{us:List Value}(r:av [x,y] us):∃ u w',us=[u,w']/\RelV x u/\RelV y w':=by
 cases r with
 | cons r1 r2=>
  cases r2 with
  | cons r3 r4=>cases r4;exact⟨_,_,rfl,r1,r3⟩
theorem zt(hc:X.calm=true):eI X (.builtin "max") (λxs H Q=>∃ i j,xs=[.int i,.int j]/\Q (.int (if j > i then j else i)) H):=by
 intro pins s σ H xs us Q I r h;obtain⟨i,j,rfl,q⟩:=h;obtain⟨u,w',rfl,⟨t,rfl⟩,⟨t',rfl⟩⟩:=vals2 r;refine max_two_ints (I.ok.hd hc) λh' tk k=>⟨_,H,I.kept k,?_,q⟩
 by_cases hj:j > i
 ·rw [BR hj,BR hj];exact⟨_,rfl⟩
 ·rw [BK hj,BK hj];exact⟨_,rfl⟩
end
structure nU(h:Heap)(x dx C:Addr)(mA:Str->Option Value):Prop where
 obj:h.get? x=some (PySem.W.instObj C dx)
 ns:h.Ns1 dx mA
 ne:dx≠x
theorem TH{h:Heap}{dx:Addr}{mA:Str->Option Value}(n:h.Ns1 dx mA):∃ od,h.get? dx=some od/\∀ name,PySem.W.lookIn name od=some (mA name):=by
 obtain⟨o,es,ep,ho,hd,hk,_,hm⟩:=n;refine⟨o,ho,λname=>?_⟩;have e:=hm name;unfold nsFind findBy at e;rw [<- Array.find?_toList] at e;unfold PySem.W.lookIn;rw [hd]
 dsimp only
 split
 ·rename_i y q;rw [q] at e;exact CG some e
 ·rename_i q;rw [q] at e;have a:es.toList.any (·.refKey)=false:=by
   rw [List.any_eq_false];intro y hy;obtain⟨z,t,zu⟩:=hk y<|Array.mem_toList_iff.mp hy;simp [DictEntry.refKey,zu]
  have a':¬ es.toList.any (·.refKey)=true:=by rw [a];exact At
  rw [BK a'];exact CG some e
theorem nU.look{h:Heap}{x dx C:Addr}{mA:Str->Option Value}(I:nU h x dx C mA):∃ od,PySem.W.InstAt h x (PySem.W.instObj C dx) C (some od)/\∀ name,PySem.W.lookIn name od=some (mA name):=
 let ⟨od,ho,hl⟩:=TH I.ns
 ⟨od,⟨I.obj,rfl,rfl,ho⟩,hl⟩
section
variable{prog:Program}{w:World}{A:Around}{E:Value->Shared->Prop}{s:Shared}{K:PySem.W.Frag}{x dx C f:Addr}{mA:Str->Option Value}{name:Str}{v:Value}
end
theorem cT.some_of{v:V}{o:Option Value}(r:cT (some v) o):∃ u,o=some u/\RelV v u:=by
 cases o with
 | none=>exact(show False from r).elim
 | some u=>exact⟨u,rfl,r⟩
section
variable{P:Program}{w:World}{H H':Hp}{h h':Heap}{a C dx:Addr}{fs Sd:List (Str×V)}
theorem TK(aA:b7 P w H h)(e:H a=some (.ins C dx fs)):∃ mA,nU h a dx C mA/\(∀ f,cT (fs.lookup f)<|mA f)/\PySem.Within mA (fs.map (·.1))/\fs.length<=1000/\H dx=some (.own a):=by
 obtain⟨d,z,ne,ob,mA,n,r,q⟩:=(show ax P w H h a (.ins C dx fs) from aA a _ e);exact⟨mA,⟨ob,n,ne⟩,r,q,z,d⟩
end
structure zv(K:PySem.W.Frag)(C:Addr):Prop where
 pg:PySem.W.plainGet K C Str.empty=true
 hd:PySem.W.hasDictIn K C=true
 po:PySem.W.plainOver K C=true
 sa:PySem.W.findIn K (.ref C) "__setattr__" = some (some<|.builtin "object.__setattr__")
theorem zv.get{K:PySem.W.Frag}{C:Addr}(c:zv K C)(f:Str):PySem.W.plainGet K C f=true:=c.pg
section
variable{X:Cx}{pins:List (Addr×Obj)}{σ:St}{H:Hp}{s:Shared}{a C dx:Addr}{fs:List (Str×V)}{f:Str}{v:V}{A:Around}{E:Value->Shared->Prop}
end
section
variable{X:Cx}{o e value:Expr}{f:Str}{pos pos' sk:Pos}{ta tv:TE}
end
section
variable{X:Cx}{pins:List (Addr×Obj)}{σ:St}{H:Hp}{s:Shared}{A:Around}{E:Value->Shared->Prop}{Q:Value->Shared->Prop}{c:Value}{b:Bool}
inductive cW (K:PySem.W.Frag) (H:Hp):V->Value->Prop where
 | non:cW K H .non<|.type "NoneType"
 | bl (x:Bool):cW K H (.bl x)<|.type "bool"
 | int (i:Int):cW K H (.int i)<|.type "int"
 | str (x:Str):cW K H (.str x)<|.type "str"
 | kK (x:UInt64):cW K H (.kK x)<|.type "float"
 | lst {a:Addr} {xs:List V} (e:H a=some (.lst xs)):cW K H (.ref a)<|.type "list"
 | cJ {a:Addr} {o:Obj} {xs:List V} (e:H a=some (.cJ o<|.lst xs)):cW K H (.ref a)<|.type "list"
 | tup {a:Addr} {xs:List V} (e:H a=some (.tup xs)):cW K H (.ref a)<|.type "tuple"
 | dK {a:Addr} {kvs:List (Key×V)} (e:H a=some (.dK kvs)):cW K H (.ref a)<|.type "dict"
 | dT {a:Addr} {kvs:List (List Key×V)} (e:H a=some (.dT kvs)):cW K H (.ref a)<|.type "dict"
 | ins {a C dx:Addr} {fs:List (Str×V)} (e:H a=some (.ins C dx fs)) (cl:zv K C) (ha:PySem.W.findIn K (.ref C) "__class__" = some (some<|.builtin "object.__class__"))
   (hn:PySem.W.specialIn K (.builtin "object.__class__") "__get__" = some (some<|.builtin "getset_descriptor.__get__")) (sr:PySem.W.takesIn K (.builtin "object.__class__")=some true)
   (hm:PySem.W.mroIn K C (.type "object")=some true):cW K H (.ref a)<|.ref C
theorem TL{x:V}{u t:Value}(I:Inv X pins σ H s)(rx:RelV x u)(ty:cW X.K H x t)(e:PySem.W.kitOne X.K t c=some b)(h:∀ tk,Q (.bool b) {s with toks:=tk}) :
  wpAny (model X.prog X.w) A (call (.builtin "isinstance") [u,c]) Q E s:=by
 cases ty with
 | non=>cases (show u=Value.none from rx);exact FN PySem.W.kitx_none I.dY True.intro e (λz=>nomatch z) h
 | bl y=>cases (show u=Value.bool y from rx);exact FN PySem.W.kitx_bool I.dY True.intro e (λz=>nomatch z) h
 | int i=>obtain⟨t,q⟩:=(show ∃ t,u=Value.int i t from rx);cases q;exact FN PySem.W.kitx_int I.dY True.intro e (λz=>nomatch z) h
 | str y=>obtain⟨t,q⟩:=(show ∃ t,u=Value.str y t from rx);cases q;exact FN PySem.W.kitx_str I.dY True.intro e (λz=>nomatch z) h
 | kK y=>obtain⟨t,q⟩:=(show ∃ t,u=Value.float y t from rx);cases q;exact FN PySem.W.kitx_float I.dY True.intro e (λz=>nomatch z) h
 | @lst a xs ea=>
  cases (show u=Value.ref a from rx);obtain⟨_,_,n,_,h1⟩:=(show ax X.prog X.w H s.heap a (.lst xs) from I.aA a _ ea);exact FN PySem.W.kitx_list I.dY ⟨_,h1,rfl⟩ e (λz=>nomatch z) h
 | @cJ a ob xs ea=>
  cases (show u=Value.ref a from rx);obtain⟨_,_,_,n,_,h1⟩:=(show ax X.prog X.w H s.heap a (.cJ ob<|.lst xs) from I.aA a _ ea);exact FN PySem.W.kitx_list I.dY ⟨_,h1,rfl⟩ e (λz=>nomatch z) h
 | @tup a xs ea=>
  cases (show u=Value.ref a from rx);obtain⟨_,_,_,p⟩:=(show ax X.prog X.w H s.heap a (.tup xs) from I.aA a _ ea);obtain⟨o,h1,h2,_⟩:=p;exact FN PySem.W.kitx_tuple I.dY ⟨o,h1,h2⟩ e (λz=>nomatch z) h
 | @dK a kvs ea=>
  cases (show u=Value.ref a from rx);obtain⟨_,_,vs,_,p⟩:=(show ax X.prog X.w H s.heap a (.dK kvs) from I.aA a _ ea);obtain⟨o,es,ep,h1,h2,_⟩:=p;exact FN PySem.W.kitx_dict I.dY ⟨o,h1,h2.1⟩ e (λz=>nomatch z) h
 | @dT a kvs ea=>
  cases (show u=Value.ref a from rx);obtain⟨_,_,xs,_,o,es,ep,h1,h2,_⟩:=(show ax X.prog X.w H s.heap a (.dT kvs) from I.aA a _ ea);exact FN PySem.W.kitx_dict I.dY ⟨o,h1,h2.1⟩ e (λz=>nomatch z) h
 | @ins a C dx fs ea cl ha hn sr hm=>
  cases (show u=Value.ref a from rx);obtain⟨mA,O,_⟩:=TK I.aA ea;obtain⟨od,J,_⟩:=O.look;exact FN (PySem.W.kitx_own (cl.get _) cl.hd ha hn sr hm) I.dY J e (λz=>nomatch z) h
end
structure bj(k:Nat)(A:Around):Prop where
 hd:A.handled=none
 dp:A.depth+3 * k+5 < recursionLimit
 un:A.units+16 * k+200 < cLine
theorem bj.mono{j k:Nat}{A:Around}(r:bj k A)(h:j<=k):bj j A:=⟨r.hd,by have:=r.dp;omega,by have:=r.un;omega⟩
theorem bj.deeper{k:Nat}{A:Around}(r:bj (k+1) A)(env:Env):bj k (A.deeper env):=
 ⟨r.hd,by have:=r.dp;show A.depth+1+3 * k+5 < _;omega,by have:=r.un;show A.units+3+16 * k+200 < _;omega⟩
theorem bj.depth{k:Nat}{A:Around}(r:bj k A):A.depth < recursionLimit:=by have:=r.dp;omega
def zx:TA:=λ_ H Q=>Q [] H
def Km(ta:TE)(tr:TA):TA:=λσ H Q=>ta σ H λx H1=>tr σ H1 λxs H2=>Q (x :: xs) H2
section
variable{X:Cx}{e:Expr}{es:List Expr}{te:TE}{t:TA}{pos:Pos}
theorem TR:PA X [] zx:=λ_ _ _ _ H Q I h=>Calls.spliced_nil ⟨[],H,I,.nil,h⟩
theorem TU(ha:PE X e te)(hr:PA X es t)(hs:starEach (e :: es) X.env=(false,eval e X.env) :: starEach es X.env:=by rfl):PA X (e :: es) (Km te t):=by
 intro pos pins s σ H Q I h;rw [hs];show wpAny _ _ (spliced<|(false,eval e X.env) :: backTo pos (starEach es X.env)) _ _ s;refine QJ<|aE (ha pins s σ H _ I h) λu s1 ⟨x,H1,I1,r1,q1⟩=>?_;exact aE (hr pos pins s1 σ H1 _ I1 q1) λus s2 ⟨xs,H2,I2,r2,q2⟩=>⟨x :: xs,H2,I2,.cons r1 r2,q2⟩
def zy(t:TA):TE:=λσ H Q=>t σ H λxs H1=>xs.length<=sizeLine/\∀ p,H1 p=none->Q (.ref p) (upd H1 p<|.tup xs)
def zA(t:TA):TE:=λσ H Q=>t σ H λxs H1=>xs.length<=sizeLine/\∀ p,H1 p=none->Q (.ref p) (upd H1 p<|.lst xs)
theorem T1{x1}(h:PA X es t):PE X (.Tuple es x1 pos) (zy t):=by
 intro pins s σ H Q I hq;refine wpAny_Tuple_spliced (aE (h pos pins s σ H _ I hq) λus s1 ⟨xs,H1,I1,r,z,q⟩=>⟨by rw [<- r.length];exact z,?_⟩);have hf:H1 s1.heap.objs.size=none:=I1.aA.fresh<|Ak _;refine⟨.ref s1.heap.objs.size,upd H1 s1.heap.objs.size<|.tup xs,I1.laid (t':=s1.toks) (λb u e=>Ah _ e) (Ak _) ?_,rfl,q _ hf⟩;exact⟨z,us,r,⟨_,Ar _ rfl,rfl,_,rfl⟩⟩
theorem T2(h:PA X es t):PE X (.List es pos) (zA t):=by
 intro pins s σ H Q I hq;refine wpAny_List_spliced (aE (h pos pins s σ H _ I hq) λus s1 ⟨xs,H1,I1,r,z,q⟩=>⟨by rw [<- r.length];exact z,?_⟩);have hf:H1 s1.heap.objs.size=none:=I1.aA.fresh<|Ak _;refine⟨.ref s1.heap.objs.size,upd H1 s1.heap.objs.size<|.lst xs,I1.laid (t':=s1.toks) (λb u e=>Ah _ e) (Ak _) ?_,rfl,q _ hf⟩;exact⟨z,us,0,r,Ar _ rfl⟩
end
abbrev Sp:=List V->Hp->VK->XK->Prop
abbrev fU:=List Env->Hp->Shared->XK->Value->Shared->Prop
structure kQ(P:Program)(w:World)(K:PySem.W.Frag)(mg:Str->Option Value)(base:Heap)(A:Around)(outer:List Env)(s:Shared)(H:Hp):Prop where
 frames:A.frames=some outer
 mod:Mod K mg base
 bs:∀ b o,base.get? b=some o->s.heap.get? b=some o/\H b=none
 jd:base.objs.size<=s.heap.objs.size
 cG:s.heap.FunFrames base outer
 j8:∀ b∈dg outer,H b=none
 aA:b7 P w H s.heap
 bare:AllBare s.gens
def CE(outer:List Env)(P:Program)(w:World)(H:Hp)(s:Shared)(Q:VK)(u:Value)(s':Shared):Prop:=
 ∃ v H',s'.os=s.os/\AllBare s'.gens/\Un (dg outer) [] H H' s.heap s'.heap/\b7 P w H' s'.heap/\RelV v u/\Q v H'
def CR(CX:fU)(outer:List Env)(P:Program)(w:World)(H:Hp)(s:Shared)(Q:VK)(E:XK)(r:Result)(s':Shared):Prop:=
 match r with
 | .ok (.ret u)=>CE outer P w H s Q u s'
 | .ok _=>False
 | .error e=>CX outer H s E e s'
structure aD(P:Program)(w:World)(K:PySem.W.Frag)(mg:Str->Option Value)(base:Heap)(CX:fU)(k:Nat)(f:Addr)(fd:FuncData)(ps:List Str)(sp:Sp):Prop where
 len:∀ vs H Q E,sp vs H Q E->vs.length=ps.length
 run:∀(A:Around) (outer:List Env) (s:Shared) (H:Hp) (args:Args) (us:List Value) (vs:List V) (Q:VK) (E:XK),bj k A->kQ P w K mg base A outer s H->BindsTo s fd args (ps.zip us)->av vs us->sp vs H Q E ->
  codeAny (model P w) A (.call (.ref f) args) (CR CX outer P w H s Q E) s
theorem aD.mono{P:Program}{w:World}{K:PySem.W.Frag}{mg:Str->Option Value}{base:Heap}{CX:fU}{j k:Nat}{f:Addr}{fd:FuncData}{ps:List Str}{sp:Sp}(F:aD P w K mg base CX j f fd ps sp)(h:j<=k) :
  aD P w K mg base CX k f fd ps sp:=⟨F.len,λA outer s H args us vs Q E hr=>F.run A outer s H args us vs Q E<|hr.mono h⟩
section
variable{X:Cx}{pins:List (Addr×Obj)}{σ:St}{H:Hp}{s s':Shared}
theorem Inv.su(I:Inv X pins σ H s):kQ X.prog X.w X.K X.mg X.base X.A X.stack s H:=
 ⟨I.ok.frames,I.ok.mod,I.bs,Cr I.ok.jd I.sz,I.stack,I.dw,I.aA,I.bare⟩
theorem Inv.after{Q:VK}{u:Value}(I:Inv X pins σ H s)(h:CE X.stack X.prog X.w H s Q u s'):EP X pins σ Q u s':=by
 obtain⟨v,H',os,bare,un,aA,r,q⟩:=h;obtain⟨hh,g,d,t,zB⟩:=s';obtain rfl:zB=s.os:=os;exact⟨v,H',I.call (h':=hh) (g':=g) (d':=d) (t':=t) (ch:=[]) un aA bare (λb z=>absurd z<|by simp),r,q⟩
end
def Kn(sp:Sp)(kR:List V)(E:XK)(t:TA):TE:=λσ H Q=>t σ H λvs H1=>sp (vs++kR) H1 Q E
def Binds(K:PySem.W.Frag)(fd:FuncData)(ps:List Str)(ds:List Value):Prop:=
 ∀(s:Shared) (us:List Value),K.In s.heap->(us++ds).length=ps.length->BindsTo s fd ⟨us,[]⟩ (ps.zip<|us++ds)
theorem Binds.all{K:PySem.W.Frag}{fd:FuncData}{ps:List Str}(h:∀ us:List Value,us.length=ps.length->bindArgs fd ⟨us,[]⟩=pure (ps.zip us)):Binds K fd ps []:=λs us _ hl=>by
 rw [Bj] at hl ⊢;exact .of_eq<|h us hl
def qz(CX:fU)(X:Cx)(E:XK):Prop:=∀(pins:List<|Addr×Obj) (σ:St) (H:Hp) (s:Shared) (e:Value) (s':Shared),Inv X pins σ H s->CX X.stack H s E e s'->X.xe e s'
section
variable{X:Cx}{CX:fU}{k:Nat}{f C:Addr}{fd:FuncData}{ps:List Str}{sp:Sp}{kR:List V}{ds:List Value}{E:XK}{x m:Str}{p pos apos:Pos}{e o:Expr}{es:List Expr}{ta:TE}{t:TA}
theorem T4{pins:List (Addr×Obj)}{σ:St}{H:Hp}{s:Shared}{Q:VK}{us:List Value}{vs:List V}(F:aD X.prog X.w X.K X.mg X.base CX k f fd ps sp)(hr:bj k X.A)(hb:Binds X.K fd ps ds)(hd:av kR ds)(hx:qz CX X E)
  (I:Inv X pins σ H s) (r:av vs us) (h:sp (vs++kR) H Q E):wpAny (model X.prog X.w) X.A (call (.ref f) us) (EP X pins σ Q) X.xe s:=by
 have r2:av (vs++kR) (us++ds):=r.append hd;have hl:(us++ds).length=ps.length:=by rw [<- r2.length];exact F.len _ _ _ _ h
 refine QZ<|HY (F.run X.A X.stack s H ⟨us,[]⟩ (us++ds) (vs++kR) Q E hr I.su (hb s us I.dY hl) r2 h) λr s' hq=>?_;cases r with
 | error e=>exact hx pins σ H s e s' I hq
 | ok fl=>
  cases fl with
  | ret u=>exact I.after hq
  | next=>exact False.elim hq
  | brk=>exact False.elim hq
  | cont=>exact False.elim hq
theorem T5(F:aD X.prog X.w X.K X.mg X.base CX k f fd ps sp)(hr:bj k X.A)(hg:Gl X x)(hm:X.mg x=some (.ref f))(hk:PySem.W.keepIn X.K (.ref f)=true)(hb:Binds X.K fd ps ds)(hd:av kR ds)(hx:qz CX X E)
  (ha:PA X (e :: es) t) (cX:(x == ("__debug__" : Str))=false:=by decide) (he:starEach (e :: es) X.env=(false,eval e X.env) :: starEach es X.env:=by rfl) (iR:(backTo pos<|starEach es X.env).any (·.1)=false:=by rfl) :
  PE X (.Call (.Name x p) (e :: es) [] pos) (Kn sp kR E t):=by
 intro pins s σ H Q I h;refine JG<|rV I hg hm ?_ cX;refine PySem.W.callWith_K (h₀:=X.base) I.ok.mod.nJ hk (aE (ha pos pins s σ H _ I h) λus s1 ⟨vs,H1,I1,r,q⟩=>⟨I1.dY,?_⟩) he iR;exact T4 F hr hb hd hx I1 r q
end
section
variable{X:Cx}{CX:fU}{k:Nat}{f C:Addr}{fd:FuncData}{ps ks:List Str}{sp:Sp}{E:XK}{x m:Str}{p pos apos T6:Pos}{e o:Expr}{es:List Expr}{kws:List Keyword}{te ta:TE}{t tk:TA}{nm:Option Str}
variable{g:List Value->List Value->List Value}{gV:List V->List V->List V}
end
structure ao(N P:List Str)(sc:Scope):Prop where
 kind:sc.kind = .function
 co:sc.isCoroutine=false
 gen:sc.isGenerator=false
 nd:N.Nodup
 pre:N.take P.length=P
 par:∀ x∈P,sc.names.lookup x=some .local\/sc.names.lookup x=some .cell
 nV:∀ y∈sc.names,y.2 ≠ .free
theorem Ko{kindOf:Str->Option NameKind}{x:Str}:∀{binds:List (Str×Value)} {m:Str->Option Value},(∀ v,(x,v)∉binds)->bindL kindOf binds m x=m x
 | [],_,_=>rfl
 | (n,v) :: r,m,h=>by
  unfold bindL;rw [Ko λw hw=>h w<|Aj _ hw]
  split
  ·have:x≠n:=by rintro rfl;exact h v Ad
   simp [this]
  ·rfl
theorem Kq{kindOf:Str->Option NameKind}{x:Str}:∀{binds:List (Str×Value)} {m:Str->Option Value},(∀ v,(x,v)∉binds)->bindC kindOf binds m x=m x
 | [],_,_=>rfl
 | (n,v) :: r,m,h=>by
  unfold bindC;rw [Kq λw hw=>h w<|Aj _ hw]
  split
  ·rfl
  ·have:x≠n:=by rintro rfl;exact h v Ad
   simp [this]
theorem Kr{kindOf:Str->Option NameKind}{x:Str}{v:Value}:∀{P:List Str} {vs:List Value} {i:Nat} {m:Str->Option Value},P.Nodup->P[i]?=some x->vs[i]?=some v->kindOf x=some .local ->
  bindL kindOf (P.zip vs) m x=some v
 | [],_,_,_,_,h,_,_=>by simp at h
 | _ :: _,[],_,_,_,_,h,_=>by simp at h
 | p :: P,w :: vs,0,m,nd,h1,h2,hk=>by
  simp at h1 h2;subst h1;subst h2;show bindL kindOf ((p,w) :: P.zip vs) m p=_;unfold bindL;rw [Ko λv hv=>(Bn.mp nd).1 (RP hv).1,BR hk];simp
 | p :: P,w :: vs,i+1,m,nd,h1,h2,hk=>by
  show bindL kindOf ((p,w) :: P.zip vs) m x=_;unfold bindL;exact Kr (i:=i) (Bn.mp nd).2 (by simpa using h1) (by simpa using h2) hk
theorem Ks{kindOf:Str->Option NameKind}{x:Str}{v:Value}:∀{P:List Str} {vs:List Value} {i:Nat} {m:Str->Option Value},P.Nodup->P[i]?=some x->vs[i]?=some v->kindOf x≠some .local ->
  bindC kindOf (P.zip vs) m x=some v
 | [],_,_,_,_,h,_,_=>by simp at h
 | _ :: _,[],_,_,_,_,h,_=>by simp at h
 | p :: P,w :: vs,0,m,nd,h1,h2,hk=>by
  simp at h1 h2;subst h1;subst h2;show bindC kindOf ((p,w) :: P.zip vs) m p=_;unfold bindC;rw [Kq λv hv=>(Bn.mp nd).1 (RP hv).1,BK hk];simp
 | p :: P,w :: vs,i+1,m,nd,h1,h2,hk=>by
  show bindC kindOf ((p,w) :: P.zip vs) m x=_;unfold bindC;exact Ks (i:=i) (Bn.mp nd).2 (by simpa using h1) (by simpa using h2) hk
def start(N:List Str)(vs:List V):St:=vs.map some++List.replicate (N.length - vs.length) none
def eJ(CX:fU)(P:Program)(w:World)(K:PySem.W.Frag)(mg:Str->Option Value)(base:Heap)(N:List Str)(qual:Str)(scope:Scope)(f:Addr)(cd:Value)(A:Around)(outer:List Env)(s:Shared)(H:Hp)(E:XK):Cx where
 prog:=P
 w:=w
 K:=K
 mg:=mg
 base:=base
 A:=A.deeper<|envOfC qual scope s.heap.objs.size f cd
 N:=N
 s₀:=s
 H₀:=H
 env:=envOfC qual scope s.heap.objs.size f cd
 outer:=outer
 stack:=envOfC qual scope s.heap.objs.size f cd :: outer
 ex:=[]
 calm:=true
 fn:=λ_=>true
 pn:=[]
 xe:=λe s'=>wpAny (model P w) (A.deeper<|envOfC qual scope s.heap.objs.size f cd) (leaving (envOfC qual scope s.heap.objs.size f cd) e) (λ_ sv=>CX outer H s E e sv) (λe' sv=>CX outer H s E e' sv) s'
theorem Kt{sc:Scope}{n:Nat}{x:Str}(h:sc.names.lookup x=some .cell):∃ c,(cellsFrom n sc.names []).lookup x=some c:=by
 have q:=JL sc.names n []<|.inl h;exact Ex.mp q
theorem T7{CX:fU}{P:Program}{w:World}{K:PySem.W.Frag}{mg:Str->Option Value}{base:Heap}{N ps:List Str}{qual:Str}{scope:Scope}{f:Addr}{cd:Value}{A:Around}{outer:List Env}{s s1:Shared}{H:Hp}{E:XK}{us:List Value}{vs:List V}
  (S:ao N ps scope) (hd:A.handled=none) (e0:kQ P w K mg base A outer s H) (hl:vs.length=ps.length) (r:av vs us)
  (x:InCallC s s.heap.objs.size (bindL (envOfC qual scope s.heap.objs.size f cd).kindOf (ps.zip us) λ_=>none) (cellsFrom (s.heap.objs.size+1) scope.names []) (bindC (envOfC qual scope s.heap.objs.size f cd).kindOf (ps.zip us) λ_=>none) s1) :
  Inv (eJ CX P w K mg base N qual scope f cd A outer s H E) [] (start N vs) H s1:=by
 have iR:ps.length<=N.length:=by have:=CG List.length S.pre;rw [Be] at this;omega
 obtain⟨h1,tk,rfl,hk⟩:=x.done;have sw:∀ b:Addr,b∉(eJ CX P w K mg base N qual scope f cd A outer s H E).ex:=λb z=>absurd (show b∈([]:List Addr) from z) (by simp);refine⟨⟨e0.mod,S.kind,rfl,rfl,Ak _,λy z c h1 h2=>?_,λy hy=>?_,λy c _ h=>?_,λ_=>hd,Around.frames_deeper e0.frames,.inr ⟨rfl,rfl⟩,λb z=>absurd z<|sw b,e0.bs,e0.jd,λb _ _=>sw b,λb z=>absurd z<|sw b,e0.cG,e0.j8⟩,
  rfl,e0.bare,Un.kept hk,⟨_,x.toInCall.ns,λi y v h1 h2 h3=>?_⟩,λy c h=>⟨_,x.cell y c h⟩,e0.aA.fresh<|Ak _,λy c h=>?_,λp hp=>absurd (show p∈([]:List<|Addr×Obj) from hp) (by simp),e0.aA.kept hk,?_⟩
 ·exact name_of_addr x.apart (DK h1)<|DK h2
 ·have hy:scope.names.lookup y=some .cell\/scope.names.lookup y=some .free:=hy
  rcases hy with hy | hy
  ·exact Kt hy
  ·exact absurd rfl (S.nV _<|DK hy)
 ·exact Bc<|x.above y c<|DK h
 ·have hi:i < vs.length:=by
   unfold start at h2
   by_cases hi:i < vs.length
   ·exact hi
   ·rw [Bd<|by simpa using hi] at h2;rw [Ez] at h2
    split at h2 <;> cases h2
  have ha:vs[i]?=some v:=by
   unfold start at h2;rw [Ay (by simpa using hi),Af] at h2;cases e:vs[i]? with
   | none=>rw [e] at h2;cases h2
   | some a=>rw [e] at h2;cases h2;rfl
  obtain⟨u,hu,rv⟩:=r.get ha;have hp:ps[i]?=some y:=by
   rw [<- S.pre,Dj<|by omega];exact h1
  have Ku:ps.Nodup:=by rw [<- S.pre];exact S.nd.sublist<|List.take_sublist _ _
  refine⟨u,rv,?_⟩
  rcases S.par y (Aq hp) with k | k
  ·exact .inl ⟨k,Kr Ku hp hu k⟩
  ·obtain⟨c,e⟩:=Kt (n:=s.heap.objs.size+1) k;refine .inr ⟨.inl k,c,e,?_⟩;have q:=x.cell y c e;rw [Ks Ku hp hu<|by show scope.names.lookup y≠_;rw [k];decide] at q;exact q
 ·exact e0.aA.fresh<|Bc<|x.above y c<|DK h
 ·unfold start;show _=N.length;rw [Ae,Aa,Di];omega
theorem Kv{CX:fU}{P:Program}{w:World}{K:PySem.W.Frag}{mg:Str->Option Value}{base:Heap}{k:Nat}{f:Addr}{name qual:Str}{params:Arguments}{body:List Stmt}{scope:Scope}{dV kV doc pm bF ct oc:Value}{an od:Option Addr}
  {jz:Array (Option Value)} {N ps:List Str} {sp:Sp} (lk:K.lookup f=some ⟨oc,od,.func<|PySem.W.fnOf name qual params body scope dV kV doc pm an bF ct,jz⟩) (ii:PySem.W.codeIn K bF qual=true) (S:ao N ps scope)
  (len:∀ vs H Q E,sp vs H Q E->vs.length=ps.length)
  (cY : ∀ (A : Around) (outer : List Env) (s : Shared) (H : Hp) (vs : List V) (Q : VK) (E : XK), bj k (A.deeper<|envOfC qual scope s.heap.objs.size f bF) → sp vs H Q E →
   ∃ t,iN (eJ CX P w K mg base N qual scope f bF A outer s H E) body t/\t {nx:=λ_ H'=>Q .non H',rt:=Q} (start N vs) H) :
  aD P w K mg base CX (k+1) f (PySem.W.fnOf name qual params body scope dV kV doc pm an bF ct) ps sp:=by
 refine⟨len,λA outer s H args us vs Q E hr e0 hb r d6=>?_⟩;have hl:=len _ _ _ _ d6;have KX:K.In s.heap:=e0.mod.nJ.keeps λb o e=>(e0.bs b o e).1;have lim:s.heap.NoLimit:=e0.mod.nolimit.keeps λb o e=>(e0.bs b o e).1;have sy:∀ y∈ps.zip us,scope.names.lookup y.1=some .local\/(scope.names.lookup y.1=some .cell/\((cellsFrom (s.heap.objs.size+1) scope.names []).lookup y.1).isSome=true):=λ⟨n,v⟩ hy=>by
  rcases S.par n (RP hy).1 with q | q
  ·exact .inl q
  ·exact .inr ⟨q,JL _ _ _<|.inl q⟩
 refine codeAny_call_function hr.depth (KX _ _ lk) rfl S.co S.gen rfl (PySem.W.codeRec_of KX ii) (hb _ _ _ _ ?_);refine wpAny_newFunctionEnv_cells S.kind sy λenv he s1 x=>?_;subst he;refine⟨lim.keeps x.toInCall.keep,codeAny_func ?_⟩;obtain⟨t,ht,hq⟩:=cY A outer s H vs Q E (hr.deeper _) d6;have I:Inv (eJ CX P w K mg base N qual scope f bF A outer s H E) [] (start N vs) H s1:=T7 S hr.hd e0 hl r x;refine CW (ht [] s1 (start N vs) H _ I hq) (λfl s' hs=>?_) λe s' hs=>hs;have fin:∀{σ':St} {H':Hp} {v:V} {u:Value},Inv (eJ CX P w K mg base N qual scope f bF A outer s H E) [] σ' H' s'->RelV v u->Q v H'->CE outer P w H s Q u s':=
  λ{σ' H' v u} J rv q=>⟨v,H',J.os,J.bare,J.base,J.aA,rv,q⟩
 cases fl with
 | ret u=>
  obtain⟨v,σ',H',J,rv,q⟩:=hs;exact fin J rv q
 | next=>
  obtain⟨σ',H',J,q⟩:=hs;exact fin (v:=V.non) (u:=Value.none) J rfl q
 | brk=>
  obtain⟨_,_,_,q⟩:=hs;exact False.elim q
 | cont=>
  obtain⟨_,_,_,q⟩:=hs;exact False.elim q
section
variable{X:Cx}{x:Str}{p pos:Pos}{e:Expr}{es:List Expr}{t:TA}{id T:String}{r:List V->Hp->VK->Prop}
def wn(r:List V->Hp->VK->Prop)(t:TA):TE:=λσ H Q=>t σ H λvs H1=>r vs H1 Q
theorem T8(hc:eI X (.builtin id) r)(hg:Gl X x)(hm:X.mg x=none)(hv:bootBuiltins x=some (.builtin id))(ha:PA X (e :: es) t)(hn:x ≠ "__name__":=by decide)(cX:(x == ("__debug__" : Str))=false:=by decide)
  (he:starEach (e :: es) X.env=(false,eval e X.env) :: starEach es X.env:=by rfl) (iR:(backTo pos<|starEach es X.env).any (·.1)=false:=by rfl):PE X (.Call (.Name x p) (e :: es) [] pos) (wn r t):=by
 intro pins s σ H Q I h;refine JG<|nL I hg hm hv ?_ hn cX;exact PyProof.Rows.callWith_builtin1 (aE (ha pos pins s σ H _ I h) λus s1 ⟨vs,H1,I1,r1,q1⟩=>hc pins s1 σ H1 vs us Q I1 r1 q1) he iR
theorem T9(hc:eI X (.type T) r)(hg:Gl X x)(hm:X.mg x=none)(hv:bootBuiltins x=some (.type T))(ha:PA X (e :: es) t)(hn:x ≠ "__name__":=by decide)(cX:(x == ("__debug__" : Str))=false:=by decide)
  (he:starEach (e :: es) X.env=(false,eval e X.env) :: starEach es X.env:=by rfl) (iR:(backTo pos<|starEach es X.env).any (·.1)=false:=by rfl):PE X (.Call (.Name x p) (e :: es) [] pos) (wn r t):=by
 intro pins s σ H Q I h;refine JG<|nL I hg hm hv ?_ hn cX;exact JT (aE (ha pos pins s σ H _ I h) λus s1 ⟨vs,H1,I1,r1,q1⟩=>hc pins s1 σ H1 vs us Q I1 r1 q1) he iR
end
end L2
namespace HT
open PySem PyProof.Rows
section
open PySem.SeqAt
open PySem.AutoSeq1 (wpAny_loadPart')
open PySem.MeetsSeq PySem.MeetsSeq2 PySem.MeetsSeq3
end
section
variable{prog:Program}{w:World}{A:Around}{E:Value->Shared->Prop}{s:Shared}
def fV(n d:Nat):Option Int->Nat
 | none=>d
 | some v=>if v < 0 then(v+(n:Int)).toNat else min v.toNat n
theorem fX(n d:Nat):fV n d none=d:=rfl
theorem im(n d k:Nat):fV n d (some (k:Int))=min k n:=by
 show(if(k:Int) < 0 then((k:Int)+(n:Int)).toNat else min (k:Int).toNat n)=min k n;rw [BK (by omega),Az]
end
end HT
namespace L2
open PySem PySem.Spec PyProof.Rows
abbrev TO:=St->Hp->(Option Int->Hp->Prop)->Prop
def PO(X:Cx)(e:Option Expr)(t:TO):Prop:=
 ∀(pins:List<|Addr×Obj) (s:Shared) (σ:St) (H:Hp) (Q:Option Int->Hp->Prop),Inv X pins σ H s->t σ H Q ->
  wpAny (model X.prog X.w) X.A (evalPart e X.env) (λu s'=>∃ o H',Inv X pins σ H' s'/\IsPart u o/\Q o H') X.xe s
def Ua:TO:=λ_ H Q=>Q none H
def Ub(t:TE):TO:=λσ H Q=>t σ H λx H1=>∃ i,x = .int i/\Q (some i) H1
section
variable{X:Cx}{e:Expr}{te:TE}{lo hi:Option Expr}{tl th:TO}{pos p2:Pos}
theorem Uc:PO X none Ua:=by
 intro pins s σ H Q I h;rw [evalPart_none];exact BL ⟨none,H,I,.none,h⟩
theorem Ud(h:PE X e te):PO X (some e) (Ub te):=by
 intro pins s σ H Q I hw;rw [evalPart_some];refine aE (h pins s σ H _ I hw) λu s1 ⟨x,H1,I1,r1,q1⟩=>?_;obtain⟨i,rfl,q⟩:=q1;obtain⟨t,rfl⟩:=r1;exact⟨some i,H1,I1,.int i t,q⟩
def zC(X:Cx)(r:V->Option Int->Option Int->Hp->VK->Prop):Prop:=
 ∀(pins:List<|Addr×Obj) (s:Shared) (σ:St) (H:Hp) (x:V) (v vl vu:Value) (lo hi:Option Int) (sl:Addr) (Q:VK),Inv X pins σ H s->RelV x v->s.heap.IsSliceOf sl vl vu .none->IsPart vl lo->IsPart vu hi->r x lo hi H Q ->
  ∃ T id,typeLookup (.type T) "__getitem__" = pure (some<|.builtin id)/\s.TypeIs v T/\wpAny (model X.prog X.w) X.A (getItem v<|.ref sl) (EP X pins σ Q) X.xe s
def Ue(r:V->Option Int->Option Int->Hp->VK->Prop)(te:TE)(tl th:TO):TE:=λσ H Q=>te σ H λx H1=>tl σ H1 λl H2=>th σ H2 λu H3=>r x l u H3 Q
theorem Ug{r:V->Option Int->Option Int->Hp->VK->Prop}(hr:zC X r)(he:PE X e te)(hl:PO X lo tl)(hu:PO X hi th):PE X (.Subscript e (.Slice lo hi none p2) pos) (Ue r te tl th):=by
 intro pins s σ H Q I h;refine Subscript_<|aE (he pins s σ H _ I h) λv s1 ⟨x,H1,I1,r1,q1⟩=>?_;refine wpAny_Slice<|aE (hl pins s1 σ H1 _ I1 q1) λvl s2 ⟨l,H2,I2,pl,q2⟩=>aE (hu pins s2 σ H2 _ I2 q2) λvu s3 ⟨u,H3,I3,pu,q3⟩=>?_;rw [evalPart_none];refine BL ?_;have I4:Inv X pins σ H3 {s3 with heap:=s3.heap.push {cls:= .type "slice",data:= .fields #[vl,vu,.none]}}:=I3.kept (t':=s3.toks) λb ob q=>Ah _ q;obtain⟨T,id,hT,ht,hg⟩:=hr pins {s3 with heap:=s3.heap.push {cls:= .type "slice",data:= .fields #[vl,vu,.none]}} σ H3 x v vl vu l u s3.heap.objs.size Q I4 r1 (Heap.IsSliceOf.new ..) pl pu q3;show wpAny (model X.prog X.w) X.A (subscriptTail e (.Slice lo hi none p2) v<|.ref s3.heap.objs.size) (EP X pins σ Q) X.xe {s3 with heap:=s3.heap.push {cls:= .type "slice",data:= .fields #[vl,vu,.none]}};exact tail_any (ops:=[.ref s3.heap.objs.size,v]) ht hT hg<|by with_unfolding_all rfl
def fY(xs:List V)(lo hi:Option Int):List V:=(xs.drop<|HT.fV xs.length 0 lo).take<|HT.fV xs.length xs.length hi - HT.fV xs.length 0 lo
theorem Uh(xs:List V)(lo hi:Option Int):(fY xs lo hi).length<=xs.length:=by
 unfold fY;rw [Be,Dd];omega
end
def kS(n:Nat)(i:Int):Option Nat:=if 0<=i then(if i < n then some i.toNat else none) else if -(n:Int)<=i then some (i+n).toNat else none
def dI{α:Type}(xs:List α)(i:Int):Option α:=(kS xs.length i).bind λj=>xs[j]?
theorem zD{n:Nat}{i:Int}{j:Nat}(h:kS n i=some j):seqIndex? i n=some j/\j < n/\-(n:Int)<=i/\i < n:=by
 unfold kS at h
 by_cases h0:0<=i
 ·rw [BR h0] at h
  by_cases h1:i < n
  ·rw [BR h1] at h;have e:i.toNat=j:=Option.some.inj h;exact⟨by rw [seqIndex_of h0 h1,e],by omega,by omega,h1⟩
  ·rw [BK h1] at h;cases h
 ·rw [BK h0] at h
  by_cases h1:-(n:Int)<=i
  ·rw [BR h1] at h;have e:(i+n).toNat=j:=Option.some.inj h;exact⟨by rw [seqIndex_neg (by omega) h1,e],by omega,h1,by omega⟩
  ·rw [BK h1] at h;cases h
theorem zE{α:Type}{xs:List α}{i:Int}{v:α}(h:dI xs i=some v):∃ j,seqIndex? i xs.length=some j/\xs[j]?=some v/\j < xs.length/\-(xs.length:Int)<=i/\i < xs.length:=by
 unfold dI at h;cases e:kS xs.length i with
 | none=>rw [e] at h;cases h
 | some j=>
  rw [e] at h;obtain⟨h1,h2,h3,h4⟩:=zD e;exact⟨j,h1,h,h2,h3,h4⟩
theorem nW{α:Type}{xs:List α}{j:Nat}{v:α}(h:xs[j]?=some v):dI xs (j:Int)=some v:=by
 have hj:j < xs.length:=(Ac.mp h).1;have e:kS xs.length (j:Int)=some j:=by
  unfold kS;rw [BR (by omega),BR<|by omega];simp
 unfold dI;rw [e];exact h
def Kw(b:Expr):Prop:=∀ o i,subscripted b false o i=operate [o,i] (getItem o i)
def sD(X:Cx)(r:R2):Prop:=
 ∀(value slice:Expr) (pins:List<|Addr×Obj) (s:Shared) (σ:St) (H:Hp) (x y:V) (v u:Value) (Q:VK),Inv X pins σ H s->RelV x v->RelV y u->r x y H Q ->
  subscripted slice false v u=operate [v,u] (getItem v u)->wpAny (model X.prog X.w) X.A (subscriptTail value slice v u) (EP X pins σ Q) X.xe s
def sG(X:Cx)(id:String)(r:V->List V->Hp->VK->Prop):Prop:=
 ∀(pins:List<|Addr×Obj) (s:Shared) (σ:St) (H:Hp) (x:V) (xs:List V) (v:Value) (us:List Value) (Q:VK),Inv X pins σ H s->RelV x v->av xs us->r x xs H Q ->
  wpAny (model X.prog X.w) X.A (call (.builtin id)<|v :: us) (EP X pins σ Q) X.xe s
section
variable{X:Cx}{a b:Expr}{ta tb:TE}{pos:Pos}
theorem Ui{r:R2}(hr:sD X r)(ha:PE X a ta)(hb:PE X b tb)(hs:Kw b):PE X (.Subscript a b pos) (wj r ta tb):=by
 intro pins s σ H Q I h;exact Subscript_<|nP ha hb I h λv u s2 x y H2 I2 rx ry q=>hr a b pins s2 σ H2 x y v u Q I2 rx ry q<|hs _ _
def zF(K:PySem.W.Frag):R2:=λx y H Q=>∃ p xs i v,x = .ref p/\y = .int i/\al K H p xs/\dI xs i=some v/\Q v H
def zG(K:PySem.W.Frag):R2:=λx y H Q=>∃ p xs i v,x = .ref p/\y = .int i/\aK K H p xs/\dI xs i=some v/\Q v H
def zH:R2:=λx y H Q=>∃ z i c,x = .str z/\y = .int i/\z.length<=sizeLine/\dI z.cps.toList i=some c/\Q (.str ⟨#[c]⟩) H
theorem cf:sD X (zF X.K):=by
 intro value slice pins s σ H x y v u Q I rx ry h hs;obtain⟨p,xs,i,z,rfl,rfl,hq,he,q⟩:=h;cases rx;obtain⟨t,rfl⟩:=ry;obtain⟨its,r,pl,hz⟩:=I.list hq;obtain⟨j,h1,h2,h3,h4,h5⟩:=zE he;obtain⟨w,ew,d7⟩:=r.get h2;have hl:=r.length;have hn:=nS;have fin:EP X pins σ Q w s:=⟨z,H,I,d7,q⟩
 by_cases h0:0<=i
 ·have hj:i.toNat=j:=by
   rw [seqIndex_of h0 h5] at h1;exact Option.some.inj h1
  exact item_listR pl.isList h0 (by omega) (by rw [hj];simpa using ew) fin hs
 ·have hj:(i+(its.toArray.size:Int)).toNat=j:=by
   rw [seqIndex_neg (by omega) h4] at h1;rw [Au,<- hl];exact Option.some.inj h1
  exact subscriptTail_builtinR (x:=w) pl.isList.typeIs slot_list_getitem.lookup
   (wpAny_getItem_list_neg (Q:=λr s'=>r=w/\EP X pins σ Q r s') pl.isList (by omega) (by rw [Au] <;> omega) (by omega) (by rw [hj];simpa using ew) ⟨rfl,fin⟩) hs
theorem cC:sD X (zG X.K):=by
 intro value slice pins s σ H x y v u Q I rx ry h hs;obtain⟨p,xs,i,z,rfl,rfl,hq,he,q⟩:=h;cases rx;obtain⟨t,rfl⟩:=ry;obtain⟨its,r,pl,hz⟩:=I.tuple hq;obtain⟨j,h1,h2,h3,h4,h5⟩:=zE he;obtain⟨w,ew,d7⟩:=r.get h2;have hl:=r.length;have hn:=nS;have fin:EP X pins σ Q w s:=⟨z,H,I,d7,q⟩;exact subscriptTail_builtinR (x:=w) pl.typeIs slot_tuple_getitem.lookup
  (getItem_tuple (j:=j) (Q:=λr s'=>r=w/\EP X pins σ Q r s') pl (by omega) (by omega) (by rw [Au,<- hl];exact h1) (by simpa using ew) ⟨rfl,fin⟩) hs
theorem Kx:sD X zH:=by
 intro value slice pins s σ H x y v u Q I rx ry h hs;obtain⟨z,i,c,rfl,rfl,hz,he,q⟩:=h;obtain⟨t,rfl⟩:=rx;obtain⟨t',rfl⟩:=ry;obtain⟨j,h1,h2,h3,h4,h5⟩:=zE he;have hl:z.cps.toList.length=z.length:=by simp [Str.length]
 rw [hl] at h1 h4 h5;have hn:=nS;exact tail_any (typeIs_str s z t) slot_str_getitem.lookup (getItem_str (c:=c) (by
  have e1:decide (i < -(2 ^ 63:Int))=false:=BX (by omega);have e2:decide (i>=2 ^ 63)=false:=BX (by omega);rw [e1,e2,TX]) (by rw [h1];simpa using h2) ⟨.str ⟨#[c]⟩,H,I.tok _,⟨_,rfl⟩,q⟩) hs
theorem Uj(its:List Value)(n j:Nat)(u:Value):Obj.mapSeq (·.setIfInBounds j u) {cls:= .type "list",data:= .seq its.toArray n}={cls:= .type "list",data:= .seq (its.set j u).toArray n}:=by
 simp [Obj.mapSeq]
theorem Inv.lst{pins:List (Addr×Obj)}{σ:St}{H:Hp}{s:Shared}{p:Addr}{xs:List V}(I:Inv X pins σ H s)(h:H p=some (.lst xs)) :
  ∃(its:List Value) (n:Nat),av xs its/\s.heap.get? p=some {cls:= .type "list",data:= .seq its.toArray n}/\xs.length<=sizeLine:=by
 obtain⟨z,its,n,r,e⟩:=I.aA p _ h;exact⟨its,n,r,e,z⟩
theorem Inv.nX{pins:List (Addr×Obj)}{σ:St}{H:Hp}{s:Shared}{p:Addr}{xs ys:List V}{its its':List Value}{n n':Nat}{f:Obj->Obj}(I:Inv X pins σ H s)(h:H p=some (.lst xs))
  (ho:s.heap.get? p=some {cls:= .type "list",data:= .seq its.toArray n}) (hf:f {cls:= .type "list",data:= .seq its.toArray n}={cls:= .type "list",data:= .seq its'.toArray n'}) (r:av ys its') (hz:ys.length<=sizeLine) (t:Nat) :
  Inv X pins σ (upd H p<|.lst ys) {s with heap:=s.heap.update p f,toks:=t}:=by
 have e:(s.heap.update p f).get? p=some {cls:= .type "list",data:= .seq its'.toArray n'}:=by
  rw [Ch f ho (by rw [hf] <;> rfl),hf]
 refine I.write (x:=p) (e:=p) (by rw [h];trivial) (.inl rfl) (λb u hb q=>(Bs _ _<|CJ hb).trans q) ⟨_,e⟩ ?_;exact⟨hz,its',n',r,e⟩
def Ky:V->V->V->Hp->(Hp->Prop)->Prop:=λo i v H Q=>∃ p xs k j,o = .ref p/\i = .int k/\H p=some (.lst xs)/\kS xs.length k=some j/\Q (upd H p<|.lst<|xs.set j v)
theorem set_list:rX X Ky:=by
 intro pins s σ H o i v ov iv u Q I ro ri rv h;obtain⟨p,xs,k,j,rfl,rfl,hp,hj,q⟩:=h;cases ro;obtain⟨t,rfl⟩:=ri;obtain⟨its,n,r,ho,hz⟩:=I.lst hp;obtain⟨h1,h2,h3,h4⟩:=zD hj;have hl:=r.length;have hn:=nS;have I':Inv X pins σ (upd H p<|.lst<|xs.set j v) {s with heap:=s.heap.update p (Obj.mapSeq (·.setIfInBounds j u))}:=
  I.nX hp ho (Uj its n j u) (r.set rv j) (by rw [Dk];exact hz) s.toks
 by_cases h0:0<=k
 ·have hk:k.toNat=j:=by
   rw [seqIndex_of h0 h4] at h1;exact Option.some.inj h1
  exact PySem.W.ki_setAt ho h0 (by omega) (by rw [Au,<- hl];exact h4)<|by rw [hk];exact⟨_,I',q⟩
 ·have hk:(k+(its.toArray.size:Int)).toNat=j:=by
   rw [seqIndex_neg (by omega) h3] at h1;rw [Au,<- hl];exact Option.some.inj h1
  exact PySem.W.ki_setBack ho (by omega) (by rw [Au,<- hl];exact h3) (by omega)<|by rw [hk];exact⟨_,I',q⟩
theorem Uk(lo hi:Option Int)(n:Nat):(sliceBounds lo hi none n).1=((HT.fV n 0 lo:Nat):Int)/\(sliceBounds lo hi none n).2.1=((HT.fV n n hi:Nat):Int)/\(sliceBounds lo hi none n).2.2=1:=by
 refine⟨?_,?_,rfl⟩
 ·cases lo with
  | none=>simp [sliceBounds,HT.fV]
  | some i=>
   simp only [sliceBounds,HT.fV,Option.getD_none,show(1:Int) > 0 by decide,DP]
   by_cases h:i < 0
   ·simp only [h,DP] <;> omega
   ·simp only [h,CQ] <;> omega
 ·cases hi with
  | none=>simp [sliceBounds,HT.fV]
  | some i=>
   simp only [sliceBounds,HT.fV,Option.getD_none,show(1:Int) > 0 by decide,DP]
   by_cases h:i < 0
   ·simp only [h,DP] <;> omega
   ·simp only [h,CQ] <;> omega
theorem Ul(its:List Value)(lo hi:Option Int):slicePick its.toArray lo hi none=((its.drop<|HT.fV its.length 0 lo).take<|HT.fV its.length its.length hi - HT.fV its.length 0 lo).toArray:=by
 obtain⟨h1,h2,h3⟩:=Uk lo hi its.toArray.size;unfold slicePick;rw [h1,h2,h3];simp only [sliceRange_one,pick_run,Au] <;> rfl
def zI(K:PySem.W.Frag):V->Option Int->Option Int->Hp->VK->Prop:=λx lo hi H Q=>∃ a xs,x = .ref a/\al K H a xs/\∀ p,H p=none->Q (.ref p) (upd H p<|.lst<|fY xs lo hi)
theorem Kz:zC X (zI X.K):=by
 intro pins s σ H x v vl vu lo hi sl Q I rx hs pl pu h;obtain⟨a,xs,rfl,hx,q⟩:=h;cases rx;obtain⟨its,r,ht,hz⟩:=I.list hx;have hlen:=r.length;refine⟨"list",_,slot_list_getitem.lookup,ht.isList.typeIs,?_⟩;refine wpAny_getItem_list_slice ht.isList hs pl pu .none (by simp) ?_ (by rw [Au] <;> omega);rw [Ul,<- hlen];refine⟨.ref s.heap.objs.size,_,I.laid (t':=s.toks) (o:= .lst<|fY xs lo hi) (λb ob q=>Ah _ q) (Ak _) ?_,rfl,q _<|I.aA.fresh<|Ak _⟩;exact⟨Cr (Uh xs lo hi) hz,_,0,(r.drop<|HT.fV xs.length 0 lo).take<|HT.fV xs.length xs.length hi - HT.fV xs.length 0 lo,Ar _ rfl⟩
def jA:V->Bool
 | .non=>true
 | .bl _=>true
 | .int _=>true
 | .str _=>true
 | _=>false
def cH:V->V->Bool
 | .non,.non=>true
 | .bl a,.bl b=>a == b
 | .bl a,.int b=>(if a then 1 else 0) == b
 | .int a,.bl b=>a == (if b then 1 else 0)
 | .int a,.int b=>a == b
 | .str a,.str b=>a == b
 | _,_=>false
theorem zJ{A:Around}{s:Shared}{y x:V}{u v:Value}(ry:RelV y u)(rx:RelV x v)(fy:jA y=true)(fx:jA x=true):SeqAt.EqAt A s u v (cH y x):=by
 cases y with
 | non=>
  cases ry;cases x with
  | non=>cases rx;exact SeqAt.EqAt.same _
  | bl b=>cases rx;exact SeqAt.EqAt.none_bool b
  | int b=>obtain⟨t,rfl⟩:=rx;exact SeqAt.EqAt.none_int b t
  | str b=>obtain⟨t,rfl⟩:=rx;exact SeqAt.EqAt.none_str b t
  | _=>exact absurd (show false=true from fx) At
 | bl a=>
  cases ry;cases x with
  | non=>cases rx;exact SeqAt.EqAt.bool_none a
  | bl b=>cases rx;exact SeqAt.EqAt.bool_bool a b
  | int b=>obtain⟨t,rfl⟩:=rx;exact SeqAt.EqAt.bool_int a b t
  | str b=>obtain⟨t,rfl⟩:=rx;exact SeqAt.EqAt.bool_str a b t
  | _=>exact absurd (show false=true from fx) At
 | int a=>
  obtain⟨t',rfl⟩:=ry;cases x with
  | non=>cases rx;exact SeqAt.EqAt.int_none a t'
  | bl b=>cases rx;exact SeqAt.EqAt.int_bool a t' b
  | int b=>obtain⟨t,rfl⟩:=rx;exact SeqAt.EqAt.int_int a t' b t
  | str b=>obtain⟨t,rfl⟩:=rx;exact SeqAt.EqAt.int_str a t' b t
  | _=>exact absurd (show false=true from fx) At
 | str a=>
  obtain⟨t',rfl⟩:=ry;cases x with
  | non=>cases rx;exact SeqAt.EqAt.str_none a t'
  | bl b=>cases rx;exact SeqAt.EqAt.str_bool a t' b
  | int b=>obtain⟨t,rfl⟩:=rx;exact SeqAt.EqAt.str_int a t' b t
  | str b=>obtain⟨t,rfl⟩:=rx;exact SeqAt.EqAt.str_str a t' b t
  | _=>exact absurd (show false=true from fx) At
 | _=>exact absurd (show false=true from fy) At
def gO(x:V)(u:Value):Bool:=match u with
 | .none=>cH .non x
 | .bool b=>cH (.bl b) x
 | .int i _=>cH (.int i) x
 | .str z _=>cH (.str z) x
 | _=>false
theorem KA{x y:V}{u:Value}(r:RelV y u)(f:jA y=true):gO x u=cH y x:=by
 cases y with
 | non=>cases r;rfl
 | bl b=>cases r;rfl
 | int i=>obtain⟨t,rfl⟩:=r;rfl
 | str z=>obtain⟨t,rfl⟩:=r;rfl
 | _=>exact absurd (show false=true from f) At
theorem sJ{x:V}:∀{xs:List V} {us:List Value},av xs us->xs.all jA=true->us.any (gO x)=xs.any λy=>cH y x
 | _,_,.nil,_=>rfl
 | y :: xs,u :: us,.cons r t,f=>by
  rw [Gz,Bk] at f;rw [Fi,Fi,KA r f.1,sJ t f.2]
theorem sK{A:Around}{s:Shared}{x:V}{v:Value}(rx:RelV x v)(fx:jA x=true):∀{xs:List V} {us:List Value},av xs us->xs.all jA=true->∀ u∈us,SeqAt.EqAt A s u v<|gO x u
 | _,_,.nil,_=>λu hu=>by cases hu
 | y :: xs,u :: us,.cons r t,f=>λu' hu=>by
  rw [Gz,Bk] at f
  rcases Ai.mp hu with rfl | hu
  ·rw [KA r f.1];exact zJ r rx f.1 fx
  ·exact sK rx fx t f.2 u' hu
def qA(x:V)(xs:List V):Bool:=xs.any λy=>cH y x
def KE(K:PySem.W.Frag)(neg:Bool):R2:=λx y H Q=>∃ p xs,y = .ref p/\(al K H p xs\/aK K H p xs)/\jA x=true/\xs.all jA=true/\Q (.bl (if neg then !qA x xs else qA x xs)) H
theorem KG:cV X (compareOp .In) (KE X.K false):=by
 intro pins s σ H x y v u Q I rx ry h;obtain⟨p,xs,rfl,hq,fx,fs,q⟩:=h;cases ry
 rcases hq with hq | hq
 ·obtain⟨its,r,pl,hz⟩:=I.list hq;refine SeqAt.in_listAt (gO x) pl.isList (λw hw=>sK rx fx r fs w<|by simpa using hw) ⟨.bl _,H,I,rfl,?_⟩;rw [show its.toArray.any (gO x)=its.any (gO x) by simp,sJ r fs];exact q
 ·obtain⟨its,r,pl,hz⟩:=I.tuple hq;refine SeqAt.in_tupleAt (gO x) pl (λw hw=>sK rx fx r fs w<|by simpa using hw) ⟨.bl _,H,I,rfl,?_⟩;rw [show its.toArray.any (gO x)=its.any (gO x) by simp,sJ r fs];exact q
theorem KI:cV X (compareOp .NotIn) (KE X.K true):=by
 intro pins s σ H x y v u Q I rx ry h;obtain⟨p,xs,rfl,hq,fx,fs,q⟩:=h;cases ry
 rcases hq with hq | hq
 ·obtain⟨its,r,pl,hz⟩:=I.list hq;refine SeqAt.notIn_listAt (gO x) pl.isList (λw hw=>sK rx fx r fs w<|by simpa using hw) ⟨.bl _,H,I,rfl,?_⟩;rw [show its.toArray.any (gO x)=its.any (gO x) by simp,sJ r fs];exact q
 ·obtain⟨its,r,pl,hz⟩:=I.tuple hq;refine SeqAt.notIn_tupleAt (gO x) pl (λw hw=>sK rx fx r fs w<|by simpa using hw) ⟨.bl _,H,I,rfl,?_⟩;rw [show its.toArray.any (gO x)=its.any (gO x) by simp,sJ r fs];exact q
theorem cZ:eI X (.builtin "len") (λxs H Q=>∃ p ys,xs=[.ref p]/\(al X.K H p ys\/aK X.K H p ys)/\Q (.int ys.length) H):=by
 intro pins s σ H xs us Q I r h;obtain⟨p,ys,rfl,hq,q⟩:=h;obtain⟨u,rfl,rx⟩:=vals1 r;cases rx;have hn:=nS
 rcases hq with hq | hq
 ·obtain⟨its,r',pl,hz⟩:=I.list hq;have hlen:=r'.length;exact Calls.call_len_list pl.isList (by simp only [Au] <;> omega) ⟨.int ys.length,H,I.tok _,⟨s.toks+1,by rw [Au,hlen]⟩,q⟩
 ·obtain⟨its,r',pl,hz⟩:=I.tuple hq;have hlen:=r'.length;exact len_tuple pl (by simp only [Au] <;> omega) ⟨.int ys.length,H,I.tok _,⟨s.toks+1,by rw [Au,hlen]⟩,q⟩
theorem KL:eI X (.builtin "len") (λxs H Q=>∃ z,xs=[.str z]/\z.length<=sizeLine/\Q (.int z.length) H):=by
 intro pins s σ H xs us Q I r h;obtain⟨z,rfl,hz,q⟩:=h;obtain⟨u,rfl,t,rfl⟩:=vals1 r;have hn:=nS;exact len_str (by omega) ⟨.int z.length,H,I.tok _,⟨_,rfl⟩,q⟩
theorem Um:eI X (.type "list") (λxs H Q=>∃ p ys,xs=[.ref p]/\(al X.K H p ys\/aK X.K H p ys)/\∀ l,H l=none->Q (.ref l) (upd H l<|.lst ys)):=by
 intro pins s σ H xs us Q I r h;obtain⟨p,ys,rfl,hq,q⟩:=h;obtain⟨u,rfl,rx⟩:=vals1 r;cases rx;have fin:∀(its:List Value),av ys its->ys.length<=sizeLine->∀(h':Heap) (c':Nat),(∀ b o',s.heap.get? b=some o'->h'.get? b=some o') ->
   h'.get? s.heap.objs.size=some {cls:= .type "list",dict:=none,data:= .seq its.toArray c',slots:=#[]}->EP X pins σ Q (.ref s.heap.objs.size) {s with heap:=h'}:=λits r' hz h' c' kp e=>
  ⟨.ref s.heap.objs.size,_,I.laid (t':=s.toks) kp (Ak _) (show ax X.prog X.w _ h' _ (.lst ys) from⟨hz,its,c',r',e⟩),rfl,q _<|I.aA.fresh<|Ak _⟩
 rcases hq with hq | hq
 ·obtain⟨its,r',pl,hz⟩:=I.list hq;have hlen:=r'.length;obtain⟨o,ho,hc,n,hd⟩:=pl.isList;exact call_list_seq p (.inl rfl) ho hc hd (λh' c' kp e=>fin its r' hz h' c' kp e)<|by simp only [Au] <;> omega
 ·obtain⟨its,r',pl,hz⟩:=I.tuple hq;have hlen:=r'.length;obtain⟨o,ho,hc,n,hd⟩:=pl;exact call_list_seq p (.inr rfl) ho hc hd (λh' c' kp e=>fin its r' hz h' c' kp e)<|by simp only [Au] <;> omega
def my(K:PySem.W.Frag)(T:String)(x:V)(H:Hp):Prop:=match x with
 | .str _=>T = "str"
 | .int _=>T = "int"
 | .ref p=>(T = "list"/\∃ xs,al K H p xs)\/(T = "tuple"/\∃ o,K.lookup p=some o/\o.cls = .type "tuple"/\o.dict=none) \/
   (T = "dict"/\((∃ kvs,H p=some (.dK kvs))\/∃ kvs,H p=some (.dT kvs)))\/(T = "set"/\∃ S n,H p=some (.set S n))
 | _=>False
theorem KO{pins:List (Addr×Obj)}{σ:St}{H:Hp}{s:Shared}{T:String}{x:V}{v:Value}(I:Inv X pins σ H s)(r:RelV x v)(ty:my X.K T x H) :
  s.TypeIs v T/\∀ a,v = .ref a->∃ ob,s.heap.get? a=some ob/\ob.dict=none:=by
 cases x with
 | str z=>
  obtain⟨t,rfl⟩:=r;cases (show T = "str" from ty);exact⟨typeIs_str s z t,λ_ e=>nomatch e⟩
 | int i=>
  obtain⟨t,rfl⟩:=r;cases (show T = "int" from ty);exact⟨typeIs_int s i t,λ_ e=>nomatch e⟩
 | ref p=>
  cases r
  rcases ty with ⟨rfl,xs,hq⟩ | ⟨rfl,o,hk,hc,hd⟩ | ⟨rfl,hk⟩ | ⟨rfl,S,n,hk⟩
  ·obtain⟨its,_,pl,_⟩:=I.list hq;refine⟨pl.isList.typeIs,λa e=>?_⟩;cases e;obtain⟨o,n,e,c,hd,_⟩:=pl;exact⟨o,e,hd⟩
  ·refine⟨⟨o,I.dY p o hk,hc⟩,λa e=>?_⟩;cases e;exact⟨o,I.dY _ o hk,hd⟩
  ·have z:∃ o,s.heap.get? p=some o/\o.ExactDict:=by
    rcases hk with ⟨kvs,hk⟩ | ⟨kvs,hk⟩
    ·obtain⟨_,_,_,_,o,_,_,e,ex,_⟩:=I.aA p _ hk;exact⟨o,e,ex⟩
    ·obtain⟨_,_,_,_,o,_,_,e,ex,_⟩:=I.aA p _ hk;exact⟨o,e,ex⟩
   obtain⟨o,e,ex⟩:=z;refine⟨⟨o,e,ex.1⟩,λa e2=>?_⟩;cases e2;exact⟨o,e,ex.2.1⟩
  ·obtain⟨o,_,_,_,e,ex,_⟩:=I.aA p _ hk;refine⟨⟨o,e,ex.1⟩,λa e2=>?_⟩;cases e2;exact⟨o,e,ex.2.1⟩
 | _=>exact False.elim ty
def zK(K:PySem.W.Frag)(T:String)(r:V->List V->Hp->VK->Prop)(to:TE):TE:=λσ H Q=>to σ H λx H1=>my K T x H1/\r x [] H1 Q
def Uo(K:PySem.W.Frag)(T:String)(r:V->List V->Hp->VK->Prop)(to:TE)(t:TA):TE:=λσ H Q=>to σ H λx H1=>my K T x H1/\t σ H1 λxs H2=>r x xs H2 Q
variable{o e:Expr}{es:List Expr}{to:TE}{t:TA}{name:Str}{apos cI:Pos}{T id:String}{r:V->List V->Hp->VK->Prop}
theorem Uq(pa:PlainAttrs T)(slot:Slot T name id)(kU:typeOf (.builtin id)=pure (.type "method_descriptor"))(hm:sG X id r)(ho:PE X o to)
  (bI:attributeBase o name X.env (eval o X.env)=eval o X.env:=by rfl) (hline:(apos.endLine == cI.line)=true:=by rfl):PE X (.Call (.Attribute o name apos) [] [] cI) (zK X.K T r to):=by
 intro pins s σ H Q I h;refine wpAny_Call_method0_late bI hline<|aE (ho pins s σ H _ I h) λv s1 ⟨x,H1,I1,r1,ty,q1⟩=>?_;obtain⟨h1,h2⟩:=KO I1 r1 ty;exact⟨T,id,pa,slot,kU,h1,h2,HD rfl (PySem.evalArgs_none<|hm pins s1 σ H1 x [] v [] Q I1 r1 .nil q1)⟩
theorem zL(pa:PlainAttrs T)(slot:Slot T name id)(kU:typeOf (.builtin id)=pure (.type "method_descriptor"))(hm:sG X id r)(ho:PE X o to)(ha:PA X (e :: es) t)
  (bI:attributeBase o name X.env (eval o X.env)=eval o X.env:=by rfl)
  (db : ((backTo cI<|starEach (e :: es) X.env).all (λx => !x.1) && (backToKw cI<|keywordEach [] X.env).all (λx => x.1.isSome)
   && decide ((e :: es).length+([]:List Keyword).length+(if([]:List Keyword).isEmpty then 0 else 1) < 30))=true:=by rfl)
  (hline:(apos.endLine == cI.line)=true:=by rfl) (hs:starEach (e :: es) X.env=(false,eval e X.env) :: starEach es X.env:=by rfl) (b8:(backTo cI<|starEach es X.env).any (·.1)=false:=by rfl) :
  PE X (.Call (.Attribute o name apos) (e :: es) [] cI) (Uo X.K T r to t):=by
 intro pins s σ H Q I h;refine wpAny_Call_method_late bI db hline rfl (aE (ho pins s σ H _ I h) λv s1 ⟨x,H1,I1,r1,ty,q1⟩=>?_);obtain⟨h1,h2⟩:=KO I1 r1 ty;refine⟨T,id,pa,slot,kU,h1,h2,?_⟩;have hA:=ha cI pins s1 σ H1 _ I1 q1;rw [hs] at hA ⊢;refine HD (by show(false || (backTo cI<|starEach es X.env).any (·.1))=false;rw [b8] <;> rfl)<|JV ?_;exact aE hA λus s2 ⟨vs,H2,I2,r2,q2⟩=>hm pins s2 σ H2 x vs v us Q I2 r1 r2 q2
end
def nY(X:Cx)(id:String)(r:V->List V->Hp->VK->Prop):Prop:=
 ∀(pins:List<|Addr×Obj) (s:Shared) (σ:St) (H:Hp) (x:V) (xs:List V) (v:Value) (us:List Value) (Q:VK),Inv X pins σ H s->RelV x v->av xs us->r x xs H Q ->
  wpAny (model X.prog X.w) X.A (call (.builtin id)<|v :: us) (EP X pins σ Q) X.xe s
theorem av.hd{x:V}{xs:List V}{us:List Value}(h:av (x :: xs) us):∃ u vs,us=u :: vs/\RelV x u/\av xs vs:=by
 cases h with
 | cons r t=>exact⟨_,_,rfl,r,t⟩
theorem av.nl{us:List Value}(h:av [] us):us=[]:=by
 cases h;rfl
theorem av.one{x:V}{us:List Value}(h:av [x] us):∃ u,us=[u]/\RelV x u:=by
 obtain⟨u,vs,rfl,r,t⟩:=h.hd;rw [t.nl];exact⟨u,rfl,r⟩
theorem av.two{x y:V}{us:List Value}(h:av [x,y] us):∃ u v,us=[u,v]/\RelV x u/\RelV y v:=by
 obtain⟨u,vs,rfl,r,t⟩:=h.hd;obtain⟨v,ws,rfl,q,t⟩:=t.hd;rw [t.nl];exact⟨u,v,rfl,r,q⟩
theorem av.zero:∀{us:List Value},av [] us->us=[]
 | _,.nil=>rfl
theorem av.dropLast{xs:List V}{us:List Value}(h:av xs us):av xs.dropLast us.dropLast:=by
 induction h with
 | nil=>exact .nil
 | cons r t ih=>
  cases t with
  | nil=>exact .nil
  | cons q t'=>exact .cons r ih
theorem av.eraseIdx:∀{xs:List V} {us:List Value} (i:Nat),av xs us->av (xs.eraseIdx i) (us.eraseIdx i)
 | _,_,_,.nil=> .nil
 | _,_,0,.cons _ t=>t
 | _,_,i+1,.cons r t=> .cons r<|av.eraseIdx i t
theorem Ur{α:Type}(l:List α):l.eraseIdx (l.length - 1)=l.dropLast:=by
 induction l with
 | nil=>rfl
 | cons a r ih=>
  cases r with
  | nil=>rfl
  | cons b r=>
   have e:(a :: b :: r).length - 1=((b :: r).length - 1)+1:=by
    have h1:(a :: b :: r).length=r.length+2:=rfl;have h2:(b :: r).length=r.length+1:=rfl;omega
   rw [e,RL,ih]
   all_goals rfl
theorem KP{α:Type}:∀(l:List α) (i:Nat),(l.eraseIdx i).length<=l.length
 | [],_=>Ak _
 | _ :: _,0=>Fc _
 | _ :: r,i+1=>Nat.succ_le_succ<|KP r i
section
variable{X:Cx}{pins:List (Addr×Obj)}{σ:St}{H:Hp}{s:Shared}{l b:Addr}{xs ys zs:List V}
theorem Inv.jB{its its':List Value}{n:Nat}{f:Array Value->Array Value}{t':Nat}(I:Inv X pins σ H s)(hH:H l=some (.lst xs))
  (e:s.heap.get? l=some {cls:= .type "list",data:= .seq its.toArray n}) (hf:f its.toArray=its'.toArray) (hv:av ys its') (hz:ys.length<=sizeLine) :
  Inv X pins σ (upd H l<|.lst ys) {s with heap:=s.heap.update l<|Obj.mapSeq f,toks:=t'}:=by
 have q:=PySem.IsL.update e f;rw [hf] at q;refine I.write (x:=l) (e:=l) (by rw [hH];exact trivial) (.inl rfl) (λb' u hb hu=>(Bs s.heap (Obj.mapSeq f)<|CJ hb).trans hu) ⟨_,q⟩ ?_;exact⟨hz,its',_,hv,q⟩
theorem Inv.zM{its:List Value}{t':Nat}(I:Inv X pins σ H s)(hv:av ys its)(hz:ys.length<=sizeLine) :
  Inv X pins σ (upd H s.heap.objs.size<|.lst ys) {s with heap:=s.heap.push {cls:= .type "list",data:= .seq its.toArray},toks:=t'}:=
 I.laid (λ_ _ q=>Ah _ q) (Ak _) ⟨hz,its,0,hv,Ar _ rfl⟩
theorem Inv.fresh(I:Inv X pins σ H s):H s.heap.objs.size=none:=I.aA.fresh<|Ak _
theorem Inv.fZ(I:Inv X pins σ H s)(hH:H l=some (.lst xs)):xs.length<=sizeLine/\∃(its:List Value) (n:Nat),av xs its/\xs.length=its.length/\s.heap.get? l=some {cls:= .type "list",data:= .seq its.toArray n}:=by
 obtain⟨z,its,n,r,e⟩:=I.aA l _ hH;exact⟨z,its,n,r,r.length,e⟩
theorem Us{n:Nat}(h:n<=sizeLine):Builtin.List.listTooLong n=false:=by
 unfold Builtin.List.listTooLong;exact BX<|by omega
end
section
variable{X:Cx}
def Ut:V->List V->Hp->VK->Prop:=λx vs H Q=>∃ l xs y,x = .ref l/\vs=[y]/\H l=some (.lst xs)/\xs.length < sizeLine/\Q .non (upd H l<|.lst<|xs++[y])
theorem KS:nY X "list.append" Ut:=by
 intro pins s σ H x vs v us Q I rx rv h;obtain⟨l,xs,y,rfl,rfl,hH,hz,q⟩:=h;cases rx;obtain⟨u,rfl,ru⟩:=rv.one;obtain⟨z,its,n,r,hl,e⟩:=I.fZ hH;refine PB F.slot_list_append ⟨_,e,rfl⟩ F.entry_list_append (F.args_list_append_2 _ _) (PySem.list_append l its.toArray n u<|by rw [Au];omega) ⟨e,?_⟩;refine⟨.non,_,I.jB (its':=its++[u]) hH e (by simp) (r.append<|.cons ru .nil) ?_,rfl,q⟩;rw [Ae,Cv];omega
def Uu:V->List V->Hp->VK->Prop:=λx vs H Q=>∃ l b xs zs,x = .ref l/\vs=[.ref b]/\H l=some (.lst xs)/\H b=some (.lst zs)/\xs.length+zs.length<=sizeLine/\Q .non (upd H l<|.lst<|xs++zs)
theorem q6x:nY X "list.extend" Uu:=by
 intro pins s σ H x vs v us Q I rx rv h;obtain⟨l,b,xs,zs,rfl,rfl,hH,hB,hz,q⟩:=h;cases rx;obtain⟨u,rfl,ru⟩:=rv.one;cases ru;obtain⟨z,its,n,r,hl,e⟩:=I.fZ hH;obtain⟨z2,dJ,n2,r2,jf,e2⟩:=I.fZ hB;have hsz:its.toArray.size+dJ.toArray.size<=sizeLine:=by rw [Au,Au];omega
 have sM:¬(!its.toArray.isEmpty && Builtin.List.listTooLong (its.toArray.size+dJ.toArray.size))=true:=by
  rw [Us hsz,Gw];exact At
 refine PB F.slot_list_extend ⟨_,e,rfl⟩ F.entry_list_extend (F.args_list_extend_2 _ _)
  (AutoSeq1.list_extend_list_list_0 l its.toArray n b dJ.toArray n2 sM (by rw [Au];omega)<|by omega) ⟨e,e2,?_⟩
 refine⟨.non,_,I.jB (its':=its++dJ) hH e (by simp) (r.append r2) ?_,rfl,q⟩;rw [Ae];omega
def zN:V->List V->Hp->VK->Prop:=λx vs H Q=>∃ l xs y,x = .ref l/\vs=[]/\H l=some (.lst xs)/\xs[xs.length - 1]?=some y/\Q y (upd H l<|.lst xs.dropLast)
theorem Uv:nY X "list.pop" zN:=by
 intro pins s σ H x vs v us Q I rx rv h;obtain⟨l,xs,y,rfl,rfl,hH,hy,q⟩:=h;cases rx;have zO:=rv.zero;subst zO;obtain⟨z,its,n,r,hl,e⟩:=I.fZ hH;obtain⟨u,hu,ru⟩:=r.get hy;have mz:its.toArray[its.toArray.size - 1]?=some u:=by
  show its.toArray[its.length - 1]?=some u;rw [<- Bh,<- hl];exact hu
 refine PB F.slot_list_pop ⟨_,e,rfl⟩ F.entry_list_pop (F.args_list_pop_1 _) (MeetsSeq.list_pop_last l its.toArray n u mz<|by rw [Au];omega) ⟨e,?_⟩;refine⟨y,_,I.jB (its':=its.dropLast) hH e ?_ r.dropLast ?_,ru,q⟩
 ·show its.toArray.eraseIdxIfInBounds (its.toArray.size - 1)=its.dropLast.toArray;rw [Au,OD,Ur]
 ·rw [List.length_dropLast];omega
def Uw:V->List V->Hp->VK->Prop:=λx vs H Q=>∃ l xs i k y,x = .ref l/\vs=[.int i]/\H l=some (.lst xs)/\-(2 ^ 63)<=i/\i < 2 ^ 63/\seqIndex? i xs.length=some k/\xs[k]?=some y/\Q y (upd H l<|.lst<|xs.eraseIdx k)
theorem KU:nY X "list.pop" Uw:=by
 intro pins s σ H x vs v us Q I rx rv h;obtain⟨l,xs,i,k,y,rfl,rfl,hH,h1,h2,hk,hy,q⟩:=h;cases rx;obtain⟨u,rfl,ru⟩:=rv.one;obtain⟨t,rfl⟩:=ru;obtain⟨z,its,n,r,hl,e⟩:=I.fZ hH;obtain⟨w,hw,d7⟩:=r.get hy;refine PB F.slot_list_pop ⟨_,e,rfl⟩ F.entry_list_pop (F.args_list_pop_2 _ _)
  (MeetsSeq.list_pop_at l its.toArray n i t k w (fitsIndex_both h1 h2) (by rw [Au,<- hl];exact hk) (by rw [<- Bh];exact hw)<|by rw [Au];omega) ⟨e,?_⟩
 refine⟨y,_,I.jB (its':=its.eraseIdx k) hH e ?_ (r.eraseIdx k) ?_,d7,q⟩
 ·show its.toArray.eraseIdxIfInBounds k=(its.eraseIdx k).toArray;rw [OD]
 ·have:=KP xs k;omega
def zP:R2:=λx y H Q=>∃ l b xs zs,x = .ref l/\y = .ref b/\H l=some (.lst xs)/\H b=some (.lst zs)/\xs.length+zs.length<=sizeLine/\∀ p,H p=none->Q (.ref p) (upd H p<|.lst<|xs++zs)
theorem zQ:cV X (binaryOp .Add) zP:=by
 intro pins s σ H x y v u Q I rx ry h;obtain⟨l,b,xs,zs,rfl,rfl,hH,hB,hz,q⟩:=h;cases rx;cases ry;obtain⟨z,its,n,r,hl,e⟩:=I.fZ hH;obtain⟨z2,dJ,n2,r2,jf,e2⟩:=I.fZ hB;refine PySem.P.add_list e e2 ?_ (by rw [Au,Au];omega);have ea:its.toArray++dJ.toArray=(its++dJ).toArray:=by simp
 rw [ea];exact⟨.ref _,_,I.zM (t':=s.toks) (r.append r2) (by rw [Ae];omega),rfl,q _ I.fresh⟩
end
section
variable{prog:Program}{w:World}{A:Around}{E:Value->Shared->Prop}{s:Shared}
end
section
variable{X:Cx}
end
end L2
namespace KW
open PySem PySem.W PySem.Calls PyProof.Rows
theorem Ux{P:Params}{h:Heap}:∀(ns:List Int) (vs:List Value),WellAll P h vs (ns.map WData.int)->IntsAre vs ns:=by
 intro ns
 induction ns with
 | nil=>
  intro vs w;rw [List.map_nil] at w;cases w;exact .nil
 | cons n ns ih=>
  intro vs w;rw [Bb] at w;cases w with
  | cons a b=>
   cases a;exact .cons _ _<|ih _ b
theorem Uy{l:OpenLaw}{n:Nat}(hn:l.most=some n){P:Params}{h:Heap}{args:List WData}{vals:List Value}
  (kW:l.row.toRowW.claim.pre args=true) (zR:WellAll P h vals args) :
  ∃ a vs ns,vals=[Value.ref a]/\args=[WData.list<|ns.map WData.int]/\h.get? a=some {cls:= .type "list",data:= .seq vs.toArray}/\IntsAre vs ns/\ns.length<=n:=by
 have Uz:WShape.hasAll [] args [.list .int]=true:=(pre_splitW kW).1;have hc:l.pre.holds [] {args:=args}=true:=(pre_splitW kW).2;obtain⟨d,r,rfl,h1,h2⟩:=hasAllW_cons Uz;obtain rfl:=hasAllW_nil h2;obtain⟨xs,rfl,h3⟩:=hasW_list h1;obtain⟨ns,rfl⟩:=items_int h3;have hlen:ns.length<=n:=by
  unfold OpenLaw.pre at hc;have h4:(WTm.not<|.lt (.lit<|.int (n:Int))<|.len<|.arg 0).holds [] {args:=[.list<|ns.map .int]}=true:=by
   have h4:=(holds_andW hc).1;rw [hn] at h4;exact h4
  have h5:=condW_of h4<|w_not<|w_lt w_lit<|w_len_list<|w_arg rfl;rw [Aa] at h5;refine Nat.le_of_not_lt λq=>?_;have q':(n:Int) < ((ns.length:Nat):Int):=by omega
  first
   | (rw [BW q'] at h5;exact absurd h5<|by decide)
   | (simp at h5;omega)
 cases zR with
 | cons w1 w2=>
  cases w2;cases w1 with
  | list ho fh=>exact⟨_,_,ns,rfl,rfl,ho,Ux ns _ fh,hlen⟩
theorem UA(l:OpenLaw)(args:List WData):l.row.toRowW.claim.post args (.bool true) args=true:=
 postW_of (r:=l.row.toRowW) (X:=(true == true))
  (show WShape.has [] (.bool true) .bool=true by first | rfl | decide | simp [WShape.has,WShape.arms,WShape.armsAll])
  (show(WTm.eq .res<|.lit<|.bool true).value [] {args:=args,res:=some<|.bool true,after:=args}=some (.bool<|true == true) from w_eq_bool (w_res rfl) w_lit) rfl
theorem f9{l:OpenLaw}{n:Nat}{q:Program}{loose:List Str}{XP:(Str->Option Value)->Heap->Prop}{YP:World->Heap->Prop}{d:DefRec}
  (hn:l.most=some n) (sO:d.params.defaults=[])
  (call : ∀ (w : World) (s₀ s₁ : Shared) (mg mb : Str → Option Value) (fa : Addr) (o : Obj) (pm cd doc : Value) (a : Addr) (vs : List Value) (ns : List Int),
   Ground q loose [] XP w s₀ mg mb s₁.heap->YP w s₁.heap ->
   s₁.heap.get? fa=some o->o.data = .func (docDef d.name d.params d.body d.scope pm cd doc)->s₁.heap.CodeRec cd d.name->mg d.name=some (.ref fa) ->
   s₁.heap.get? a=some {cls:= .type "list",data:= .seq vs.toArray}->IntsAre vs ns->ns.length<=n->s₁.gens=#[] ->
   codeAny (model l.prog w) callerA (.call (.ref fa) ⟨[.ref a],[]⟩) (λr s'=>r = .ok (.ret<|.bool true)/\OldK s₁.heap s'.heap/\s'.os=s₁.os/\AllBare s'.gens) s₁) :
  WalkO q loose XP YP l.row.toRowW d [] (λf vs=>PySem.call f vs):=by
 intro w s₀ s₁ mg mb G Y fa o pm cd doc dV kV ho hd ii hD sP hg args vals as kW hlay hrd zR hlo;obtain rfl:dV = .none:=Dflts.none hD sO;obtain rfl:kV = .none:=Dflts.noKw hD;obtain⟨a,vs,ns,rfl,rfl,jC,hints,hlen⟩:=Uy hn kW zR;refine enter_call<|HY (call w s₀ s₁ mg mb fa o pm cd doc a vs ns G Y ho (fd_plain hd) ii sP jC hints hlen hg) λr s' hq=>?_;obtain⟨rfl,h2,h3,h4⟩:=hq;exact⟨.inl ⟨.bool true,.bool true,[],rfl,λ_=>rfl,.bool true,UA l _,λ_=>⟨List.Pairwise.nil,λ_ hm=>(nomatch hm)⟩⟩,h2,h3,h4⟩
section
variable{prog:Program}{w:World}{A:Around}{E:Value->Shared->Prop}{s:Shared}{K:Frag}
end
end KW
namespace L2
open PySem PySem.Spec PyProof.Rows
theorem K0:∀{vs:List Value} {ns:List Int},IntsAre vs ns->av (ns.map V.int) vs
 | _,_,.nil=> .nil
 | _,_,.cons n t h=> .cons ⟨t,rfl⟩<|K0 h
def Only(H:Hp):Prop:=∀ b,H b=none\/∃ o xs,H b=some (.cJ o<|.lst xs)
theorem UB{P:Program}{w:World}{K:PySem.W.Frag}{mg mb:Str->Option Value}{CX:fU}{k:Nat}{fa a:Addr}{fd:FuncData}{x:Str}{sp:Sp}{s₁:Shared}{vs:List Value}{ns:List Int}
  (KX:K.In s₁.heap) (wo:s₁.heap.Ns mainGlobals mg) (hb:s₁.heap.Ns builtinsNs mb) (UC:∀ x:Str,x ≠ "__name__"->mb x=bootBuiltins x) (zS:s₁.heap.NoLimit) (hg:s₁.gens=#[])
  (ha:s₁.heap.get? a=some {cls:= .type "list",data:= .seq vs.toArray}) (hi:IntsAre vs ns) (hl:ns.length<=sizeLine) (hr:bj k callerA)
  (F:∀ base:Heap,K.In base->base.Ns mainGlobals mg->aD P w K mg base CX k fa fd [x] sp) (sQ:∀(s:Shared) (u:Value),BindsTo s fd ⟨[u],[]⟩ [(x,u)])
  (d6:∀ H:Hp,Only H->al K H a (ns.map V.int)->sp [.ref a] H (λv _=>v = .bl true) λ_ _ _=>False)
  (zT:∀ H e s',CX [] H s₁ (λ_ _ _=>False) e s'->False) :
  codeAny (model P w) callerA (.call (.ref fa) ⟨[.ref a],[]⟩) (λr s'=>r = .ok (.ret<|.bool true)/\OldK s₁.heap s'.heap/\s'.os=s₁.os/\AllBare s'.gens) s₁:=by
 have rv:=K0 hi;have zU:=hi.length;have core:∀ H:Hp,Only H->al K H a (ns.map V.int)->b7 P w H s₁.heap->(∀ b,H b≠none->b=a)->(H a≠none->K.lookup a=none) ->
   codeAny (model P w) callerA (.call (.ref fa) ⟨[.ref a],[]⟩) (λr s'=>r = .ok (.ret<|.bool true)/\OldK s₁.heap s'.heap/\s'.os=s₁.os/\AllBare s'.gens) s₁:=by
  intro H hO hS aA hA hK;have iq:∀{b:Addr} {o:Obj},s₁.heap.get? b=some o->H b=none->(fc s₁.heap H).get? b=some o:=λe n=>Sf e n;have sw:∀{b:Addr} {o:Obj} {es:Array DictEntry} {ep:Nat},s₁.heap.get? b=some o->o.data = .dict es ep->H b=none:=λ{b o es ep} e d=>by
   cases q:H b with
   | none=>rfl
   | some u=>
    have e':b=a:=hA b (by rw [q];simp);subst e';rw [ha] at e;cases e;have d':Data.seq vs.toArray _=Data.dict es ep:=d;cases d'
  have wq:∀{b:Addr} {m:Str->Option Value},s₁.heap.Ns b m->(fc s₁.heap H).Ns b m:=λ{b m} ⟨o,es,ep,e,d,r⟩=>⟨o,es,ep,iq e<|sw e d,d,r⟩;have K1:K.In (fc s₁.heap H):=λb o e=>iq (KX b o e)<|by
   cases q:H b with
   | none=>rfl
   | some u=>
    have e':b=a:=hA b (by rw [q];simp);subst e';rw [hK<|by rw [q];simp] at e;cases e
  have hM:Mod K mg (fc s₁.heap H):=⟨K1,wq wo,⟨mb,wq hb,UC⟩,let ⟨mc,h1,h2⟩:=zS;⟨mc,wq h1,h2⟩⟩;have e0:kQ P w K mg (fc s₁.heap H) callerA [] s₁ H:=⟨rfl,hM,λb o e=>Sg e,Nat.le_of_eq<|Se _ _,trivial,λb hb=>absurd (show b∈([]:List Addr) from hb) (by simp),aA,.of_eq hg⟩;refine HY ((F _ K1<|wq wo).run callerA [] s₁ H ⟨[.ref a],[]⟩ [.ref a] [.ref a] _ _ hr e0 (sQ s₁<|.ref a) (.cons rfl .nil)<|d6 H hO hS) λr s' h=>?_;cases r with
  | error e=>exact(zT H e s' h).elim
  | ok fl=>
   cases fl with
   | next=>exact False.elim h
   | brk=>exact False.elim h
   | cont=>exact False.elim h
   | ret u=>
    obtain⟨v,H',os,bare,un,zV,r',q⟩:=h;have q':v = .bl true:=q;subst q';obtain rfl:u=Value.bool true:=r';refine⟨rfl,OldK.of_keep λb o e=>?_,os,bare⟩;cases q:H b with
    | none=>exact un.keep b o e q (by intro z;exact absurd (show b∈([]:List Addr) from z)<|by simp)<|by simp
    | some u=>
     rcases hO b with z | ⟨ob,xs,z⟩
     ·rw [q] at z;cases z
     ·have z2:=un.dn b ob _ z;obtain⟨e1,_⟩:=aA b _ z;obtain⟨e2,_⟩:=zV b _ z2;rw [e] at e1;cases e1;exact e2
 cases hk:K.lookup a with
 | some o=>
  have e:=KX a o hk;rw [ha] at e;cases e;refine core (λ_=>none) (λ_=> .inl rfl) (.inr ⟨_,vs.toArray,_,hk,rfl,rfl,rfl,by rw [Au,zU];exact hl,by simpa using rv⟩) (λb u z=>by have z':(none:Option HO)=some u:=z;cases z') (λb z=>absurd rfl z) λz=>absurd rfl z
 | none=>
  refine core (λb=>if b=a then some (.cJ {cls:= .type "list",data:= .seq vs.toArray}<|.lst<|ns.map V.int) else none) (λb=>?_) (.inl<|.inr ⟨{cls:= .type "list",data:= .seq vs.toArray},BR rfl⟩) (λb u z=>?_) (λb z=>?_) λ_=>hk
  ·by_cases hb:b=a
   ·exact .inr ⟨_,_,BR hb⟩
   ·exact .inl<|BK hb
  ·by_cases hb:b=a
   ·have z':=(BR hb).symm.trans z;cases z';subst hb;exact⟨ha,by rw [Aa];exact hl,vs,_,rv,ha⟩
   ·have z':=(BK hb).symm.trans z;cases z'
  ·by_cases hb:b=a
   ·exact hb
   ·exact absurd (BK hb) z
theorem kX{l:PySem.W.OpenLaw}{n k:Nat}{q:Program}{loose:List Str}{XP:(Str->Option Value)->Heap->Prop}{YP:World->Heap->Prop}{d:DefRec}{K:Params->PySem.W.Frag}{CX:World->fU}{sp:World->Sp}{x:Str}
  (hn:l.most=some n) (UD:n<=sizeLine) (sO:d.params.defaults=[]) (hr:bj k callerA)
  (hY:∀(w:World) (h:Heap),YP w h->(K w.params).In h)
  (F : ∀ (w : World) (mg : Str → Option Value) (fa : Addr) (h : Heap), (K w.params).In h → h.Ns mainGlobals mg → mg d.name = some (.ref fa) →
   ∃ fd:FuncData,(∀(s:Shared) (u:Value),BindsTo s fd ⟨[u],[]⟩ [(x,u)]) /\
    ∀ base:Heap,(K w.params).In base->base.Ns mainGlobals mg->aD l.prog w (K w.params) mg base (CX w) k fa fd [x] (sp w))
  (d6:∀(w:World) (H:Hp) (a:Addr) (ns:List Int),ns.length<=n->Only H->al (K w.params) H a (ns.map V.int)->sp w [.ref a] H (λv _=>v = .bl true) λ_ _ _=>False)
  (zT:∀(w:World) (H:Hp) (s:Shared) (e:Value) (s':Shared),CX w [] H s (λ_ _ _=>False) e s'->False) :
  PySem.W.WalkO q loose XP YP l.row.toRowW d [] (λf vs=>PySem.call f vs):=by
 refine KW.f9 hn sO λw s₀ s₁ mg mb fa o pm cd doc a vs ns G Y ho hd ii sP jC hints hlen hg=>?_;have KX:=hY w _ Y;obtain⟨fd,hb,hF⟩:=F w mg fa _ KX G.T.g sP;exact UB KX G.T.g G.T.b G.T.builtins G.T.nolimit hg jC hints (Cr hlen UD) hr hF hb (λH hO hS=>d6 w H a ns hlen hO hS) λH e s'=>zT w H s₁ e s'
def mC(s:Stmt):Arguments:=match s with
 | .FunctionDef _ a _ _ _ _ _ _ _ _=>a
 | _=>{posonlyargs:=[],args:=[],vararg:=none,kwonlyargs:=[],kw_defaults:=[],kwarg:=none,defaults:=[]}
def jg(s:Stmt):List Stmt:=match s with
 | .FunctionDef _ _ b _ _ _ _ _ _ _=>b
 | _=>[]
def aW(s:Stmt):Scope:=match s with
 | .FunctionDef _ _ _ _ _ _ sc _ _ _=>sc
 | _=>{kind:= .function,names:=[],isGenerator:=false,isCoroutine:=false}
abbrev bP:fU:=λ_ _ _ _ _ _=>False
abbrev E0:XK:=λ_ _ _=>False
theorem UE{X:Cx}:qz bP X E0:=λ_ _ _ _ _ _ _ h=>h.elim
structure bM(K:PySem.W.Frag)(x qual:Str)(st:Stmt)(f:Addr)(fd:FuncData):Prop where
 ex:∃(oc:Value) (od:Option Addr) (kV doc pm:Value) (an:Option Addr) (bF ct:Value) (jz:Array<|Option Value),
  fd=PySem.W.fnOf x qual (mC st) (jg st) (aW st) .none kV doc pm an bF ct/\K.lookup f=some ⟨oc,od,.func fd,jz⟩/\PySem.W.codeIn K bF qual=true
 kp:PySem.W.keepIn K (.ref f)=true
section
variable{P:Program}{w:World}{K:PySem.W.Frag}{mg:Str->Option Value}{base:Heap}
theorem bM.ok{x qual:Str}{st:Stmt}{f:Addr}{fd:FuncData}{N ps:List Str}{k:Nat}{sp:Sp}(F:bM K x qual st f fd)(S:ao N ps<|aW st)(len:∀ vs H Q E,sp vs H Q E->vs.length=ps.length)
  (cY : ∀ (bF : Value) (A : Around) (outer : List Env) (s : Shared) (H : Hp) (vs : List V) (Q : VK) (E : XK), bj k (A.deeper<|envOfC qual (aW st) s.heap.objs.size f bF) → sp vs H Q E →
   ∃ t,iN (eJ bP P w K mg base N qual (aW st) f bF A outer s H E).qo (jg st) t/\t {nx:=λ_ H'=>Q .non H',rt:=Q} (start N vs) H):aD P w K mg base bP (k+1) f fd ps sp:=by
 obtain⟨oc,od,kV,doc,pm,an,bF,ct,jz,rfl,lk,ii⟩:=F.ex;refine Kv lk ii S len λA outer s H vs Q E hr d6=>?_;obtain⟨t,h,q⟩:=cY bF A outer s H vs Q E hr d6;exact⟨t,h.qo,q⟩
theorem bM.binds{x qual:Str}{st:Stmt}{f:Addr}{fd:FuncData}{ps:List Str}(F:bM K x qual st f fd)
  (h:∀(kV doc pm:Value) (an:Option Addr) (bF ct:Value) (us:List Value),us.length=ps.length->bindArgs (PySem.W.fnOf x qual (mC st) (jg st) (aW st) .none kV doc pm an bF ct) ⟨us,[]⟩=pure (ps.zip us)):Binds K fd ps []:=by
 obtain⟨oc,od,kV,doc,pm,an,bF,ct,jz,rfl,lk,ii⟩:=F.ex;exact .all<|h kV doc pm an bF ct
theorem UH{x qual:Str}{st:Stmt}{f:Addr}{oc:Value}{od an:Option Addr}{jz:Array (Option Value)}{kV doc pm bF ct:Value}(l:K.lookup f=some ⟨oc,od,.func<|PySem.W.fnOf x qual (mC st) (jg st) (aW st) .none kV doc pm an bF ct,jz⟩)
  (c:PySem.W.codeIn K bF qual=true) (k:PySem.W.keepIn K (.ref f)=true):bM K x qual st f (PySem.W.fnOf x qual (mC st) (jg st) (aW st) .none kV doc pm an bF ct):=⟨⟨oc,od,kV,doc,pm,an,bF,ct,jz,rfl,l,c⟩,k⟩
end
section
variable{X:Cx}
end
theorem bp{A B:Prop}(h:B):if false=true then A else B:=by
 rw [BK At];exact h
theorem a9{A B:Prop}(h:A):if true=true then A else B:=by
 rw [BR rfl];exact h
theorem iS{c A B:Prop} [Decidable c] (h1:c->A) (h2:¬ c->B):if c then A else B:=by
 by_cases h:c
 ·rw [BR h];exact h1 h
 ·rw [BK h];exact h2 h
def aj(H H':Hp):Prop:=∀ b o,H b=some o->H' b=some o
theorem aj.refl(H:Hp):aj H H:=λ_ _ h=>h
theorem aj.trans{H H1 H2:Hp}(a:aj H H1)(b:aj H1 H2):aj H H2:=λc o h=>b c o<|a c o h
theorem aj.free{H H':Hp}(e:aj H H'){l:Addr}(h:H' l=Option.none):H l=Option.none:=by
 cases q:H l with
 | none=>rfl
 | some o=>
  rw [e l o q] at h;cases h
theorem aj.seq{K:PySem.W.Frag}{H H':Hp}{a:Addr}{xs:List V}(e:aj H H')(h:al K H a xs):al K H' a xs:=by
 rcases h with (h | ⟨o,h⟩) | h
 ·exact .inl<|.inl<|e _ _ h
 ·exact .inl<|.inr ⟨o,e _ _ h⟩
 ·exact .inr h
section
variable{κ:Type} [DecidableEq κ]
def aB(kvs:List<|κ×V)(k:κ):Option V:=(kvs.find? λkv=>decide (kv.1=k)).map (·.2)
def putK(kvs:List<|κ×V)(k:κ)(v:V):List (κ×V):=
 if(kvs.any λkv=>decide (kv.1=k))=true then kvs.map (λkv=>if kv.1=k then(kv.1,v) else kv) else kvs++[(k,v)]
theorem iu{p:κ×V}{r:List (κ×V)}{k:κ}(e:p.1=k):aB (p :: r) k=some p.2:=by simp [aB,Dz,e]
theorem gP{p:κ×V}{r:List (κ×V)}{k:κ}(e:¬ p.1=k):aB (p :: r) k=aB r k:=by simp [aB,Dz,e]
theorem qC(k:κ):∀ kvs:List<|κ×V,(kvs.any λkv=>decide (kv.1=k))=(aB kvs k).isSome
 | []=>rfl
 | p :: r=>by
  rw [Fi]
  by_cases e:p.1=k
  ·simp only [iu e,BW e,Bool.true_or,Option.isSome_some]
  ·rw [gP e,BX e,Bool.false_or];exact qC k r
theorem K2(k j:κ)(y:V):∀ kvs:List<|κ×V,aB (kvs.map λkv=>if kv.1=k then(kv.1,y) else kv) j=(aB kvs j).map λx=>if j=k then y else x
 | []=>rfl
 | p :: r=>by
  have ih:=K2 k j y r;rw [Bb]
  by_cases h:p.1=k
  ·rw [BR h]
   by_cases e:p.1=j
   ·rw [iu (p:=(p.1,y)) e,iu e,Gr,BR<|e.symm.trans h]
   ·rw [gP (p:=(p.1,y)) e,gP e,ih]
  ·rw [BK h]
   by_cases e:p.1=j
   ·rw [iu (p:=p) e,iu e,Gr,BK λz=>h<|e.trans z]
   ·rw [gP (p:=p) e,gP e,ih]
theorem K3(k j:κ)(y:V):∀ kvs:List<|κ×V,aB kvs k=none->aB (kvs++[(k,y)]) j=if j=k then some y else aB kvs j
 | [],_=>by
  by_cases e:k=j
  ·rw [BR e.symm];exact iu (p:=(k,y)) e
  ·rw [BK λz=>e z.symm];exact gP (p:=(k,y)) e
 | p :: r,hn=>by
  rw [Fa];have hk:¬ p.1=k:=λz=>by rw [iu z] at hn;cases hn
  rw [gP hk] at hn;have ih:=K3 k j y r hn
  by_cases e:p.1=j
  ·rw [iu e,iu e,BK λz=>hk<|e.trans z]
  ·rw [gP e,gP e,ih]
theorem d8(kvs:List<|κ×V)(k j:κ)(y:V):aB (putK kvs k y) j=if j=k then some y else aB kvs j:=by
 unfold putK
 by_cases a:(kvs.any λkv=>decide (kv.1=k))=true
 ·rw [BR a,K2];rw [qC] at a
  by_cases e:j=k
  ·obtain⟨x,hx⟩:=Ex.mp a;rw [BR e,e,hx,Gr,BR rfl]
  ·rw [BK e];cases aB kvs j with
   | none=>rfl
   | some x=>rw [Gr,BK e]
 ·rw [BK a];refine K3 k j y kvs ?_;rw [qC] at a;cases q:aB kvs k with
  | none=>rfl
  | some x=>rw [q] at a;exact(a rfl).elim
theorem jh(kvs:List<|κ×V)(k:κ)(v:V):(putK kvs k v).length<=kvs.length+1:=by
 unfold putK
 split
 ·rw [Aa];omega
 ·rw [Ae,Ao,Eb];omega
theorem K4{kvs:List (κ×V)}{k:κ}(v:V)(h:aB kvs k=none):putK kvs k v=kvs++[(k,v)]:=by
 unfold putK;rw [qC,h];exact BK<|by decide
theorem cT.b5{o:Option V}{u:Option Value}(r:cT o u):o.isSome=u.isSome:=by
 cases o with
 | none=>cases u with
  | none=>rfl
  | some _=>exact(show False from r).elim
 | some _=>cases u with
  | none=>exact(show False from r).elim
  | some _=>rfl
theorem cT.getD{o:Option V}{u:Option Value}{d:V}{d':Value}(r:cT o u)(rd:RelV d d'):RelV (o.getD d) (u.getD d'):=by
 cases o with
 | none=>cases u with
  | none=>exact rd
  | some _=>exact(show False from r).elim
 | some _=>cases u with
  | none=>exact(show False from r).elim
  | some _=>exact r
theorem KV.val{kvs:List (κ×V)}{vs:List (κ×Value)}(r:KV kvs vs)(k:κ):cT (aB kvs k) (valueAt vs k):=by
 unfold KV at r
 induction r with
 | nil=>exact True.intro
 | @cons p q ps qs h t ih=>
  obtain⟨h1,h2⟩:=h
  by_cases e:p.1=k
  ·have e':q.1=k:=h1.symm.trans e;have b:valueAt (q :: qs) k=some q.2:=by simp [valueAt,Dz,e']
   rw [iu e,b];exact h2
  ·have e':¬ q.1=k:=λz=>e<|h1.trans z;have b:valueAt (q :: qs) k=valueAt qs k:=by simp [valueAt,Dz,e']
   rw [gP e,b];exact ih
theorem KV.any{kvs:List (κ×V)}{vs:List (κ×Value)}(r:KV kvs vs)(k:κ):(kvs.any λkv=>decide (kv.1=k))=vs.any λkv=>decide (kv.1=k):=by
 unfold KV at r
 induction r with
 | nil=>rfl
 | cons h t ih=>rw [Fi,Fi,ih,h.1]
theorem KV.repl{kvs:List (κ×V)}{vs:List (κ×Value)}(r:KV kvs vs)(k:κ){y:V}{u:Value}(ry:RelV y u) :
  KV (kvs.map λkv=>if kv.1=k then(kv.1,y) else kv) (vs.map λkv=>if kv.1=k then(kv.1,u) else kv):=by
 unfold KV at r ⊢
 induction r with
 | nil=>exact .nil
 | @cons p q ps qs h t ih=>
  rw [Bb,Bb];refine .cons ?_ ih;obtain⟨h1,h2⟩:=h
  by_cases e:p.1=k
  ·rw [BR e,BR<|h1.symm.trans e];exact⟨h1,ry⟩
  ·rw [BK e,BK λz=>e<|h1.trans z];exact⟨h1,h2⟩
theorem KV.put{kvs:List (κ×V)}{vs:List (κ×Value)}(r:KV kvs vs)(k:κ){y:V}{u:Value}(ry:RelV y u):KV (putK kvs k y) (stored vs k u):=by
 unfold putK stored;rw [r.any k]
 by_cases e:(vs.any λkv=>decide (kv.1=k))=true
 ·rw [BR e,BR e];exact r.repl k ry
 ·rw [BK e,BK e];exact Paired.snoc r ⟨rfl,ry⟩
theorem KV.length{kvs:List (κ×V)}{vs:List (κ×Value)}(r:KV kvs vs):kvs.length=vs.length:=Paired.length r
end
theorem mD{P:Program}{w:World}{k:Key}{u:Value}(r:RelV (kV k) u):(bR P w).is k u=true:=by
 cases k with
 | inl i=>obtain⟨t,e⟩:=(show ∃ t,u=Value.int i t from r);subst e;exact R9 P w i t
 | inr x=>obtain⟨t,e⟩:=(show ∃ t,u=Value.str x t from r);subst e;exact Sb P w x t
theorem K5{P:Program}{w:World}:∀{ks:List Key} {us:List Value},av (ks.map kV) us->ItemsAre (bR P w) ks us
 | [],_,r=>by rw [List.map_nil] at r;cases r;exact .nil
 | k :: ks,_,r=>by
  rw [Bb] at r;cases r with
  | cons h t=>exact .cons (mD h)<|K5 t
abbrev KT(H:Hp):List (List Key×V)->List (List Key×Addr×Value)->Prop:=Paired λp q=>p.1=q.1/\H q.2.1=some (.tup<|p.1.map kV)/\RelV p.2 q.2.2
theorem KT.val{H:Hp}{kvs:List (List Key×V)}{xs:List (List Key×Addr×Value)}(r:KT H kvs xs)(k:List Key):cT (aB kvs k) ((atKey xs k).map (·.2)):=by
 induction r with
 | nil=>exact True.intro
 | @cons p q ps qs h t ih=>
  obtain⟨h1,_,h2⟩:=h
  by_cases e:p.1=k
  ·have e':q.1=k:=h1.symm.trans e;have b:atKey (q :: qs) k=some q.2:=by simp [atKey,Dz,e']
   rw [iu e,b];exact h2
  ·have e':¬ q.1=k:=λz=>e<|h1.trans z;have b:atKey (q :: qs) k=atKey qs k:=by simp [atKey,Dz,e']
   rw [gP e,b];exact ih
theorem KT.repl{H:Hp}{kvs:List (List Key×V)}{xs:List (List Key×Addr×Value)}(r:KT H kvs xs)(k:List Key){y:V}{u:Value}(ry:RelV y u) :
  KT H (kvs.map λkv=>if kv.1=k then(kv.1,y) else kv) (xs.map<|putAt k u):=by
 induction r with
 | nil=>exact .nil
 | @cons p q ps qs h t ih=>
  rw [Bb,Bb];refine .cons ?_ ih;obtain⟨h1,h2,h3⟩:=h;unfold putAt
  by_cases e:p.1=k
  ·rw [BR e,BR<|h1.symm.trans e];exact⟨h1,h2,ry⟩
  ·rw [BK e,BK λz=>e<|h1.trans z];exact⟨h1,h2,h3⟩
theorem KT.put{H:Hp}{kvs:List (List Key×V)}{xs:List (List Key×Addr×Value)}(r:KT H kvs xs)(k:List Key){b:Addr}{y:V}{u:Value}(hb:H b=some (.tup<|k.map kV))(ry:RelV y u) :
  KT H (putK kvs k y) (storedH xs k b u):=by
 have e:(kvs.any λkv=>decide (kv.1=k))=(atKey xs k).isSome:=by
  rw [qC,(r.val k).b5,QT]
 unfold putK storedH;rw [e]
 by_cases q:(atKey xs k).isSome=true
 ·rw [BR q,BR q];exact r.repl k ry
 ·rw [BK q,BK q];exact Paired.snoc r ⟨rfl,hb,ry⟩
theorem KT.keeps{H H':Hp}{kvs:List (List Key×V)}{xs:List (List Key×Addr×Value)}(r:KT H kvs xs)(ht:∀ b ys,H b=some (.tup ys)->H' b=some (.tup ys)):KT H' kvs xs:=
 Paired.nI r λ_ _ z=>⟨z.1,ht _ _ z.2.1,z.2.2⟩
section
variable{P:Program}{w:World}{H:Hp}{h:Heap}{a:Addr}
theorem K6{u:HO}(ok:b7 P w H h)(e:Rd H a u):ax P w H h a u:=e.ok ok
theorem qD{kvs:List (Key×V)}(ok:b7 P w H h)(e:Rd H a<|.dK kvs):kvs.length<=sizeLine/\(a == sysModules)=false/\∃ vs,KV kvs vs/\h.DictOf (bR P w) a vs:=
 show ax P w H h a (.dK kvs) from K6 ok e
theorem zW{kvs:List (Key×V)}(ok:b7 P w H h)(e:H a=some (.dK kvs)):kvs.length<=sizeLine/\(a == sysModules)=false/\∃ vs,KV kvs vs/\h.DictOf (bR P w) a vs:=qD ok<|.inl e
theorem ka{ks:List Key}(ok:b7 P w H h)(e:H a=some (.tup<|ks.map kV)):(tupleKind<|bR P w).is h ks a:=by
 obtain⟨_,its,r,o,h1,h2,n,h3⟩:=(show ax P w H h a (.tup<|ks.map kV) from ok a _ e);exact⟨o,its.toArray,n,h1,h2,h3,by simpa using K5 r⟩
theorem sR{kvs:List (List Key×V)}(ok:b7 P w H h)(e:Rd H a<|.dT kvs):kvs.length<=sizeLine/\(a == sysModules)=false /\
  ∃ xs,KT H kvs xs/\h.DictOfH (tupleKind<|bR P w) a xs:=by
 obtain⟨z,y,xs,r,o,es,ep,h1,h2,h3,h4,h5⟩:=(show ax P w H h a (.dT kvs) from K6 ok e);refine⟨z,y,xs,r,o,es,ep,h1,h2,h3,h4,λx hx=>?_,h5⟩;have all:∀{l:List (List Key×V)} {m:List (List Key×Addr×Value)},KT H l m->∀ x∈m,(tupleKind<|bR P w).is h x.1 x.2.1:=by
  intro l m q
  induction q with
  | nil=>intro x hx;exact nomatch hx
  | @cons p q ps qs hq t ih=>
   intro x hx
   rcases Ai.mp hx with e | hx
   ·subst e;exact ka ok<|by rw [<- hq.1];exact hq.2.1
   ·exact ih x hx
 exact all r x hx
theorem K7{kvs:List (List Key×V)}(ok:b7 P w H h)(e:H a=some (.dT kvs)):kvs.length<=sizeLine/\(a == sysModules)=false /\
  ∃ xs,KT H kvs xs/\h.DictOfH (tupleKind<|bR P w) a xs:=sR ok<|.inl e
end
def bD(H:Hp)(a:Addr)(y:V)(r:Option V):Prop:=
 (∃ kvs k,Rd H a (.dK kvs)/\y=kV k/\r=aB kvs k)\/∃ kvs k b,Rd H a (.dT kvs)/\y = .ref b/\H b=some (.tup<|k.map kV)/\r=aB kvs k
def cw(H:Hp)(a:Addr)(y v:V)(H':Hp):Prop:=
 (∃ kvs k,H a=some (.dK kvs)/\y=kV k/\kvs.length < sizeLine/\H'=upd H a (.dK<|putK kvs k v)) \/
 ∃ kvs k b,H a=some (.dT kvs)/\y = .ref b/\H b=some (.tup<|k.map kV)/\kvs.length < sizeLine/\H'=upd H a (.dT<|putK kvs k v)
theorem bD.k{H:Hp}{a:Addr}{kvs:List (Key×V)}{k:Key}(e:H a=some (.dK kvs)):bD H a (kV k) (aB kvs k):= .inl ⟨kvs,k,.inl e,rfl,rfl⟩
theorem bD.t{H:Hp}{a b:Addr}{kvs:List (List Key×V)}{k:List Key}(e:H a=some (.dT kvs))(eb:H b=some (.tup<|k.map kV)):bD H a (.ref b) (aB kvs k):= .inr ⟨kvs,k,b,.inl e,rfl,eb,rfl⟩
theorem cw.k{H:Hp}{a:Addr}{kvs:List (Key×V)}{k:Key}{v:V}(e:H a=some (.dK kvs))(hl:kvs.length < sizeLine):cw H a (kV k) v (upd H a<|.dK<|putK kvs k v):= .inl ⟨kvs,k,e,rfl,hl,rfl⟩
theorem cw.t{H:Hp}{a b:Addr}{kvs:List (List Key×V)}{k:List Key}{v:V}(e:H a=some (.dT kvs))(eb:H b=some (.tup<|k.map kV))(hl:kvs.length < sizeLine) :
  cw H a (.ref b) v (upd H a<|.dT<|putK kvs k v):= .inr ⟨kvs,k,b,e,rfl,eb,hl,rfl⟩
section
variable{X:Cx}{pins:List (Addr×Obj)}{σ:St}{H:Hp}{s:Shared}{a:Addr}{y v:V}{u r:Value}{o:Option V}{A:Around}{E:Value->Shared->Prop}
theorem Inv.big(I:Inv X pins σ H s):sysModules < s.heap.objs.size:=by
 have h:mainGlobals < s.heap.objs.size:=(I.mod.glob.keeps I.bk).lt;exact UG (by decide) h
theorem UI{Q:Value->Shared->Prop}(hu:A.units+1 < cLine)(I:Inv X pins σ H s)(g:bD H a y<|some v)(ry:RelV y u)(h:∀ w' s',Inv X pins σ H s'->RelV v w'->Q w' s') :
  wpAny (model X.prog X.w) A (getItem (.ref a) u) Q E s:=by
 rcases g with ⟨kvs,k,e,ey,l⟩ | ⟨kvs,k,b,e,ey,eb,l⟩
 ·subst ey;obtain⟨z,hd,vs,rel,dd⟩:=qD I.aA e;obtain⟨w',hw,d7⟩:=cT.some_of (v:=v) (o:=valueAt vs k) (by rw [l];exact rel.val k);exact wpAny_getItem_of (mD ry) dd.mapOf hw<|h w' _ (I.tok _) d7
 ·subst ey;cases (show u=Value.ref b from ry);obtain⟨z,hd,xs,rel,dd⟩:=sR I.aA e;obtain⟨w',hw,d7⟩:=cT.some_of (v:=v) (o:=(atKey xs k).map (·.2)) (by rw [l];exact rel.val k);obtain⟨p,hp,kY⟩:=Av.mp hw;refine wpAny_getItem_heap (FW hu) (ka I.aA eb) dd hp ?_;rw [kY];exact h w' _ (I.tok _) d7
theorem zX{Q:Value->Shared->Prop}(hu:A.units+1 < cLine)(I:Inv X pins σ H s)(g:bD H a y o)(ry:RelV y u)(h:∀ s',Inv X pins σ H s'->Q (.bool o.isSome) s') :
  wpAny (model X.prog X.w) A (compareOp .In u<|.ref a) Q E s:=by
 rcases g with ⟨kvs,k,e,ey,l⟩ | ⟨kvs,k,b,e,ey,eb,l⟩
 ·subst ey;obtain⟨z,hd,vs,rel,dd⟩:=qD I.aA e;refine wpAny_in_of (mD ry) hd dd.mapOf ?_;rw [<- (rel.val k).b5,<- l];exact h _<|I.tok _
 ·subst ey;cases (show u=Value.ref b from ry);obtain⟨z,hd,xs,rel,dd⟩:=sR I.aA e;refine wpAny_in_heap (FW hu) (ka I.aA eb) hd dd ?_;have q:=(rel.val k).b5;rw [QT] at q;rw [<- q,<- l];exact h _<|I.tok _
theorem UK{Q:Value->Shared->Prop}(hu:A.units+1 < cLine)(I:Inv X pins σ H s)(g:bD H a y o)(ry:RelV y u)(h:∀ s',Inv X pins σ H s'->Q (.bool (!o.isSome)) s') :
  wpAny (model X.prog X.w) A (compareOp .NotIn u<|.ref a) Q E s:=by
 rcases g with ⟨kvs,k,e,ey,l⟩ | ⟨kvs,k,b,e,ey,eb,l⟩
 ·subst ey;obtain⟨z,hd,vs,rel,dd⟩:=qD I.aA e;refine wpAny_notIn_of (mD ry) hd dd.mapOf ?_;rw [<- (rel.val k).b5,<- l];exact h _<|I.tok _
 ·subst ey;cases (show u=Value.ref b from ry);obtain⟨z,hd,xs,rel,dd⟩:=sR I.aA e;refine wpAny_notIn_heap (FW hu) (ka I.aA eb) hd dd ?_;have q:=(rel.val k).b5;rw [QT] at q;rw [<- q,<- l];exact h _<|I.tok _
theorem kZ{h':Heap}{t':Nat}{ob:HO}(I:Inv X pins σ H s)(mu:rQ<|H a)(hs:Heap.SameBut a s.heap h')(he:∃ q,h'.get? a=some q)(new:ax X.prog X.w (upd H a ob) h' a ob) :
  Inv X pins σ (upd H a ob) {s with heap:=h',toks:=t'}:=
 I.write (x:=a) (e:=a) mu (.inl rfl) (λb q hb z=>(hs.2 b hb).trans z) he new
theorem zY{P:Program}{w:World}{H':Hp}{h':Heap}{kvs:List (Key×V)}{vs:List (Key×Value)}(z:kvs.length<=sizeLine)(hd:(a == sysModules)=false)(rel:KV kvs vs)(dd:h'.DictOf (bR P w) a vs) :
  ax P w H' h' a (.dK kvs):=⟨z,hd,vs,rel,dd⟩
theorem UL{H':Hp}{Q:Unit->Shared->Prop}(hu:A.units+1 < cLine)(I:Inv X pins σ H s)(g:cw H a y v H')(ry:RelV y u)(rv:RelV v r)(h:∀ s',Inv X pins σ H' s'->Q () s') :
  wpAny (model X.prog X.w) A (setItem (.ref a) u r) Q E s:=by
 rcases g with ⟨kvs,k,e,ey,l,eH⟩ | ⟨kvs,k,b,e,ey,eb,l,eH⟩
 ·subst ey eH;obtain⟨z,hd,vs,rel,dd⟩:=zW I.aA e;have hz:vs.length<=sizeLine:=by rw [<- rel.length];exact z
  have hl:(putK kvs k v).length<=sizeLine:=by have:=jh kvs k v;omega
  refine wpAny_setItem_pairs (hsz:=hz) (mD ry) dd λh' gQ hs=>h _ ?_;have he:∃ q,h'.get? a=some q:=let ⟨q,_,_,hq,_⟩:=gQ;⟨q,hq⟩
  exact kZ I (by rw [e];exact True.intro) hs he<|zY hl hd (rel.put k rv) gQ
 ·subst ey eH;cases (show u=Value.ref b from ry);obtain⟨z,hd,xs,rel,dd⟩:=K7 I.aA e;have hz:xs.length<=sizeLine:=by rw [<- Paired.length rel];exact z
  have hl:(putK kvs k v).length<=sizeLine:=by have:=jh kvs k v;omega
  refine wpAny_setItem_heap (hsz:=hz) (FW hu) (ka I.aA eb) dd λh' gQ hs=>h _ ?_;obtain⟨q,es,ep,hq,h2,h3,h4,_,h5⟩:=gQ;refine kZ I (by rw [e];exact True.intro) hs ⟨q,hq⟩ ⟨hl,hd,_,(rel.put k eb rv).keeps λc ys ec=>?_,q,es,ep,hq,h2,h3,h4,h5⟩;rw [aq<|bN ec e λz=>nomatch z];exact ec
end
section
variable{X:Cx}{pins:List (Addr×Obj)}{σ:St}{H:Hp}{s:Shared}{a:Addr}{kvs:List (Key×V)}{k:Key}{u:Value}{A:Around}{E:Value->Shared->Prop}
theorem UM{Q:Value->Shared->Prop}(I:Inv X pins σ H s)(e:Rd H a<|.dK kvs)(h:∀ t s',Inv X pins σ H s'->Q (.int kvs.length t) s'):wpAny (model X.prog X.w) A (call (.builtin "len") [.ref a]) Q E s:=by
 obtain⟨z,hd,vs,rel,dd⟩:=qD I.aA e;refine call_len_dict hd dd (by rw [<- rel.length];rw [EY] at z;omega) ?_;rw [<- rel.length];exact h _ _<|I.tok _
end
def nZ(i:Expr):Prop:=∀ ov iv,subscripted i false ov iv=operate [ov,iv] (getItem ov iv)
theorem UN{prog:Program}{w:World}{A:Around}{E:Value->Shared->Prop}{s:Shared}{env:Env}{value slice:Expr}{pos:Pos}{T id:String}{Q:Value->Shared->Prop}
  (hl:typeLookup (.type T) "__getitem__" = pure (some<|.builtin id)) (hs:nZ slice)
  (h:wpAny (model prog w) A (eval value env) (λo s₁=>wpAny (model prog w) A (eval slice env) (λi s₂=>s₂.TypeIs o T/\wpAny (model prog w) A (getItem o i) Q E s₂) E s₁) E s) :
  wpAny (model prog w) A (eval (.Subscript value slice pos) env) Q E s:=by
 refine Subscript_<|CW h (λo s₁ h₁=>CW h₁ (λi s₂ h₂=>?_) λ_ _ x=>x) λ_ _ x=>x;obtain⟨hT,h₂⟩:=h₂;unfold subscriptTail;refine BJ ?_;rw [getitemInPython_of_ne hT.not_modules];refine BJ<|PJ hT hl ?_;have fin:wpAny (model prog w) A (subscripted slice false o i) (λr s₃=>wpAny (model prog w) A (letTemporaryGo value o r >>= λ_=>pure r) Q E s₃) E s₂:=by
  rw [hs o i];exact wpAny_operating<|CW h₂ (λr s₃ h₃=>BJ<|wpAny_letTemporaryGo<|BL h₃) λ_ _ x=>x
 first
  | exact BL<|BJ fin
  | exact BJ<|BL<|BJ fin
  | exact BJ fin
theorem UO{X:Cx}{pins:List (Addr×Obj)}{σ:St}{H:Hp}{s:Shared}{a:Addr}{y:V}{o:Option V}(I:Inv X pins σ H s)(g:bD H a y o):s.TypeIs (.ref a) "dict":=by
 rcases g with ⟨kvs,k,e,_,_⟩ | ⟨kvs,k,b,e,_,_,_⟩
 ·obtain⟨_,_,vs,_,dd⟩:=qD I.aA e;exact dd.typeIs
 ·obtain⟨_,_,xs,_,dd⟩:=sR I.aA e;exact dd.typeIs
def UP(td ty:TE):TE:=λσ H Q=>td σ H λx H1=>ty σ H1 λy H2=>∃ a v,x = .ref a/\bD H2 a y (some v)/\Q v H2
def zZ(ty td:TE):TE:=λσ H Q=>ty σ H λy H1=>td σ H1 λx H2=>∃ a o,x = .ref a/\bD H2 a y o/\Q (.bl o.isSome) H2
def UQ(ty td:TE):TE:=λσ H Q=>ty σ H λy H1=>td σ H1 λx H2=>∃ a o,x = .ref a/\bD H2 a y o/\Q (.bl (!o.isSome)) H2
def UR(td ty tv:TE):TS:=λD σ H=>tv σ H λv H1=>td σ H1 λx H2=>ty σ H2 λy H3=>∃ a H4,x = .ref a/\cw H3 a y v H4/\D.nx σ H4
section
variable{X:Cx}{o i e value:Expr}{pos pos' sk:Pos}{td ty tv:TE}
theorem UT(hu:X.A.units+1 < cLine)(ho:PE X o td)(hi:PE X i ty)(hs:nZ i):PE X (.Subscript o i pos) (UP td ty):=by
 intro pins s σ H Q I h;refine UN PySem.F.slot_dict_getitem.lookup hs<|aE (ho pins s σ H _ I h) λu s1 ⟨x,H1,I1,rx,q1⟩=>aE (hi pins s1 σ H1 _ I1 q1) λiv s2 ⟨y,H2,I2,ry,a,v,ex,g,q2⟩=>?_;subst ex;obtain rfl:u=Value.ref a:=rx;exact⟨UO I2 g,UI hu I2 g ry λw' s3 I3 d7=>⟨v,H2,I3,d7,q2⟩⟩
theorem UU(hu:X.A.units+1 < cLine)(hi:PE X i ty)(ho:PE X o td):PC X .In i o (zZ ty td):=by
 intro pins s σ H Q I h;refine aE (hi pins s σ H _ I h) λiv s1 ⟨y,H1,I1,ry,q1⟩=>aE (ho pins s1 σ H1 _ I1 q1) λu s2 ⟨x,H2,I2,rx,a,ov,ex,g,q2⟩=>?_;subst ex;obtain rfl:u=Value.ref a:=rx;exact zX hu I2 g ry λs3 I3=>⟨.bl ov.isSome,H2,I3,rfl,q2⟩
theorem UW(hu:X.A.units+1 < cLine)(hi:PE X i ty)(ho:PE X o td):PC X .NotIn i o (UQ ty td):=by
 intro pins s σ H Q I h;refine aE (hi pins s σ H _ I h) λiv s1 ⟨y,H1,I1,ry,q1⟩=>aE (ho pins s1 σ H1 _ I1 q1) λu s2 ⟨x,H2,I2,rx,a,ov,ex,g,q2⟩=>?_;subst ex;obtain rfl:u=Value.ref a:=rx;exact UK hu I2 g ry λs3 I3=>⟨.bl (!ov.isSome),H2,I3,rfl,q2⟩
theorem UX(hu:X.A.units+1 < cLine)(ho:PE X o td)(hi:PE X i ty)(hv:PE X value tv)(hs:swapsWith value (some<|.Subscript o i pos') pos.line X.env=pure false) :
  PS X (.Assign [.Subscript o i pos'] value pos) (UR td ty tv):=by
 intro pins s σ H D I h;refine wpAny_Assign_Subscript (aE (hv pins s σ H _ I h) λr s1 ⟨v,H1,I1,rv,q1⟩=>aE (ho pins s1 σ H1 _ I1 q1) λu s2 ⟨x,H2,I2,rx,q2⟩=>aE (hi pins s2 σ H2 _ I2 q2) λiv s3 ⟨y,H3,I3,ry,a,H4,ex,g,q3⟩=>?_) hs;subst ex;obtain rfl:u=Value.ref a:=rx;exact UL hu I3 g ry rv λs4 I4=>⟨σ,H4,I4,q3⟩
end
theorem z6{P:Program}{w:World}{H:Hp}(h:Heap)(hb:sysModules < h.objs.size):ax P w H (h.push {cls:= .type "dict",data:= .dict #[]}) h.objs.size (.dK []):=
 ⟨Bv _,beq_eq_false_iff_ne.mpr<|CJ<|Bp hb,[],.nil,Heap.DictOf.new h⟩
theorem K8{P:Program}{w:World}{H:Hp}(h:Heap)(hb:sysModules < h.objs.size):ax P w H (h.push {cls:= .type "dict",data:= .dict #[]}) h.objs.size (.dT []):=
 ⟨Bv _,beq_eq_false_iff_ne.mpr<|CJ<|Bp hb,[],.nil,_,#[],0,Ar _ rfl,⟨rfl,rfl,rfl⟩,rfl,rfl,Cd⟩
def UY:TE:=λ_ H Q=>∀ p,H p=none->Q (.ref p) (upd H p<|.dK [])
def UZ:TE:=λ_ H Q=>∀ p,H p=none->Q (.ref p) (upd H p<|.dT [])
section
variable{X:Cx}{pos:Pos}
theorem U0:PE X (.Dict [] [] pos) UY:=λpins s σ H Q I h=>
 wpAny_Dict_empty ⟨.ref s.heap.objs.size,_,I.laid (a:=s.heap.objs.size) (o:= .dK []) (t':=s.toks) (λ_ _ q=>Ah _ q) (Ak _)<|z6 s.heap I.big,rfl,h _<|I.aA.fresh<|Ak _⟩
theorem U1:PE X (.Dict [] [] pos) UZ:=λpins s σ H Q I h=>
 wpAny_Dict_empty ⟨.ref s.heap.objs.size,_,I.laid (a:=s.heap.objs.size) (o:= .dT []) (t':=s.toks) (λ_ _ q=>Ah _ q) (Ak _)<|K8 s.heap I.big,rfl,h _<|I.aA.fresh<|Ak _⟩
end
structure M2(X:Cx)(o:Expr)(m:Str)(apos:Pos)(e f:Expr)(cI:Pos):Prop where
 base:attributeBase o m X.env (eval o X.env)=eval o X.env
 few:((backTo cI<|starEach [e,f] X.env).all (λx=>!x.1) && (backToKw cI<|keywordEach [] X.env).all (λx=>x.1.isSome)
  && decide (([e,f]:List Expr).length+([]:List Keyword).length+(if([]:List Keyword).isEmpty then 0 else 1) < 30))=true
 line:(apos.endLine == cI.line)=true
 trees:backTo cI (starEach [e,f] X.env)=[(false,eval e X.env),(false,eval f X.env)]
section
variable{X:Cx}{pins:List (Addr×Obj)}{σ:St}{H:Hp}{s:Shared}{a:Addr}{y d:V}{u r:Value}{o:Option V}{A:Around}{E:Value->Shared->Prop}
end
section
variable{X:Cx}{o e f:Expr}{apos cI:Pos}{td ty tx:TE}
end
section
variable{X:Cx}{pins:List (Addr×Obj)}{σ:St}{H:Hp}{s:Shared}{a:Addr}{kvs:List (Key×V)}{A:Around}{E:Value->Shared->Prop}
end
section
variable{X:Cx}{pins:List (Addr×Obj)}{σ:St}{H:Hp}{s:Shared}{a:Addr}{y:V}{u:Value}{A:Around}{E:Value->Shared->Prop}
end
section
variable{X:Cx}
theorem U3:eI X (.builtin "len") (λxs H Q=>∃ a kvs,xs=[V.ref a]/\H a=some (.dK kvs)/\Q (.int kvs.length) H):=by
 intro pins s σ H xs us Q I r h;obtain⟨a,kvs,rfl,ha,q⟩:=h;obtain⟨u,rfl,ru⟩:=vals1 r;cases ru;exact UM I (.inl ha) λt s' I'=>⟨.int kvs.length,H,I',⟨t,rfl⟩,q⟩
end
section
variable{κ:Type} [DecidableEq κ]
theorem K9{kvs:List (κ×V)}{k:κ}{v:V}(h:aB kvs k=some v):k∈kvs.map (·.1):=by
 have q:(kvs.any λkv=>decide (kv.1=k))=true:=by
  rw [qC,h]
  all_goals rfl
 obtain⟨p,hp,e⟩:=List.any_eq_true.mp q;exact Al.mpr ⟨p,hp,BZ e⟩
theorem kd:∀{l:List κ} {k:κ},l.Nodup->¬ k∈l->(l++[k]).Nodup
 | [],k,_,_=>by simp
 | a :: r,k,h,hk=>by
  obtain⟨h1,h2⟩:=Bn.mp h;show(a :: (r++[k])).Nodup;refine Bn.mpr ⟨λm=>?_,kd h2 λm=>hk<|Ai.mpr<|Or.inr m⟩
  rcases An.mp m with q | q
  ·exact h1 q
  ·exact hk<|Ai.mpr<|Or.inl (Ag.mp q).symm
end
def n9(z:Str):It:=⟨λi _=>i < z.cps.size,λi H x H'=>H'=H/\∃ c,z.cps[i]?=some c/\x = .str ⟨#[c]⟩,λi _=>z.cps.size<=i⟩
theorem U4{P:Program}{w:World}{K:PySem.W.Frag}{tg:Expr}(it:Addr)(z:Str)(t:Tok):Turn P w K tg (n9 z) [it] it (λi h=>h.IsStrIter it "str_ascii_iterator" z t i) where
 mem:=by simp
 obj:=λi h st b hb=>by
  have e:b=it:=by simpa using hb
  subst e;obtain⟨o,e,c,d⟩:=st;exact⟨o,e,λv z=>by rw [d] at z;cases z⟩
 keep:=λi h h' st k=>let ⟨o,ho,r⟩:=st;⟨o,k it (by simp) o ho,r⟩
 item:=by
  intro X hP hw hK hc i pins s σ H E I hf st hg;subst hP hw hK;obtain⟨f0,f1,f2,f3,f4,f5⟩:=hf it (by simp);have hi:i < z.cps.size:=hg;refine wpAny_pyNext_ascii_item st (c:=z.cps[i]) (by simp [hi]) λh' cS gR=>?_;have I1:Inv X pins σ H {s with heap:=h',toks:=s.toks+1}:=I.turned (λb o hb e=>gR.extBut b o hb e) f0 f1 f3 f4 f5;obtain⟨o,e,c,d⟩:=id cS;exact⟨_,rfl,sd (s:={s with heap:=h',toks:=s.toks+1}) e c d (by decide) ⟨.str ⟨#[z.cps[i]]⟩,H,I1,⟨_,rfl⟩,⟨rfl,z.cps[i],by simp [hi],rfl⟩,cS,λb hb=>(hf b hb).1⟩⟩
 done:=by
  intro X hP hw hK hc i pins s σ H E I hf st hg;subst hP hw hK;obtain⟨f0,f1,f2,f3,f4,f5⟩:=hf it (by simp);have hi:z.cps.size<=i:=hg;exact wpAny_pyNext_ascii_end (I.ok.hd hc) st (by simp;exact hi) λh' eb=>⟨rfl,I.turned (t':=s.toks) (λb o hb e=>eb b o hb e) f0 f1 f3 f4 f5⟩
 self:=λ_ _ _ _ _ st h=>wpAny_pyIter_striter_ascii st h
theorem U5{P:Program}{w:World}{K:PySem.W.Frag}{tg:Expr}(it:Addr)(z:Str)(t:Tok):Turn P w K tg (n9 z) [it] it (λi h=>h.IsStrIter it "str_iterator" z t i) where
 mem:=by simp
 obj:=λi h st b hb=>by
  have e:b=it:=by simpa using hb
  subst e;obtain⟨o,e,c,d⟩:=st;exact⟨o,e,λv z=>by rw [d] at z;cases z⟩
 keep:=λi h h' st k=>let ⟨o,ho,r⟩:=st;⟨o,k it (by simp) o ho,r⟩
 item:=by
  intro X hP hw hK hc i pins s σ H E I hf st hg;subst hP hw hK;obtain⟨f0,f1,f2,f3,f4,f5⟩:=hf it (by simp);have hi:i < z.cps.size:=hg;refine wpAny_pyNext_wide_item st (c:=z.cps[i]) (by simp [hi]) λh' cS gR=>?_;have I1:Inv X pins σ H {s with heap:=h',toks:=s.toks+1}:=I.turned (λb o hb e=>gR.extBut b o hb e) f0 f1 f3 f4 f5;obtain⟨o,e,c,d⟩:=id cS;exact⟨_,rfl,sd (s:={s with heap:=h',toks:=s.toks+1}) e c d (by decide) ⟨.str ⟨#[z.cps[i]]⟩,H,I1,⟨_,rfl⟩,⟨rfl,z.cps[i],by simp [hi],rfl⟩,cS,λb hb=>(hf b hb).1⟩⟩
 done:=by
  intro X hP hw hK hc i pins s σ H E I hf st hg;subst hP hw hK;obtain⟨f0,f1,f2,f3,f4,f5⟩:=hf it (by simp);have hi:z.cps.size<=i:=hg;exact wpAny_pyNext_wide_end (I.ok.hd hc) st (by simp;exact hi) λh' eb=>⟨rfl,I.turned (t':=s.toks) (λb o hb e=>eb b o hb e) f0 f1 f3 f4 f5⟩
 self:=λ_ _ _ _ _ st h=>wpAny_pyIter_striter_wide st h
def z7(tl:TE):TI:=λσ H R=>tl σ H λx H1=>∃ z,x = .str z/\R (n9 z) H1
section
variable{X:Cx}{tg:Expr}
theorem U6{l:Expr}{tl:TE}(hl:PE X l tl):PI X tg l (z7 tl):=by
 intro pins s σ H R I h;refine aE (hl pins s σ H _ I h) λv s1 ⟨x,H1,I1,r1,q1⟩=>?_;obtain⟨z,e,q⟩:=q1;subst e;obtain⟨t,rfl⟩:=r1;have fp:∀ b∈[s1.heap.objs.size],ci X pins H1 b:=λb hb=>by
  have e:b=s1.heap.objs.size:=by simpa using hb
  subst e;exact I1.iP (Ak _)<|I1.aA.fresh<|Ak _
 cases ha:z.cps.all (· < 128)
 ·exact wpAny_pyIter_wide ha ⟨s1.heap.objs.size,[s1.heap.objs.size],_,_,H1,rfl,I1.kept (t':=s1.toks) λb o e=>Ah _ e,U5 _ z t,⟨_,Ar _ rfl,rfl,rfl⟩,fp,q⟩
 ·exact wpAny_pyIter_ascii ha ⟨s1.heap.objs.size,[s1.heap.objs.size],_,_,H1,rfl,I1.kept (t':=s1.toks) λb o e=>Ah _ e,U4 _ z t,⟨_,Ar _ rfl,rfl,rfl⟩,fp,q⟩
end
theorem q8n{z:Str}{g:TG}{tb:TS}{D:Ends}{σ:St}{H:Hp}(Pv:Nat->St->Hp->Prop)(h0:Pv 0 σ H)
  (hs:∀ i c σ H,z.cps[i]?=some c->Pv i σ H->g (.str ⟨#[c]⟩) σ H λσ2 H2=>tb {D with nx:=Pv<|i+1,ct:=Pv<|i+1,bk:=D.nx} σ2 H2) (hd:∀ σ H,Pv z.cps.size σ H->D.nx σ H) :
  ∃ W:Nat->Nat->St->Hp->Prop,(∃ m,W 0 m σ H)/\∀ i m σ H,W i m σ H ->
   ((n9 z).stop i H/\D.nx σ H)\/((n9 z).go i H/\∃ N:St->Hp->Prop,(∀ σ' H',N σ' H'->∃ m',m' < m/\W (i+1) m' σ' H')/\∀ x H',(n9 z).qt i H x H'->g x σ H' λσ2 H2=>tb {D with nx:=N,ct:=N,bk:=D.nx} σ2 H2):=by
 refine⟨λi m σ H=>m=z.cps.size - i/\i<=z.cps.size/\Pv i σ H,⟨z.cps.size,by simp,Bv _,h0⟩,?_⟩;rintro i m σ H ⟨rfl,hi,p⟩
 by_cases aO:i < z.cps.size
 ·refine .inr ⟨aO,Pv<|i+1,λσ' H' p'=>⟨z.cps.size - (i+1),by omega,rfl,aO,p'⟩,λx H' y=>?_⟩;obtain⟨e,c,hc,y⟩:=y;subst e y;exact hs i c σ _ hc p
 ·have e:i=z.cps.size:=by omega
  subst e;exact .inl ⟨Ak _,hd σ H p⟩
theorem K'{env:Env}:∀{names:List (Str×NameKind)} {x:Str} {k':NameKind},
  (names.map λ(n,k)=>if(k == NameKind.free && env.scope.kind == .function && env.kindOf n == some .cell) then(n,NameKind.cell) else(n,k)).lookup x=some k' ->
  ∃ k,names.lookup x=some k/\(k'=k\/(k = .free/\k' = .cell))
 | [],_,_,h=>by simp at h
 | (n,k) :: r,x,k',h=>by
  have ih:=@K' env r x k'
  change List.lookup x ((if(k == NameKind.free && env.scope.kind == .function && env.kindOf n == some .cell)=true then(n,NameKind.cell) else(n,k)) :: _)=_ at h
  cases hx:x == n with
  | true=>
   by_cases hc:(k == NameKind.free && env.scope.kind == .function && env.kindOf n == some .cell)=true
   ·rw [BR hc] at h;simp only [Dl,hx] at h;cases h;have hk:k = .free:=by
     have:=(Bk _ _ ▸ (Bk _ _ ▸ hc).1).1;cases k <;> first | rfl | (exact absurd this<|by decide)
    exact⟨k,by simp [Dl,hx],.inr ⟨hk,rfl⟩⟩
   ·rw [BK hc] at h;simp only [Dl,hx] at h;cases h;exact⟨k,by simp [Dl,hx],.inl rfl⟩
  | false=>
   have h2:∃ k,r.lookup x=some k/\(k'=k\/(k = .free/\k' = .cell)):=by
    by_cases hc:(k == NameKind.free && env.scope.kind == .function && env.kindOf n == some .cell)=true
    ·rw [BR hc] at h;simp only [Dl,hx] at h;exact ih h
    ·rw [BK hc] at h;simp only [Dl,hx] at h;exact ih h
   obtain⟨k2,e2,r2⟩:=h2;exact⟨k2,by simp [Dl,hx,e2],r2⟩
def cL(names:List<|Str×NameKind)(cells:List<|Str×Addr)(acc:List<|Str×Addr):List (Str×Addr):=
 names.foldl (λa x=>if x.2 == .free then(match cells.lookup x.1 with | some c=>(x.1,c) :: a | none=>a) else a) acc
theorem sS{scope:Scope}{env:Env}(h:∀ x∈scope.names,x.2 = .free->∃ c,env.cells.lookup x.1=some c):closureFor scope env=pure (cL scope.names env.cells []):=by
 have all:∀(l:List<|Str×NameKind) (acc:List<|Str×Addr),(∀ x∈l,x.2 = .free->∃ c,env.cells.lookup x.1=some c) ->
   (forIn l acc λ(x:Str×NameKind) (cs:List<|Str×Addr)=>(if x.2 == .free then(do let c <- cellOf env x.1;pure (ForInStep.yield<|(x.1,c) :: cs)) else pure (ForInStep.yield cs):Sem _))=pure (cL l env.cells acc):=by
  intro l
  induction l with
  | nil=>intro acc _;rfl
  | cons x r ih=>
   intro acc hl;rw [Ek];have hr:∀ y∈r,y.2 = .free->∃ c,env.cells.lookup y.1=some c:=λy hy=>hl y<|Aj _ hy;cases hk:x.2 == .free with
   | true=>
    have U7:x.2 = .free:=by
     revert hk
     cases x.2 <;> intro hk <;> first | rfl | (exact absurd hk<|by decide)
    obtain⟨c,hc⟩:=hl x Ad U7;simp only [DP,cellOf,hc];rw [show cL (x :: r) env.cells acc=cL r env.cells ((x.1,c) :: acc) by unfold cL;rw [Db];simp [hk,hc]];exact ih _ hr
   | false=>
    simp only [Ax,CQ];rw [show cL (x :: r) env.cells acc=cL r env.cells acc by unfold cL;rw [Db];simp [hk]];exact ih _ hr
 have q:=all scope.names [] h;simp only [closureFor];exact(CG (· >>= λr=>pure r) q).trans rfl
theorem z8:∀(names:List<|Str×NameKind) (cells acc:List<|Str×Addr),(∀ x c,(x,c)∈acc->cells.lookup x=some c)->∀ x c,(x,c)∈cL names cells acc->cells.lookup x=some c
 | [],_,_,h=>h
 | y :: r,cells,acc,h=>by
  have e:cL (y :: r) cells acc=cL r cells (if y.2 == .free then(match cells.lookup y.1 with | some c=>(y.1,c) :: acc | none=>acc) else acc):=rfl;rw [e];refine z8 r cells _ ?_;cases hk:y.2 == .free with
  | false=>simpa using h
  | true=>
   cases hc:cells.lookup y.1 with
   | none=>simpa using h
   | some c=>
    intro x d hx;simp only [DP] at hx
    rcases Ai.mp hx with e | hx
    ·cases e;exact hc
    ·exact h x d hx
theorem La:∀(names:List<|Str×NameKind) (cells acc:List<|Str×Addr) (x:Str) (c:Addr),(x,c)∈acc->(x,c)∈cL names cells acc
 | [],_,_,_,_,h=>h
 | y :: r,cells,acc,x,c,h=>by
  have e:cL (y :: r) cells acc=cL r cells (if y.2 == .free then(match cells.lookup y.1 with | some c=>(y.1,c) :: acc | none=>acc) else acc):=rfl;rw [e];refine La r cells _ x c ?_;cases hk:y.2 == .free with
  | false=>simpa using h
  | true=>
   cases hc:cells.lookup y.1 with
   | none=>simpa using h
   | some d=>simp only [DP];exact Aj _ h
theorem z9:∀(names:List<|Str×NameKind) (cells acc:List<|Str×Addr) (x:Str) (c:Addr),(x,NameKind.free)∈names->cells.lookup x=some c->(x,c)∈cL names cells acc
 | [],_,_,_,_,h,_=>by cases h
 | y :: r,cells,acc,x,c,h,hc=>by
  have e:cL (y :: r) cells acc=cL r cells (if y.2 == .free then(match cells.lookup y.1 with | some c=>(y.1,c) :: acc | none=>acc) else acc):=rfl;rw [e]
  rcases Ai.mp h with e2 | h
  ·subst e2;refine La r cells _ x c ?_;have:(NameKind.free == NameKind.free)=true:=rfl;simp only [hc,this,DP];exact Ad
  ·exact z9 r cells _ x c h hc
theorem AA{α:Type}:∀{l:List (Str×α)} {x:Str} {c:α},(x,c)∈l->∃ d,l.lookup x=some d
 | [],_,_,h=>by cases h
 | (n,d) :: r,x,c,h=>by
  cases hx:x == n with
  | true=>exact⟨d,by simp [Dl,hx]⟩
  | false=>
   rcases Ai.mp h with e | h
   ·cases e;simp at hx
   ·obtain⟨d',e⟩:=AA h;exact⟨d',by simp [Dl,hx,e]⟩
section
variable{prog:Program}{w:World}{A:Around}{R:Result->Shared->Prop}{s:Shared}
theorem k0c{elt target iter:Expr}{ifs:List Expr}{scope:Scope}{pos:Pos}{it acc:Value}{env:Env}(I:Nat->Shared->Prop)
  (turn : ∀ n s, I n s → wpAny (model prog w) A (pyNext it) (λr s₁ => match r with
   | none=>R (.ok .next) s₁
   | some v=>wpAny (model prog w) A (letOwnedTupleGo target it v) (λ_ s₁'=>wpAny (model prog w) A (assign target env v) (λ_ s₂=>
     wpAny (model prog w) A (forIn ifs true λc r=>if r=true then do let ok <- isTrue c env<|eval c env;pure (ForInStep.yield ok) else pure (ForInStep.yield r)) (λok s₃=>
      if ok=true then wpAny (model prog w) A (eval elt env) (λx s₄=>
       wpAny (model prog w) A (call (.builtin "list.append") [acc,x]) (λ_ s₅=>∃ m,m < n/\I m s₅) (notedBy (model prog w) A env λe s'=>R (.error e) s') s₄) (notedBy (model prog w) A env λe s'=>R (.error e) s') s₃
      else ∃ m,m < n/\I m s₃) (notedBy (model prog w) A env λe s'=>R (.error e) s') s₂) (notedBy (model prog w) A env λe s'=>R (.error e) s') s₁') (notedBy (model prog w) A env λe s'=>R (.error e) s') s₁) (notedBy (model prog w) A env λe s'=>R (.error e) s') s)
  (n:Nat) (h:I n s) :
  codeAny (model prog w) A (.compLoop (.ListComp elt [⟨target,iter,ifs,0⟩] scope pos) 0 it acc env) R s:=by
 refine codeAny_loop rfl I (λn s hI=>?_) n h;show wpAny _ A ((compTurn (.ListComp elt [⟨target,iter,ifs,0⟩] scope pos) 0 it acc env).onRaise λx=>do noteFrame x env;theTreesLotGoes x) _ _ s;refine wpAny_noted ?_;rw [compTurn_list];refine BJ<|FJ<|BJ<|CW (turn n s hI) (λr s₁ h₁=>?_) λ_ _ h'=>h';cases r with
 | none=>exact BL h₁
 | some v=>
  refine BJ<|CW h₁ (λ_ s₁' h₁'=>?_) λ_ _ h'=>h';refine BJ<|CW h₁' (λ_ s₂ h₂=>BJ<|CW h₂ (λok s₃ h₃=>?_) λ_ _ h'=>h') λ_ _ h'=>h';cases ok with
  | false=>exact BL ⟨rfl,h₃⟩
  | true=>
   exact BJ<|BJ<|CW h₃ (λx s₄ h₄=>BJ<|CW h₄ (λ_ s₅ h₅=>BL<|BL ⟨rfl,h₅⟩) λ_ _ h'=>h') λ_ _ h'=>h'
end
def U8(X:Cx)(ifs:List Expr)(t:TT):Prop:=
 ∀(pins:List<|Addr×Obj) (s:Shared) (σ:St) (H:Hp) (Q:Bool->Hp->Prop),Inv X pins σ H s->t σ H Q ->
  wpAny (model X.prog X.w) X.A (forIn ifs true λc r=>if r=true then do let ok <- isTrue c X.env<|eval c X.env;pure (ForInStep.yield ok) else pure (ForInStep.yield r)) (TP X pins σ Q) X.xe s
def AB:TT:=λ_ H Q=>Q true H
theorem U9{X:Cx}:U8 X [] AB:=λ_ _ _ H _ I h=>wpAny_tests_nil ⟨H,I,h⟩
def gH(X:Cx)(N':List Str)(scope:Scope)(cl:List<|Str×Addr)(C:Addr)(s₀:Shared)(H₀:Hp)(ex:List Addr):Cx:=
 {prog:=X.prog,w:=X.w,K:=X.K,mg:=X.mg,base:=X.base,A:=X.A,N:=N',s₀:=s₀,H₀:=H₀,env:=compEnvC scope cl C X.env,outer:=X.stack,stack:=X.stack,ex:=ex,fn:=λx=>match scope.names.lookup x with | some .cell=>true | _=>false,calm:=X.calm,pn:=[],xe:=λ_ _=>False}
theorem iT{α:Type}{t:Sem α}{Q Q':α->Shared->Prop}{M:Model}{A:Around}{E:Value->Shared->Prop}{s:Shared}(h:wpAny M A t Q (λ_ _=>False) s)(hQ:∀ a s,Q a s->Q' a s):wpAny M A t Q' E s:=CW h hQ λ_ _ z=>z.elim
section
variable{X:Cx}
theorem U':cV X (compareOp .Is) (λx y H Q=>∃ c d,x = .bl c/\y = .bl d/\Q (.bl<|c == d) H):=by
 intro pins s σ H x y v u Q I rx ry h;obtain⟨c,d,rfl,rfl,q⟩:=h;cases rx;cases ry;exact is_bool<|cK I q rfl
theorem Va:eI X (.builtin "isinstance") (λxs H Q=>∃ x t T b,xs=[x,.ty T]/\cW X.K H x t/\PySem.W.kitOne X.K t (.type T)=some b/\Q (.bl b) H):=by
 intro pins s σ H xs us Q I r h;obtain⟨x,t,T,b,rfl,ty,e,q⟩:=h;obtain⟨u,w',rfl,ru,d7⟩:=vals2 r;cases (show w'=Value.type T from d7);exact TL I ru ty e λtk=>⟨.bl b,H,I.tok tk,rfl,q⟩
theorem Lb:∀{bs:List Bool} {its:List Value},av (bs.map V.bl) its->its=bs.map Value.bool
 | [],_,r=>by cases r;rfl
 | b :: bs,_,r=>by
  cases r with
  | cons r1 r2=>
   cases (show _=Value.bool b from r1);rw [Lb r2,Bb]
theorem range_all(bs:List Bool):(List.range bs.length).all (λi=>bs.getD i true)=bs.all id:=by
 rw [Cp,Cq,Cq]
 constructor
 ·intro h x hx;obtain⟨i,hi,rfl⟩:=Dm.mp hx;have:=h i<|Bu.mpr hi
  simpa [Fm,hi] using this
 ·intro h i hi;have ji:=Bu.mp hi;have:=h bs[i]<|Cb ji
  simpa [Fm,ji] using this
theorem AF(hc:X.calm=true):eI X (.builtin "all") (λxs H Q=>∃(p:Addr) (bs:List Bool),xs=[.ref p]/\al X.K H p (bs.map V.bl)/\Q (.bl<|bs.all id) H):=by
 intro pins s σ H xs us Q I r h;obtain⟨p,bs,rfl,hp,q⟩:=h;obtain⟨u,rfl,ru⟩:=vals1 r;cases (show u=Value.ref p from ru);obtain⟨its,rv,pl,hz⟩:=I.list hp;have hits:=Lb rv;obtain⟨o,_,ho,_⟩:=id pl;have iR:p < s.heap.objs.size:=As ho;refine call_all_walk<|KZ pl.isList ⟨s.heap.objs.size,_,_,_,_,_,λi=>bs.getD i true,rfl,Walks.list (A:=X.A.in1) (show X.A.in1.handled=none from I.ok.hd hc) s.heap.objs.size p (Bp iR) its.toArray,
  ⟨⟨_,Ar _ rfl,rfl,rfl⟩,pl.isList.push _⟩,?_,λh' tk hk=>?_⟩
 ·intro i v s' Q' E' hv hQ;have sU:its[i]?=some v:=by simpa using hv
  rw [hits,Af] at sU;cases e:bs[i]? with
  | none=>rw [e] at sU;cases sU
  | some b=>
   rw [e] at sU;cases sU;refine GD ?_;have:bs.getD i true=b:=by rw [Fm,e];rfl
   have Lc:Q' (bs.getD i true) s':=hQ;rw [this] at Lc;exact Lc
 ·have e:its.toArray.size=bs.length:=by rw [Au,hits,Aa]
  rw [e,range_all];refine⟨.bl<|bs.all id,H,I.kept (t':=tk) λb o e=>hk b o ?_<|Ah _ e,rfl,q⟩;intro hb;have:b=s.heap.objs.size:=by simpa using hb
  exact absurd (As e)<|by rw [this];exact Ct _
theorem Ld:cV X (binaryOp .Mult) (λx y H Q=>∃ z i,x = .str z/\y = .int i/\0<=i/\i<=100000/\z.length * i.toNat<=100000/\Q (.str<|Txt.mul z i) H):=by
 intro pins s σ H x y v u Q I rx ry h;obtain⟨z,i,rfl,rfl,h0,h1,h2,q⟩:=h;obtain⟨t,rfl⟩:=rx;obtain⟨t',rfl⟩:=ry;have hsz:sizeLine=16777216:=EY;refine SB.mul ⟨?_,λh3 h4=>?_,λh3 h4=>?_⟩ λt' k=>⟨.str _,H,I.tok k,⟨_,rfl⟩,q⟩
 ·rw [BX (by omega),BX<|by omega];rfl
 ·have h5:(z.length:Int)<=100000:=by
   have h6:z.length * 1<=z.length * i.toNat:=Nat.mul_le_mul_left _ (by omega);omega
  have h7:(100000:Int)<=(2 ^ 63 - 1) / i:=by
   rw [Int.le_ediv_iff_mul_le<|by omega];have:(100000:Int) * i<=100000 * 100000:=Int.mul_le_mul_of_nonneg_left h1 (by decide);have e:(2:Int) ^ 63 - 1=9223372036854775807:=by decide
   omega
  omega
 ·unfold Builtin.Str.tooLong;rw [hsz];exact BX<|by omega
end
def isStar:Expr->Bool
 | .Starred _ _=>true
 | _=>false
def noStar(es:List Expr):Bool:=es.all λe=>!isStar e
theorem oa(e:Expr)(es:List Expr)(env:Env)(h:isStar e=false):starEach (e :: es) env=(false,eval e env) :: starEach es env:=by
 cases e <;> first | rfl | (exact absurd h<|by simp [isStar])
theorem wu(pos:Pos)(env:Env):∀ es:List Expr,noStar es=true->(backTo pos<|starEach es env).any (·.1)=false
 | [],_=>rfl
 | e :: es,h=>by
  have h':(!isStar e)=true/\noStar es=true:=by
   have:=h;unfold noStar at this ⊢;rw [Gz,Bk] at this;exact this
  have hs:isStar e=false:=by
   have:=h'.1;cases q:isStar e with
   | true=>rw [q] at this;cases this
   | false=>rfl
  rw [oa e es env hs];show(false || (backTo pos<|starEach es env).any (·.1))=false;rw [wu pos env es h'.2];rfl
theorem qE{e:Expr}{es:List Expr}(h:noStar (e :: es)=true):isStar e=false/\noStar es=true:=by
 unfold noStar at h ⊢;rw [Gz,Bk] at h;refine⟨?_,h.2⟩;cases q:isStar e with
 | true=>rw [q] at h;cases h.1
 | false=>rfl
section
variable{X:Cx}{CX:fU}{k:Nat}{f C:Addr}{fd:FuncData}{ps:List Str}{sp:Sp}{kR:List V}{ds:List Value}{E:XK}{x m:Str}{p pos apos:Pos}{e o:Expr}{es:List Expr}{ta te:TE}{t:TA}{id T:String}{r:List V->Hp->VK->Prop}
theorem Vb(ha:PE X e te)(hr:PA X es t)(hs:isStar e=false:=by rfl):PA X (e :: es) (Km te t):=TU ha hr<|oa _ _ _ hs
theorem Vc(F:aD X.prog X.w X.K X.mg X.base CX k f fd ps sp)(hr:bj k X.A)(hm:X.mg x=some (.ref f))(hk:PySem.W.keepIn X.K (.ref f)=true)(hb:Binds X.K fd ps [])(hx:qz CX X E)
  (ha:PA X (e :: es) t) (hg:Gl X x:=by rfl) (cX:(x == ("__debug__" : Str))=false:=by decide) (hs:noStar (e :: es)=true:=by rfl):PE X (.Call (.Name x p) (e :: es) [] pos) (Kn sp [] E t):=
 T5 F hr hg hm hk hb .nil hx ha cX (oa _ _ _ (qE hs).1) (wu _ _ _ (qE hs).2)
theorem AG(hc:eI X (.builtin id) r)(hm:X.mg x=none)(hv:bootBuiltins x=some (.builtin id))(ha:PA X (e :: es) t)(hg:Gl X x:=by rfl)(hn:x ≠ "__name__":=by decide)(cX:(x == ("__debug__" : Str))=false:=by decide)
  (hs:noStar (e :: es)=true:=by rfl):PE X (.Call (.Name x p) (e :: es) [] pos) (wn r t):=
 T8 hc hg hm hv ha hn cX (oa _ _ _ (qE hs).1) (wu _ _ _ (qE hs).2)
theorem AH(hc:eI X (.type T) r)(hm:X.mg x=none)(hv:bootBuiltins x=some (.type T))(ha:PA X (e :: es) t)(hg:Gl X x:=by rfl)(hn:x ≠ "__name__":=by decide)(cX:(x == ("__debug__" : Str))=false:=by decide)
  (hs:noStar (e :: es)=true:=by rfl):PE X (.Call (.Name x p) (e :: es) [] pos) (wn r t):=
 T9 hc hg hm hv ha hn cX (oa _ _ _ (qE hs).1) (wu _ _ _ (qE hs).2)
end
structure Ev(X:Cx)(e:Expr)(σ:St)(H:Hp)(Q:VK):Prop where
 run:∀(pins:List<|Addr×Obj) (s:Shared),Inv X pins σ H s->wpAny (model X.prog X.w) X.A (eval e X.env) (EP X pins σ Q) X.xe s
structure Et(X:Cx)(e:Expr)(σ:St)(H:Hp)(Q:Bool->Hp->Prop):Prop where
 run:∀(pins:List<|Addr×Obj) (s:Shared),Inv X pins σ H s->wpAny (model X.prog X.w) X.A (isTrue e X.env<|eval e X.env) (TP X pins σ Q) X.xe s
structure Ew(X:Cx)(e:Expr)(σ:St)(H:Hp)(Q:Bool->Hp->Prop):Prop where
 run:∀(whole:Sem Value) (pins:List<|Addr×Obj) (s:Shared),Inv X pins σ H s->wpAny (model X.prog X.w) X.A (isTrue e X.env whole) (TP X pins σ Q) X.xe s
structure Ea(X:Cx)(es:List Expr)(σ:St)(H:Hp)(Q:List V->Hp->Prop):Prop where
 run:∀(pos:Pos) (pins:List<|Addr×Obj) (s:Shared),Inv X pins σ H s->wpAny (model X.prog X.w) X.A (spliced<|backTo pos<|starEach es X.env) (AP X pins σ Q) X.xe s
structure Eo(X:Cx)(e:Option Expr)(σ:St)(H:Hp)(Q:Option Int->Hp->Prop):Prop where
 run:∀(pins:List<|Addr×Obj) (s:Shared),Inv X pins σ H s->wpAny (model X.prog X.w) X.A (evalPart e X.env) (λu s'=>∃ o H',Inv X pins σ H' s'/\IsPart u o/\Q o H') X.xe s
structure Eg(X:Cx)(e:Expr)(v:V)(σ:St)(H:Hp)(Q:St->Hp->Prop):Prop where
 run:∀(pins:List<|Addr×Obj) (s:Shared) (u:Value),Inv X pins σ H s->RelV v u->wpAny (model X.prog X.w) X.A (assign e X.env u) (λ_ s'=>∃ σ' H',Inv X pins σ' H' s'/\Q σ' H') X.xe s
structure Run(X:Cx)(l:List Stmt)(D:Ends)(σ:St)(H:Hp):Prop where
 run:∀(pins:List<|Addr×Obj) (s:Shared),Inv X pins σ H s->wpAny (model X.prog X.w) X.A (execs l X.env) (SP X pins D) X.xe s
def Ve(X:Cx)(e:Expr):TE:=λσ H Q=>Ev X e σ H Q
def Vf(X:Cx)(e:Expr):TT:=λσ H Q=>Et X e σ H Q
def Vg(X:Cx)(e:Expr):TT:=λσ H Q=>Ew X e σ H Q
def wv(X:Cx)(es:List Expr):TA:=λσ H Q=>Ea X es σ H Q
def Vh(X:Cx)(e:Option Expr):TO:=λσ H Q=>Eo X e σ H Q
def Vi(X:Cx)(e:Expr):TG:=λv σ H Q=>Eg X e v σ H Q
def AI(X:Cx)(l:List Stmt):TS:=λD σ H=>Run X l D σ H
section
variable{X:Cx}{e a b c o:Expr}{es:List Expr}{st:Stmt}{rest body ke:List Stmt}{σ:St}{H:Hp}{Q:VK}{T:Bool->Hp->Prop}{L:List V->Hp->Prop}{D:Ends}{pos p p2:Pos}
theorem bE:PE X e (Ve X e):=λpins s _ _ _ I h=>h.run pins s I
theorem oh:PT X e (Vf X e):=λpins s _ _ _ I h=>h.run pins s I
theorem Le:PW X e (Vg X e):=λwh pins s _ _ _ I h=>h.run wh pins s I
theorem jj:PA X es (wv X es):=λpos pins s _ _ _ I h=>h.run pos pins s I
theorem Lf{e:Option Expr}:PO X e (Vh X e):=λpins s _ _ _ I h=>h.run pins s I
theorem oj:PG X e (Vi X e):=λpins s _ _ _ u _ I r h=>h.run pins s u I r
theorem om{l:List Stmt}:iN X l (AI X l):=λpins s _ _ _ I h=>h.run pins s I
theorem dB{t:TE}(h1:PE X e t)(h2:t σ H Q):Ev X e σ H Q:=⟨λpins s I=>h1 pins s σ H Q I h2⟩
theorem qF{t:TT}(h1:PT X e t)(h2:t σ H T):Et X e σ H T:=⟨λpins s I=>h1 pins s σ H T I h2⟩
theorem wx{t:TT}(h1:PW X e t)(h2:t σ H T):Ew X e σ H T:=⟨λwh pins s I=>h1 wh pins s σ H T I h2⟩
theorem Lg{t:TA}(h1:PA X es t)(h2:t σ H L):Ea X es σ H L:=⟨λpos pins s I=>h1 pos pins s σ H L I h2⟩
theorem Lh{e:Option Expr}{t:TO}{R:Option Int->Hp->Prop}(h1:PO X e t)(h2:t σ H R):Eo X e σ H R:=⟨λpins s I=>h1 pins s σ H R I h2⟩
theorem wy{t:TG}{v:V}{R:St->Hp->Prop}(h1:PG X e t)(h2:t v σ H R):Eg X e v σ H R:=⟨λpins s u I r=>h1 pins s σ H v u R I r h2⟩
theorem jD{t:TS}(h1:PS X st t)(h2:t {D with nx:=λσ' H'=>Run X rest D σ' H'} σ H):Run X (st :: rest) D σ H:=⟨λpins s I=>SK h1 om pins s σ H D I h2⟩
theorem aH(h:D.nx σ H):Run X [] D σ H:=⟨λpins s I=>J1 pins s σ H D I h⟩
theorem Ev.mono{Q':VK}(h:Ev X e σ H Q)(f:∀ v H',Q v H'->Q' v H'):Ev X e σ H Q':=⟨λpins s I=>aE (h.run pins s I) λ_ _ ⟨v,H',I',r,q⟩=>⟨v,H',I',r,f v H' q⟩⟩
theorem Et.mono{T':Bool->Hp->Prop}(h:Et X e σ H T)(f:∀ v H',T v H'->T' v H'):Et X e σ H T':=⟨λpins s I=>aE (h.run pins s I) λv _ ⟨H',I',q⟩=>⟨H',I',f v H' q⟩⟩
theorem Ea.mono{L':List V->Hp->Prop}(h:Ea X es σ H L)(f:∀ v H',L v H'->L' v H'):Ea X es σ H L':=⟨λpos pins s I=>aE (h.run pos pins s I) λ_ _ ⟨v,H',I',r,q⟩=>⟨v,H',I',r,f v H' q⟩⟩
theorem ae(i:Nat){x:Str}{v:V}(h:Q v H)(hv:σ[i]?=some (some v):=by rfl)(hN:X.N[i]?=some x:=by rfl)(hs:yP X.env.scope x:=by first | exact Or.inl rfl | exact Or.inr (Or.inl rfl) | exact Or.inr<|Or.inr rfl)(hd:(x == ("__debug__" : Str))=false:=by decide)
  (ii:(x == ("__classdict__" : Str))=false:=by decide):Ev X (.Name x p) σ H Q:=dB (Si (i:=i) hN hs hd ii) ⟨v,hv,h⟩
theorem ay{i:Int}{j:Nat}(h:Q (.int i) H):Ev X (.Constant (.int i) j p) σ H Q:=dB (Sj) h
theorem fF{i:Bool}{j:Nat}(h:Q (.bl i) H):Ev X (.Constant (.bool i) j p) σ H Q:=dB (Sl) h
theorem cN{i:Str}{j:Nat}(h:Q (.str i) H):Ev X (.Constant (.str i) j p) σ H Q:=dB (Sn) h
theorem oq{x:Str}{v:V}{u:Value}(hm:X.mg x=some u)(r:RelV v u)(h:Q v H)(hg:Gl X x:=by rfl)(hd:(x == ("__debug__" : Str))=false:=by decide):Ev X (.Name x p) σ H Q:=dB (Sq hg hm r hd) h
theorem Li{x:Str}(v:V){u:Value}(hm:X.mg x=none)(hv:bootBuiltins x=some u)(r:RelV v u)(h:Q v H)(hg:Gl X x:=by rfl)(hn:x ≠ "__name__":=by decide)(hd:(x == ("__debug__" : Str))=false:=by decide):Ev X (.Name x p) σ H Q:=dB (Sr hg hm hv r hn hd) h
theorem aI{op:Operator}{r:R2}(ho:cV X (binaryOp op) r)(h:Ev X a σ H λx H1=>Ev X b σ H1 λy H2=>r x y H2 Q):Ev X (.BinOp a op b pos) σ H Q:=dB (Tj ho bE bE) h
theorem mE{op:CmpOp}{r:R2}(ho:cV X (compareOp op) r)(h:Ev X a σ H λx H1=>Ev X b σ H1 λy H2=>r x y H2 Q)(hm:behindInMarks op b=false:=by with_unfolding_all rfl):Ev X (.Compare a [op] [b] pos) σ H Q:=dB (Ts ho bE bE hm) h
theorem Vj(h:Ev X a σ H λx H1=>∃ k,x = .bl k/\if k=true then Ev X (.BoolOp .And (b :: es) pos) σ H1 Q else Q (.bl false) H1):Ev X (.BoolOp .And (a :: b :: es) pos) σ H Q:=dB (SG bE bE) h
theorem Vk{op:BoolOp}(h:Ev X a σ H Q):Ev X (.BoolOp op [a] pos) σ H Q:=dB (SF bE) h
theorem aS{r:R2}(hr:sD X r)(h:Ev X a σ H λx H1=>Ev X b σ H1 λy H2=>r x y H2 Q)(hs:Kw b:=by intro _ _;rfl):Ev X (.Subscript a b pos) σ H Q:=dB (Ui hr bE bE hs) h
theorem Lj{r:V->Option Int->Option Int->Hp->VK->Prop}{lo hi:Option Expr}(hr:zC X r)(h:Ev X a σ H λx H1=>Eo X lo σ H1 λl H2=>Eo X hi σ H2 λu H3=>r x l u H3 Q):Ev X (.Subscript a (.Slice lo hi none p2) pos) σ H Q:=dB (Ug hr bE Lf Lf) h
theorem Ln{R:Option Int->Hp->Prop}(h:R none H):Eo X none σ H R:=Lh (Uc) h
theorem Lq{R:Option Int->Hp->Prop}(h:Ev X a σ H λx H1=>∃ i,x = .int i/\R (some i) H1):Eo X (some a) σ H R:=Lh (Ud bE) h
theorem au(h:L [] H):Ea X [] σ H L:=Lg (TR) h
theorem ai(h:Ev X e σ H λx H1=>Ea X es σ H1 λxs H2=>L (x :: xs) H2)(hs:isStar e=false:=by rfl):Ea X (e :: es) σ H L:=Lg (Vb bE jj hs) h
theorem cM{k:Nat}(h:Ea X es σ H λxs H1=>xs.length<=sizeLine/\∀ p,H1 p=none->Q (.ref p) (upd H1 p<|.tup xs)):Ev X (.Tuple es k pos) σ H Q:=dB (T1 jj) h
theorem cO(h:Ea X es σ H λxs H1=>xs.length<=sizeLine/\∀ p,H1 p=none->Q (.ref p) (upd H1 p<|.lst xs)):Ev X (.List es pos) σ H Q:=dB (T2 jj) h
theorem Lr{CX:fU}{k:Nat}{f:Addr}{fd:FuncData}{ps:List Str}{sp:Sp}{E:XK}{x:Str}(F:aD X.prog X.w X.K X.mg X.base CX k f fd ps sp)(hr:bj k X.A)(hm:X.mg x=some (.ref f))(hk:PySem.W.keepIn X.K (.ref f)=true)(hb:Binds X.K fd ps [])(hx:qz CX X E)
  (h:Ea X (e :: es) σ H λvs H1=>sp vs H1 Q E) (hg:Gl X x:=by rfl) (cX:(x == ("__debug__" : Str))=false:=by decide) (hs:noStar (e :: es)=true:=by rfl):Ev X (.Call (.Name x p) (e :: es) [] pos) σ H Q:=
 dB (Vc F hr hm hk hb hx jj hg cX hs) (show Ea X (e :: es) σ H _ from h.mono λvs H1 q=>by rw [Bj];exact q)
theorem bJ{id:String}{r:List V->Hp->VK->Prop}{x:Str}(hc:eI X (.builtin id) r)(hm:X.mg x=none)(hv:bootBuiltins x=some (.builtin id))(h:Ea X (e :: es) σ H λvs H1=>r vs H1 Q)(hg:Gl X x:=by rfl)(hn:x ≠ "__name__":=by decide)(cX:(x == ("__debug__" : Str))=false:=by decide)
  (hs:noStar (e :: es)=true:=by rfl):Ev X (.Call (.Name x p) (e :: es) [] pos) σ H Q:=dB (AG hc hm hv jj hg hn cX hs) h
theorem sV{T:String}{r:List V->Hp->VK->Prop}{x:Str}(hc:eI X (.type T) r)(hm:X.mg x=none)(hv:bootBuiltins x=some (.type T))(h:Ea X (e :: es) σ H λvs H1=>r vs H1 Q)(hg:Gl X x:=by rfl)(hn:x ≠ "__name__":=by decide)(cX:(x == ("__debug__" : Str))=false:=by decide)
  (hs:noStar (e :: es)=true:=by rfl):Ev X (.Call (.Name x p) (e :: es) [] pos) σ H Q:=dB (AH hc hm hv jj hg hn cX hs) h
theorem bX{op:CmpOp}{r:R2}(ho:cV X (compareOp op) r)(h:Ev X a σ H λx H1=>Ev X b σ H1 λy H2=>r x y H2 λz H3=>∃ k,z = .bl k/\T k H3)(hm:behindInMarks op b=false:=by with_unfolding_all rfl):Et X (.Compare a [op] [b] pos) σ H T:=qF (Tx ho bE bE hm) h
theorem mF(h:Et X a σ H λk H1=>T (!k) H1):Et X (.UnaryOp .Not a pos) σ H T:=qF (SD oh) h
theorem ou(h:Ev X e σ H λx H1=>∃ k,x = .bl k/\T k H1)(he:∀ whole,isTrue e X.env whole=(do let v <- whole;standAt e.pos;holding [v] (truthy v)):=by intro _;rfl):Et X e σ H T:=qF (Sv bE he) h
theorem AJ(h:Ev X e σ H λx H1=>∃ k,nR X.K x H1 k/\T k H1)(he:∀ whole,isTrue e X.env whole=(do let v <- whole;standAt e.pos;holding [v] (truthy v)):=by intro _;rfl):Et X e σ H T:=qF (TC bE he) h
theorem iU(h:Ew X e σ H T):Et X e σ H T:=⟨λpins s I=>h.run _ pins s I⟩
theorem oz(h:Et X a σ H λk H1=>if k=true then Ew X (.BoolOp .And (b :: es) pos) σ H1 T else T false H1):Ew X (.BoolOp .And (a :: b :: es) pos) σ H T:=wx (Sz oh Le) h
theorem oA(h:Et X a σ H λk H1=>if k=true then T true H1 else Ew X (.BoolOp .Or (b :: es) pos) σ H1 T):Ew X (.BoolOp .Or (a :: b :: es) pos) σ H T:=wx (SA oh Le) h
theorem oB(h:Et X a σ H T):Ew X (.BoolOp .And [a] pos) σ H T:=wx (Sx oh) h
theorem qH(h:Et X a σ H T):Ew X (.BoolOp .Or [a] pos) σ H T:=wx (Sy oh) h
theorem bx(i:Nat){x:Str}{v:V}{R:St->Hp->Prop}(hN:X.N.Nodup)(h:R (σ.set i<|some v) H)(hi:X.N[i]?=some x:=by rfl)(hx:Loc X.env.scope x:=by first | exact Or.inl rfl | exact Or.inr rfl)(hf:X.fn x=true\/X.env.scope.names.lookup x=some .local:=by first | exact .inl rfl | exact .inr rfl | assumption):Eg X (.Name x p) v σ H R:=wy (SW hN hi hx hf) h
theorem aN(i:Nat){x:Str}{pos':Pos}(hN:X.N.Nodup)(h:Ev X e σ H λv H1=>Run X rest D (σ.set i<|some v) H1)(hi:X.N[i]?=some x:=by rfl)(hx:Loc X.env.scope x:=by first | exact Or.inl rfl | exact Or.inr rfl)(hs:swapsWith e (some<|.Name x pos') pos.line X.env=pure false:=by rfl)
  (hf:X.fn x=true\/X.env.scope.names.lookup x=some .local:=by first | exact .inl rfl | exact .inr rfl | assumption):Run X (.Assign [.Name x pos'] e pos :: rest) D σ H:=jD (S1 hN hi hx bE hs hf) h
theorem d9(h:Et X c σ H λk H1=>if k=true then Run X body {D with nx:=λσ' H'=>Run X rest D σ' H'} σ H1 else Run X ke {D with nx:=λσ' H'=>Run X rest D σ' H'} σ H1):Run X (.If c body ke pos :: rest) D σ H:=jD (SV oh om om) h
theorem Lv(φ ψ:Prop)(hc:∀ T:Bool->Hp->Prop,(∀ k:Bool,(k=true->φ)->(k=false->ψ)->T k H)->Et X c σ H T)(ht:φ->Run X body {D with nx:=λσ' H'=>Run X rest D σ' H'} σ H)(hu:ψ->Run X ke {D with nx:=λσ' H'=>Run X rest D σ' H'} σ H):Run X (.If c body ke pos :: rest) D σ H:=
 d9 (hc _ λk p q=>by
  cases k with
  | true=>rw [BR rfl];exact ht<|p rfl
  | false=>rw [BK At];exact hu<|q rfl)
theorem bY(h:Ev X e σ H D.rt):Run X (.Return (some e) pos :: rest) D σ H:=jD (SU bE) h
theorem eB(h:Ev X e σ H λ_ H1=>Run X rest D σ H1)(hs:swapsWith e none pos.line X.env=pure false:=by rfl):Run X (.Expr e pos :: rest) D σ H:=jD (SR bE hs) h
theorem wz{tg:Expr}(h:Ev X e σ H λv H1=>Eg X tg v σ H1 λσ' H'=>Run X rest D σ' H')(hs:swapsWithSole [tg] e pos.line X.env=pure false:=by rfl)(hw:swappedStores [tg] e X.env=pure none:=by rfl)
  (h1:(assignEach [tg] X.env).map (·.2)=[assign tg X.env]:=by rfl):Run X (.Assign [tg] e pos :: rest) D σ H:=jD (SZ bE oj hs hw h1) h
def Loop(X:Cx)(tg:Expr)(body:List Stmt)(J:It)(D:Ends)(after:St->Hp->Prop)(σ:St)(H:Hp):Prop:=
 ∃ W:Nat->Nat->St->Hp->Prop,(∃ m,W 0 m σ H)/\∀ i m σ H,W i m σ H->(J.stop i H/\after σ H)\/(J.go i H/\∃ N:St->Hp->Prop,(∀ σ' H',N σ' H'->∃ m',m' < m/\W (i+1) m' σ' H') /\
  ∀ x H',J.qt i H x H'->Eg X tg x σ H' λσ2 H2=>Run X body {D with nx:=N,ct:=N,bk:=after} σ2 H2)
theorem wA{tg iter:Expr}{wi:TI}(hi:PI X tg iter wi)(h:wi σ H λJ H1=>Loop X tg body J D (λσ' H'=>Run X rest D σ' H') σ H1)(hp:PassesOwn (model X.prog X.w) X.A X.env X.xe:=by exact JX)(hc:X.calm=true:=by rfl)
  (hs:∀ x,foldedSetIterable iter X.env x=pure x:=by intro _;rfl):Run X (.For tg iter body [] pos :: rest) D σ H:=jD (Tf hp hc hi oj om hs) h
theorem k4{tg:Expr}{q:Pos}(hm:X.mg "range" = none)(h:Ev X a σ H λx H1=>∃ j:Int,x = .int j/\-(2 ^ 62)<=j/\j < 2 ^ 62/\Loop X tg body (qv 0 j.toNat) D (λσ' H'=>Run X rest D σ' H') σ H1)(hg:Gl X "range":=by rfl)(hp:PassesOwn (model X.prog X.w) X.A X.env X.xe:=by exact JX)(hc:X.calm=true:=by rfl)(hs:isStar a=false:=by rfl) :
  Run X (.For tg (.Call (.Name "range" q) [a] [] p) body [] pos :: rest) D σ H:=
 wA (wi:=Kc<|wv X [a]) (Kd hg hm jj<|oa a [] _ hs) (show Ea X [a] σ H _ from ai (h.mono λx H1 ⟨j,e,h1,h2,h3⟩=>au ⟨j,by rw [e],h1,h2,h3⟩) hs) hp hc (by intro _;rfl)
theorem AK{tg iter:Expr}(h:Ev X iter σ H λx H1=>∃ a,x = .ref a/\(∃ xs,aK X.K H1 a xs)/\Loop X tg body (we X.K a) D (λσ' H'=>Run X rest D σ' H') σ H1)(hp:PassesOwn (model X.prog X.w) X.A X.env X.xe:=by exact JX)(hc:X.calm=true:=by rfl)
  (hs:∀ x,foldedSetIterable iter X.env x=pure x:=by intro _;rfl):Run X (.For tg iter body [] pos :: rest) D σ H:=wA (Tc bE) h hp hc hs
theorem kg{tg iter:Expr}(h:Ev X iter σ H λx H1=>∃ a,x = .ref a/\(∃ xs,al X.K H1 a xs)/\Loop X tg body (qu X.K a) D (λσ' H'=>Run X rest D σ' H') σ H1)(hp:PassesOwn (model X.prog X.w) X.A X.env X.xe:=by exact JX)(hc:X.calm=true:=by rfl)
  (hs:∀ x,foldedSetIterable iter X.env x=pure x:=by intro _;rfl):Run X (.For tg iter body [] pos :: rest) D σ H:=wA (iQ bE) h hp hc hs
theorem k8{tg:Expr}{lo:Int}{n:Nat}{after:St->Hp->Prop}(Pv:Nat->St->Hp->Prop)(h0:Pv 0 σ H)
  (hs:∀ i σ H,i < n->Pv i σ H->Eg X tg (.int<|lo+i) σ H λσ2 H2=>Run X body {D with nx:=Pv<|i+1,ct:=Pv<|i+1,bk:=after} σ2 H2) (hd:∀ σ H,Pv n σ H->after σ H):Loop X tg body (qv lo n) D after σ H:=by
 refine⟨λi m σ H=>m=n - i/\i<=n/\Pv i σ H,⟨n,by simp,Bv _,h0⟩,?_⟩;rintro i m σ H ⟨rfl,hi,p⟩
 by_cases aO:i < n
 ·refine .inr ⟨aO,Pv<|i+1,λσ' H' p'=>⟨n - (i+1),by omega,rfl,aO,p'⟩,λx H' y=>?_⟩;obtain⟨e,y⟩:=y;subst e y;exact hs i σ _ aO p
 ·have e:i=n:=by omega
  subst e;exact .inl ⟨Ak _,hd σ H p⟩
theorem AO{tg:Expr}{at_:Addr}{xs:List V}{after:St->Hp->Prop}(Pv:Nat->St->Hp->Prop)(h0:Pv 0 σ H)(hl:∀ i σ H,i<=xs.length->Pv i σ H->aK X.K H at_ xs)
  (hs:∀ i x σ H,xs[i]?=some x->Pv i σ H->Eg X tg x σ H λσ2 H2=>Run X body {D with nx:=Pv<|i+1,ct:=Pv<|i+1,bk:=after} σ2 H2) (hd:∀ σ H,Pv xs.length σ H->after σ H):Loop X tg body (we X.K at_) D after σ H:=by
 refine⟨λi m σ H=>m=xs.length - i/\i<=xs.length/\Pv i σ H,⟨xs.length,by simp,Bv _,h0⟩,?_⟩;rintro i m σ H ⟨rfl,hi,p⟩;have q:=hl i σ H hi p
 by_cases aO:i < xs.length
 ·refine .inr ⟨⟨xs,xs[i],q,by simp [aO]⟩,Pv<|i+1,λσ' H' p'=>⟨xs.length - (i+1),by omega,rfl,aO,p'⟩,λx H' y=>?_⟩;obtain⟨e,y⟩:=y;subst e;exact hs i x σ _ (y xs q) p
 ·have e:i=xs.length:=by omega
  subst e;exact .inl ⟨⟨xs,q,Ak _⟩,hd σ H p⟩
theorem kh{tg:Expr}{at_:Addr}{xs:List V}{after:St->Hp->Prop}(Pv:Nat->St->Hp->Prop)(h0:Pv 0 σ H)(hl:∀ i σ H,i<=xs.length->Pv i σ H->al X.K H at_ xs)
  (hs:∀ i x σ H,xs[i]?=some x->Pv i σ H->Eg X tg x σ H λσ2 H2=>Run X body {D with nx:=Pv<|i+1,ct:=Pv<|i+1,bk:=after} σ2 H2) (hd:∀ σ H,Pv xs.length σ H->after σ H):Loop X tg body (qu X.K at_) D after σ H:=by
 refine⟨λi m σ H=>m=xs.length - i/\i<=xs.length/\Pv i σ H,⟨xs.length,by simp,Bv _,h0⟩,?_⟩;rintro i m σ H ⟨rfl,hi,p⟩;have q:=hl i σ H hi p
 by_cases aO:i < xs.length
 ·refine .inr ⟨⟨xs,xs[i],q,by simp [aO]⟩,Pv<|i+1,λσ' H' p'=>⟨xs.length - (i+1),by omega,rfl,aO,p'⟩,λx H' y=>?_⟩;obtain⟨e,y⟩:=y;subst e;exact hs i x σ _ (y xs q) p
 ·have e:i=xs.length:=by omega
  subst e;exact .inl ⟨⟨xs,q,Ak _⟩,hd σ H p⟩
theorem bM.go{P:Program}{w:World}{K:PySem.W.Frag}{mg:Str->Option Value}{base:Heap}{x qual:Str}{st:Stmt}{f:Addr}{fd:FuncData}{N ps:List Str}{k:Nat}{sp:Sp}(F:bM K x qual st f fd)(S:ao N ps<|aW st)(len:∀ vs H Q E,sp vs H Q E->vs.length=ps.length)
  (cY : ∀ (bF : Value) (A : Around) (outer : List Env) (s : Shared) (H : Hp) (vs : List V) (Q : VK) (E : XK), bj k (A.deeper<|envOfC qual (aW st) s.heap.objs.size f bF) → sp vs H Q E →
   Run (eJ bP P w K mg base N qual (aW st) f bF A outer s H E).qo (jg st) {nx:=λ_ H'=>Q .non H',rt:=Q} (start N vs) H):aD P w K mg base bP (k+1) f fd ps sp:=
 F.ok S len λbF A outer s H vs Q E hr d6=>⟨_,om,cY bF A outer s H vs Q E hr d6⟩
end
structure Ei(X:Cx)(ifs:List Expr)(σ:St)(H:Hp)(Q:Bool->Hp->Prop):Prop where
 run:∀(pins:List<|Addr×Obj) (s:Shared),Inv X pins σ H s ->
  wpAny (model X.prog X.w) X.A (forIn ifs true λc r=>if r=true then do let ok <- isTrue c X.env<|eval c X.env;pure (ForInStep.yield ok) else pure (ForInStep.yield r)) (TP X pins σ Q) X.xe s
def AQ(X:Cx)(N':List Str)(scope:Scope)(e:Expr)(σ:St)(H:Hp)(Q:VK):Prop:=∀ cl C s₀ H₀ ex,Ev (gH X N' scope cl C s₀ H₀ ex) e σ H Q
def AT(X:Cx)(N':List Str)(scope:Scope)(e:Expr)(v:V)(σ:St)(H:Hp)(Q:St->Hp->Prop):Prop:=∀ cl C s₀ H₀ ex,Eg (gH X N' scope cl C s₀ H₀ ex) e v σ H Q
def AU(X:Cx)(N':List Str)(scope:Scope)(ifs:List Expr)(σ:St)(H:Hp)(Q:Bool->Hp->Prop):Prop:=∀ cl C s₀ H₀ ex,Ei (gH X N' scope cl C s₀ H₀ ex) ifs σ H Q
def mG(X:Cx)(N':List Str)(scope:Scope)(tg:Expr)(ifs:List Expr)(elt:Expr)(J:It)(D:Addr)(after:Hp->Prop)(σ:St)(H:Hp):Prop:=
 ∃ W:Nat->Nat->St->Hp->Prop,(∃ m,W 0 m σ H)/\∀ i m σ' H',W i m σ' H' ->
  (J.stop i H' ∧ after H') ∨ (J.go i H' ∧ ∃ N : St → Hp → Prop, (∀ σ' H', N σ' H' → ∃ m', m' < m ∧ W (i + 1) m' σ' H') ∧ ∀ x H2, J.qt i H' x H2 → AT X N' scope tg x σ' H2 λσ2 H3 => AU X N' scope ifs σ2 H3 λb H4 =>
   if b=true then AQ X N' scope elt σ2 H4 λv H5=>∃ ys,H5 D=some (.lst ys)/\ys.length < sizeLine/\N σ2 (upd H5 D<|.lst<|ys++[v]) else N σ2 H4)
theorem oD:∀(names:List<|Str×NameKind) (n:Nat) (acc:List<|Str×Addr),cellsFrom n names acc=cellsFrom n names []++acc
 | [],_,_=>rfl
 | (y,k) :: r,n,acc=>by
  unfold cellsFrom
  split
  ·rw [oD r (n+1)<|(y,n) :: acc,oD r (n+1) [(y,n)],Ba];rfl
  ·exact oD r n acc
theorem sW:∀(names:List<|Str×NameKind) (n:Nat) {x:Str} {c:Addr},(x,c)∈cellsFrom n names []->(x,NameKind.cell)∈names/\n<=c
 | [],_,_,_,h=>by cases h
 | (y,k) :: r,n,x,c,h=>by
  unfold cellsFrom at h
  split at h
  ·rename_i hk;rw [oD,An] at h
   rcases h with h | h
   ·obtain⟨a,b⟩:=sW r (n+1) h;exact⟨Aj _ a,by omega⟩
   ·cases Ag.mp h;have:k = .cell:=by cases k <;> first | rfl | exact absurd hk<|by decide
    subst this;exact⟨Ad,Ak _⟩
  ·obtain⟨a,b⟩:=sW r n h;exact⟨Aj _ a,b⟩
theorem Lw{names:List (Str×NameKind)}{n:Nat}{cl:List (Str×Addr)}{x:Str}{c:Addr}(h:(cellsFrom n names cl).lookup x=some c):((x,c)∈cellsFrom n names []/\n<=c)\/cl.lookup x=some c:=by
 rw [oD,QK] at h;cases e:(cellsFrom n names []).lookup x with
 | some d=>
  rw [e] at h;cases h;have hm:=DK e;exact .inl ⟨hm,(sW _ _ hm).2⟩
 | none=>
  rw [e] at h;exact .inr h
theorem Vl{names:List (Str×NameKind)}{n:Nat}{cl:List (Str×Addr)}{x:Str}(h:(x,NameKind.cell)∉names):(cellsFrom n names cl).lookup x=cl.lookup x:=by
 rw [oD,QK];cases e:(cellsFrom n names []).lookup x with
 | some d=>exact absurd (sW _ _<|DK e).1 h
 | none=>rfl
section
variable{M:Model}{A:Around}{E:Value->Shared->Prop}{s:Shared}
theorem Vm{scope:Scope}{globals:Addr}{closure:List (Str×Addr)}{qual:Str}{func:Option Addr}{code:Value}{outer:Env}{builtins:Addr}{Q:Env->Shared->Prop}
  (hQ : ∀ h', h'.Ns s.heap.objs.size (λ_ => none) → (∀ b o, s.heap.get? b = some o → h'.get? b = some o) → CellsOk h' (s.heap.objs.size + 1) (cellsFrom (s.heap.objs.size + 1) scope.names []) →
   Q (newEnv scope s.heap.objs.size globals (cellsFrom (s.heap.objs.size+1) scope.names closure) qual func code (some outer) builtins) {s with heap:=h'}) :
  wpAny M A (newFunctionEnv scope globals closure [] qual func code (some outer) builtins) Q E s:=by
 simp only [newFunctionEnv,Option.isSome_some,DP];refine BJ<|RX ?_;refine BJ (wpAny_layCells _ (λname kind cells=>by cases Vn:kind == NameKind.cell <;> simp [Vn]) _ _ _ _ ?_);have ok:=cellsFrom_ok scope.names (s.heap.push {cls:= .type "dict",data:= .dict #[]}) (s.heap.objs.size+1) [] ⟨λ_ _ hm=>(nomatch hm),List.Pairwise.nil⟩ (by rw [Dc];exact Ak _);rw [Dc] at ok;rw [show({s with heap:=s.heap.push {cls:= .type "dict",data:= .dict #[]}}:Shared).heap.objs.size=s.heap.objs.size+1 from Dc ..];rw [List.forIn_nil];exact BJ<|BL<|BL<|hQ _ ((Heap.Ns.new s.heap<|.type "dict").keeps<|pushCells_keeps _ _) (λb o e=>pushCells_keeps _ _ b o<|Ah _ e) ok
end
def oE(sc scope:Scope)(N N':List Str):Bool:=
 (match scope.kind with | .function=>true | _=>false) &&
 scope.names.all (λy=>match y.2 with
  | .cell=>(match scope.names.lookup y.1 with | some .cell=>true | _=>false)
  | .local=>(match scope.names.lookup y.1 with | some .local=>true | _=>false)
  | .free=>(match sc.names.lookup y.1 with | some .cell=>true | some .free=>true | _=>false) && (match scope.names.lookup y.1 with | some .free=>true | _=>false)
  | _=>true) &&
 (List.range N'.length).all λi => match N'[i]? with
  | none=>true
  | some x=>match scope.names.lookup x with
   | some .local=>decide (N.length<=i)
   | some .cell=>decide (N.length<=i)
   | some .free=>decide (N[i]?=some x)
   | _=>true
structure bS(sc scope:Scope)(N N':List Str):Prop where
 kind:scope.kind = .function
 cell:∀ y∈scope.names,y.2 = .cell->scope.names.lookup y.1=some .cell
 names:∀ y∈scope.names,y.2 = .local->scope.names.lookup y.1=some .local
 free:∀ y∈scope.names,y.2 = .free->sc.names.lookup y.1=some .cell\/sc.names.lookup y.1=some .free
 Lx:∀ y∈scope.names,y.2 = .free->scope.names.lookup y.1=some .free
 own:∀(i:Nat) x,N'[i]?=some x->scope.names.lookup x=some .local->N.length<=i
 AV:∀(i:Nat) x,N'[i]?=some x->scope.names.lookup x=some .cell->N.length<=i
 out:∀(i:Nat) x,N'[i]?=some x->scope.names.lookup x=some .free->N[i]?=some x
theorem bS.of{sc scope:Scope}{N N':List Str}(h:oE sc scope N N'=true):bS sc scope N N':=by
 unfold oE at h;rw [Bk,Bk] at h;obtain⟨⟨h1,h2⟩,h3⟩:=h;have jl:=Cq.mp h2;have AW:=Cq.mp h3;refine⟨?_,λy hy e=>?_,λy hy e=>?_,λy hy e=>?_,λy hy e=>?_,λi x hi e=>?_,λi x hi e=>?_,λi x hi e=>?_⟩
 ·revert h1;cases scope.kind <;> intro h1 <;> first | rfl | cases h1
 ·have q:=jl y hy;rw [e] at q;simp only at q
  split at q
  ·assumption
  ·cases q
 ·have q:=jl y hy;rw [e] at q;simp only at q
  split at q
  ·assumption
  ·cases q
 ·have q:=jl y hy;rw [e] at q;simp only at q;rw [Bk] at q;have q:=q.1
  split at q
  ·exact .inl<|by assumption
  ·exact .inr<|by assumption
  ·cases q
 ·have q:=jl y hy;rw [e] at q;simp only at q;rw [Bk] at q;have q:=q.2
  split at q
  ·assumption
  ·cases q
 ·have q:=AW i<|Bu.mpr (Ac.mp hi).1;rw [hi] at q;simp only [e] at q;exact BZ q
 ·have q:=AW i<|Bu.mpr (Ac.mp hi).1;rw [hi] at q;simp only [e] at q;exact BZ q
 ·have q:=AW i<|Bu.mpr (Ac.mp hi).1;rw [hi] at q;simp only [e] at q;exact BZ q
section
variable{X:Cx}{pins:List (Addr×Obj)}{σ:St}{H:Hp}{s:Shared}
theorem Vo{N':List Str}{scope:Scope}{n:Nat}{fp:List Addr}{h₁:Heap}{t':Nat}{m:Str->Option Value}(I:Inv X pins σ H s)(ck:bS X.env.scope scope X.N N')(hl:N'.length=X.N.length+n)
  (wo:h₁.Ns s.heap.objs.size m) (old:∀ b o,s.heap.get? b=some o->h₁.get? b=some o) (Ly:CellsOk h₁ (s.heap.objs.size+1)<|cellsFrom (s.heap.objs.size+1) scope.names [])
  (mH:∀ b∈fp,ci X pins H b/\b < s.heap.objs.size) :
  Inv (gH X N' scope (cellsFrom (s.heap.objs.size+1) scope.names<|cL scope.names X.env.cells []) s.heap.objs.size s H fp) [] (σ++List.replicate n none) H {s with heap:=h₁,toks:=t'}:=by
 have sub:∀ x c,(cL scope.names X.env.cells []).lookup x=some c->X.env.cells.lookup x=some c:=λx c e=>z8 _ _ _ (λ_ _ z=>by simp at z) x c<|DK e;have both:∀ x c,(cellsFrom (s.heap.objs.size+1) scope.names<|cL scope.names X.env.cells []).lookup x=some c->((x,c)∈cellsFrom (s.heap.objs.size+1) scope.names []/\s.heap.objs.size+1<=c)\/X.env.cells.lookup x=some c:=λx c e=>by
  rcases Lw e with z | z
  ·exact .inl z
  ·exact .inr<|sub x c z
 have mI:∀ x c,X.env.cells.lookup x=some c->c < s.heap.objs.size:=λx c e=>by
  obtain⟨v,o,ho,_⟩:=I.cell x c e;exact As ho
 have dL:H s.heap.objs.size=none:=I.aA.fresh<|Ak _;have kindOf:∀{x:Str} {k':NameKind},(relabel scope X.env).names.lookup x=some k'->∃ k,scope.names.lookup x=some k/\(k'=k\/(k = .free/\k' = .cell)):=λz=>K' z;have wB:∀ x,scope.names.lookup x=some .free->(cellsFrom (s.heap.objs.size+1) scope.names<|cL scope.names X.env.cells []).lookup x=(cL scope.names X.env.cells []).lookup x:=λx e=>Vl λhm=>by
  have:=ck.cell _ hm rfl;rw [e] at this;cases this
 have AX:∀ x,scope.names.lookup x=some .cell->∃ c,(cellsFrom (s.heap.objs.size+1) scope.names<|cL scope.names X.env.cells []).lookup x=some c:=λx e=>Ex.mp<|JL _ _ _<|.inl e;have Vp:(gH X N' scope (cellsFrom (s.heap.objs.size+1) scope.names<|cL scope.names X.env.cells []) s.heap.objs.size s H fp).Ok:=by
  refine⟨I.ok.mod,ck.kind,I.ok.glob,I.ok.blt,Ak _,λx y c e1 e2=>?_,λx hx=>?_,λx c hf e=>?_,I.ok.hd,I.ok.frames,.inl rfl,λb hb=>⟨Bp (mH b hb).2,λx c e=>?_⟩,
   I.bs,Cr I.ok.jd I.sz,λb o e hb=>?_,λb hb hf=>?_,I.stack,I.dw⟩
  ·rcases both x c e1 with z1 | z1
   ·rcases both y c e2 with z2 | z2
    ·exact name_of_addr Ly.apart z1.1 z2.1
    ·exact absurd (mI y c z2)<|Nat.not_lt.mpr<|El z1.2
   ·rcases both y c e2 with z2 | z2
    ·exact absurd (mI x c z1)<|Nat.not_lt.mpr<|El z2.2
    ·exact I.ok.inj x y c z1 z2
  ·have lh:(relabel scope X.env).names.lookup x=some .cell\/(relabel scope X.env).names.lookup x=some .free:=hx;have:∃ k,scope.names.lookup x=some k/\(k = .free\/k = .cell):=by
    rcases lh with z | z
    ·obtain⟨k,e,r⟩:=kindOf z
     rcases r with r | ⟨r,_⟩
     ·exact⟨k,e,.inr r.symm⟩
     ·exact⟨k,e,.inl r⟩
    ·obtain⟨k,e,r⟩:=kindOf z
     rcases r with r | ⟨r,_⟩
     ·exact⟨k,e,.inl r.symm⟩
     ·exact⟨k,e,.inl r⟩
   obtain⟨k,e,rfl | rfl⟩:=this
   ·have hm:=DK e;obtain⟨c,hc⟩:=I.ok.has x<|ck.free _ hm rfl;obtain⟨d,hd⟩:=AA<|z9 scope.names X.env.cells [] x c hm hc;exact⟨d,(wB x e).trans hd⟩
   ·exact AX x e
  ·have hx:scope.names.lookup x=some .cell:=by
    have Lz:(match scope.names.lookup x with | some .cell=>true | _=>false)=true:=hf
    split at Lz
    ·assumption
    ·cases Lz
   have e':(cellsFrom (s.heap.objs.size+1) scope.names<|cL scope.names X.env.cells []).lookup x=some c:=e;have q1:=Ex.mp<|JL scope.names (s.heap.objs.size+1) []<|.inl hx;obtain⟨d,hd⟩:=q1;rw [oD,QK,hd] at e';have e2:d=c:=Option.some.inj e';have:=(sW _ _<|DK hd).2;rw [<- e2];exact El this
  ·have e':(cellsFrom (s.heap.objs.size+1) scope.names<|cL scope.names X.env.cells []).lookup x=some c:=e
   rcases both x c e' with z | z
   ·have h1:=(mH b hb).2;have h2:=z.2;exact λk=>absurd h1<|Nat.not_lt.mpr<|by rw [<- k];exact El h2
   ·exact(mH b hb).1.2.2.2.2.1 x c z
  ·have:=(mH b hb).1.2.2.2.1
   rcases this with z | z
   ·exact I.ok.fe b o e z
   ·exact absurd (Bg (As e)<|Cr I.ok.jd z)<|Ct _
  ·rcases Ai.mp (I.c8 b hf) with z | z
   ·exact(mH b hb).1.2.1 z
   ·exact(mH b hb).1.2.2.1 z
 refine⟨Vp,rfl,I.bare,Un.kept old,⟨m,wo,λi x v e1 e2 e3=>?_⟩,λx c e=>?_,dL,λx c e=>?_,λp hp=>absurd hp (by simp [gH]),I.aA.kept old,?_⟩
 ·have hi:i < σ.length:=by
   by_cases hi:i < σ.length
   ·exact hi
   ·rw [Bd (by omega),Ez] at e2
    split at e2 <;> cases e2
  rw [Ay hi] at e2;have oF:N'[i]?=some x:=e1;have Vq:∃ k',(relabel scope X.env).names.lookup x=some k'/\(k' = .local\/k' = .cell\/k' = .free):=by
   rcases e3 with z | z | z
   ·exact⟨_,z,.inl rfl⟩
   ·exact⟨_,z,.inr<|.inl rfl⟩
   ·exact⟨_,z,.inr<|.inr rfl⟩
  obtain⟨k',oG,jE⟩:=Vq;obtain⟨k,ek,r⟩:=kindOf oG;have kf:k = .free:=by
   rcases r with r | ⟨r,_⟩
   ·subst r
    rcases jE with z | z | z
    ·subst z;have:=ck.own i x oF ek;rw [I.len] at hi;omega
    ·subst z;have:=ck.AV i x oF ek;rw [I.len] at hi;omega
    ·exact z
   ·exact r
  subst kf;have hm:=DK ek;have Vr:=ck.out i x oF ek;obtain⟨m0,AY,li⟩:=I.loc;have kx:=ck.free _ hm rfl;obtain⟨u,ru,lk⟩:=li i x v Vr e2 (by rcases kx with z | z;exact .inr<|.inl z;exact .inr<|.inr z);refine⟨u,ru,.inr ⟨?_,?_⟩⟩
  ·rcases r with r | ⟨_,r⟩
   ·subst r;exact .inr oG
   ·subst r;exact .inl oG
  ·rcases lk with ⟨k1,_⟩ | ⟨_,c,hc,ik⟩
   ·have AZ:X.env.scope.names.lookup x=some .local:=k1
    rcases kx with z | z
    ·rw [AZ] at z;cases z
    ·rw [AZ] at z;cases z
   ·have sX:=z9 scope.names X.env.cells [] x c hm hc;obtain⟨d,hd⟩:=AA sX;have:d=c:=Option.some.inj<|(sub x d hd).symm.trans hc;subst this;obtain⟨o,ho,iV⟩:=ik;exact⟨d,(wB x ek).trans hd,o,old _ _ ho,iV⟩
 ·have e':(cellsFrom (s.heap.objs.size+1) scope.names<|cL scope.names X.env.cells []).lookup x=some c:=e
  rcases both x c e' with z | z
  ·exact⟨none,(Ly.empty x c z.1).1⟩
  ·obtain⟨v,o,ho,iV⟩:=I.cell x c z;exact⟨v,o,old _ _ ho,iV⟩
 ·have e':(cellsFrom (s.heap.objs.size+1) scope.names<|cL scope.names X.env.cells []).lookup x=some c:=e
  rcases both x c e' with z | z
  ·exact I.aA.fresh<|El z.2
  ·exact I.bq x c z
 ·rw [Ae,Di,I.len];exact hl.symm
end
structure Clause(e:Expr)(d:Nat)(tg iter:Expr)(ifs:List Expr)(acc:Value)(env:Env)(inner:Sem Unit):Prop where
 at':(clausesOf e)[d]?=some ⟨tg,iter,ifs,0⟩
 quiet:∀ it,(Code.compLoop e d it acc env).quiet=true
 den:∀(prog:Program) (w:World) it,(model prog w).den (.compLoop e d it acc env)=(compTurn e d it acc env).onRaise (λx=>do noteFrame x env;theTreesLotGoes x)
 Vs:∀(A:Around) it,A.under (.compLoop e d it acc env)=A
 A0:∀(prog:Program) (w:World) it,(model prog w).den (.compStart e d it acc env)=(compStart e d it acc env).onRaise (λx=>do noteFrame x env;standAt theWindowsPlace)
 A1:∀(A:Around) it,A.under (.compStart e d it acc env)=A
 turn:∀ it,compTurn e d it acc env=(do
   standAt iter.pos
   match <- pyNext it with
   | none=>pure<|.done .next
   | some v=>
    letOwnedTupleGo tg it v
    assign tg env v
    let mut ok:=true
    for c in ifs do
     if ok then ok <- isTrue c env<|eval c env
    if ok then
     inner
    again (.compLoop e d it acc env))
section
variable{prog:Program}{w:World}{A:Around}{R:Result->Shared->Prop}{s:Shared}
theorem Vt{e:Expr}{d:Nat}{tg iter:Expr}{ifs:List Expr}{it acc:Value}{env:Env}{inner:Sem Unit}(C:Clause e d tg iter ifs acc env inner)(I:Nat->Shared->Prop)
  (turn : ∀ n s, I n s → wpAny (model prog w) A (pyNext it) (λr s₁ => match r with
   | none=>R (.ok .next) s₁
   | some v=>wpAny (model prog w) A (letOwnedTupleGo tg it v) (λ_ s₁'=>wpAny (model prog w) A (assign tg env v) (λ_ s₂=>
     wpAny (model prog w) A (forIn ifs true λc r=>if r=true then do let ok <- isTrue c env<|eval c env;pure (ForInStep.yield ok) else pure (ForInStep.yield r)) (λok s₃=>
      if ok=true then wpAny (model prog w) A inner (λ_ s₄=>∃ m,m < n/\I m s₄) (notedBy (model prog w) A env λe s'=>R (.error e) s') s₃
      else ∃ m,m < n/\I m s₃) (notedBy (model prog w) A env λe s'=>R (.error e) s') s₂) (notedBy (model prog w) A env λe s'=>R (.error e) s') s₁') (notedBy (model prog w) A env λe s'=>R (.error e) s') s₁) (notedBy (model prog w) A env λe s'=>R (.error e) s') s)
  (n:Nat) (h:I n s) :
  codeAny (model prog w) A (.compLoop e d it acc env) R s:=by
 refine codeAny_loop (C.quiet it) I (λn s hI=>?_) n h;rw [C.Vs,C.den];refine wpAny_noted ?_;rw [C.turn];refine BJ<|FJ<|BJ<|CW (turn n s hI) (λr s₁ h₁=>?_) λ_ _ h'=>h';cases r with
 | none=>exact BL h₁
 | some v=>
  refine BJ<|CW h₁ (λ_ s₁' h₁'=>?_) λ_ _ h'=>h';refine BJ<|CW h₁' (λ_ s₂ h₂=>BJ<|CW h₂ (λok s₃ h₃=>?_) λ_ _ h'=>h') λ_ _ h'=>h';cases ok with
  | false=>exact BL ⟨rfl,h₃⟩
  | true=>exact BJ<|CW h₃ (λ_ s₄ h₄=>BL ⟨rfl,h₄⟩) λ_ _ h'=>h'
theorem Vu{e:Expr}{d:Nat}{tg iter:Expr}{ifs:List Expr}{it acc:Value}{env:Env}{inner:Sem Unit}(C:Clause e d tg iter ifs acc env inner)
  (h0:codeAny (model prog w) A (.compLoop e d it acc env) R s)
  (h:wpAny (model prog w) A (pyIter it) (λA2 s'=>codeAny (model prog w) A (.compLoop e d A2 acc env) R s') (notedBy (model prog w) A env λx s'=>R (.error x) s') s) :
  codeAny (model prog w) A (.compStart e d it acc env) R s:=by
 refine JZ ?_;rw [C.A1,C.A0];refine wpAny_notedAt ?_;unfold compStart;rw [C.at'];show wpAny _ _ (ask >>= _) _ _ s;refine BJ<|MK<|wpAny_ite ?_
 split
 ·first
   | exact BJ<|BL<|BL<|And.intro (C.quiet _) h0
   | exact BL<|And.intro (C.quiet _) h0
 ·first
   | exact BJ<|JH<|BJ<|FJ<|BJ<|CW h (λA2 s' h'=>BL<|And.intro (C.quiet _) h') λ_ _ x=>x
   | (refine BJ<|JH ?_;show wpAny _ _ (standAt iter.pos >>= _) _ _ s;exact BJ<|FJ<|BJ<|CW h (λA2 s' h'=>BL<|And.intro (C.quiet _) h') λ_ _ x=>x)
end
structure mJ(X:Cx)(m:Sem Unit)(σ:St)(H:Hp)(Q:St->Hp->Prop):Prop where
 run:∀(pins:List<|Addr×Obj) (s:Shared),Inv X pins σ H s->wpAny (model X.prog X.w) X.A m (λ_ s'=>∃ σ' H',Inv X pins σ' H' s'/\Q σ' H') X.xe s
def jF(X:Cx)(tg:Expr)(ifs:List Expr)(inner:Sem Unit)(J:It)(after:St->Hp->Prop)(σ:St)(H:Hp):Prop:=
 ∃ W:Nat->Nat->St->Hp->Prop,(∃ m,W 0 m σ H)/\∀ i m σ' H',W i m σ' H' ->
  (J.stop i H' ∧ after σ' H') ∨ (J.go i H' ∧ ∃ N : St → Hp → Prop, (∀ σ' H', N σ' H' → ∃ m', m' < m ∧ W (i + 1) m' σ' H') ∧ ∀ x H2, J.qt i H' x H2 → Eg X tg x σ' H2 λσ2 H3 => Ei X ifs σ2 H3 λb H4 =>
   if b=true then mJ X inner σ2 H4 N else N σ2 H4)
theorem A3{X:Cx}(oH:X.xe=λ_ _=>False)(hc:X.calm=true){e:Expr}{d:Nat}{tg iter:Expr}{ifs:List Expr}{acc:Value}{inner:Sem Unit}(C:Clause e d tg iter ifs acc X.env inner){pins:List (Addr×Obj)}{σ:St}{H:Hp}{s:Shared}
  {it:Addr} {fp:List Addr} {tn:Nat->Heap->Prop} {J:It} {after:St->Hp->Prop} {R:Result->Shared->Prop} (I:Inv X pins σ H s) (T:Turn X.prog X.w X.K tg J fp it tn) (st:tn 0 s.heap) (hf:∀ b∈fp,ci X pins H b) (h:jF X tg ifs inner J after σ H)
  (hR:∀ σ' H' s',Inv X pins σ' H' s'->after σ' H'->R (.ok .next) s') :
  codeAny (model X.prog X.w) X.A (.compStart e d (.ref it) acc X.env) R s:=by
 obtain⟨W,⟨m0,w0⟩,turn⟩:=h;have stat:∀{H':Hp},(∀ b∈fp,H' b=none)->∀ b∈fp,ci X pins H' b:=λhn b hb=>⟨hn b hb,(hf b hb).2⟩;have loop:codeAny (model X.prog X.w) X.A (.compLoop e d (.ref it) acc X.env) R s:=by
  refine Vt C (λk s'=>∃ i σ' H',Inv X pins σ' H' s'/\tn i s'.heap/\(∀ b∈fp,H' b=none)/\W i k σ' H') ?_ m0 ⟨0,σ,H,I,st,λb hb=>(hf b hb).1,w0⟩;rintro k s4 ⟨i,σ4,H4,J4,LA,LD,w4⟩
  rcases turn i k σ4 H4 w4 with ⟨stop,qn⟩ | ⟨go,N,hN,step⟩
  ·have d1:=T.done X rfl rfl rfl hc i pins s4 σ4 H4 (λ_ _=>False) J4 (stat LD) LA stop;refine iT d1 λr s5 ⟨hr,I5⟩=>?_;subst hr;exact hR _ _ _ I5 qn
  ·have d1:=T.item X rfl rfl rfl hc i pins s4 σ4 H4 (λ_ _=>False) J4 (stat LD) LA go;refine iT d1 λr s5 ⟨u,hr,h5⟩=>?_;subst hr;refine iT h5 λ_ s6 ⟨x,H6,I6,r6,y6,A4,Vv⟩=>?_;have Vw:=I6.pinned (stat Vv)<|T.obj _ _ A4;have again:∀{σ7:St} {H7:Hp} {s7:Shared},Inv X (pins++se fp s6.heap) σ7 H7 s7->N σ7 H7->∃ m,m < k/\∃ i σ' H',Inv X pins σ' H' s7/\tn i s7.heap/\(∀ b∈fp,H' b=none)/\W i m σ' H':=λ{σ7 H7 s7} I7 n7=>by
    obtain⟨m',hm,w7⟩:=hN σ7 H7 n7;refine⟨m',hm,i+1,σ7,H7,I7.cU,T.keep _ _ _ A4 λb hb o e=>(I7.pin (b,o)<|Ap _<|Ap _<|wg hb e).1,λb hb=>?_,w7⟩;obtain⟨o,e,d⟩:=T.obj _ _ A4 b hb;exact(I7.pin (b,o)<|Ap _<|Ap _<|wg hb e).2.1
   have a1:=(step x H6 y6).run _ s6 u Vw r6;rw [oH] at a1;refine iT a1 λ_ s7 ⟨σ7,H7,I7,q7⟩=>?_;have a2:=q7.run _ s7 I7;rw [oH] at a2;refine iT a2 λok s8 ⟨H8,I8,q8⟩=>?_;cases ok with
   | false=>
    rw [BK At] at q8 ⊢;exact again I8 q8
   | true=>
    rw [BR rfl] at q8 ⊢;have a3:=q8.run _ s8 I8;rw [oH] at a3;exact iT a3 λ_ s9 ⟨σ9,H9,I9,q9⟩=>again I9 q9
 exact Vu C loop<|T.self _ 0 _ _ _ st loop
theorem wC{X:Cx}{e:Expr}{tg iter:Expr}{ifs:List Expr}{scope:Scope}{N':List Str}{newAcc:Sem Value}{o0:Obj}{u0:Addr->HO}{n:Nat}{inner:Value->Env->Sem Unit}{pins:List (Addr×Obj)}{σ:St}{H2:Hp}{s2:Shared}{E:Value->Shared->Prop}{RR:Value->Addr->Result->Shared->Prop}{it:Addr}{fp:List Addr}{tn:Nat->Heap->Prop}{J:It}{Q:VK}
  (jG:∀(Q:Value->Shared->Prop) (E:Value->Shared->Prop) (s:Shared),Q (.ref s.heap.objs.size) {s with heap:=s.heap.push o0}->wpAny (model X.prog X.w) X.A newAcc Q E s) (jC:∀(H:Hp) (h:Heap),sysModules < h.objs.size->ax X.prog X.w H (h.push o0) h.objs.size (u0 h.objs.size))
  (hc:X.calm=true) (ck:bS X.env.scope scope X.N N') (hl:N'.length=X.N.length+n) (hC:∀ acc env,Clause e 0 tg iter ifs acc env<|inner acc env)
  (I2:Inv X pins σ H2 s2) (T:Turn X.prog X.w X.K tg J fp it tn) (eV:tn 0 s2.heap) (f2:∀ b∈fp,ci X pins H2 b)
  (q:∀ D,H2 D=none->∀ cl C s₀ H₀ ex,jF (gH X N' scope cl C s₀ H₀ ex) tg ifs (inner (.ref D)<|compEnvC scope cl C X.env) J (λ_ H'=>Q (.ref D) H') (σ++List.replicate n none)<|upd H2 D<|u0 D)
  (A5:∀ D C H' s' m,Inv X pins σ H' s'->s'.heap.Ns C m->H' C=none->C≠X.env.locals->X.s₀.heap.objs.size<=C->(∀ x c,X.env.cells.lookup x=some c->c≠C)->(∀ p∈X.pn++pins,p.1≠C)->Q (.ref D) H'->RR (.ref D) C (.ok .next) s') :
  wpAny (model X.prog X.w) X.A newAcc (λacc s₃=>wpAny (model X.prog X.w) X.A (newFunctionEnv scope X.env.globals (cL scope.names X.env.cells []) [] X.env.qual none .none<|some X.env) (λjH s₄=>
   codeAny (model X.prog X.w) X.A (.compStart e 0 (.ref it) acc {jH with scope:=relabel scope X.env}) (RR acc jH.locals) s₄) E s₃) E s2:=by
 refine jG _ _ _<|Vm λh₁ hns₁ old₁ hcs₁=>?_;have hD:H2 s2.heap.objs.size=none:=I2.aA.fresh<|Ak _;have q0:=q s2.heap.objs.size hD;have fl:∀ b∈fp,b < s2.heap.objs.size:=λb hb=>by
  obtain⟨o,e,_⟩:=T.obj 0 _ eV b hb;exact As e
 have I3:Inv X pins σ (upd H2 s2.heap.objs.size<|u0 s2.heap.objs.size) {s2 with heap:=s2.heap.push o0}:=
  I2.laid (t':=s2.toks) (λb o e=>Ah _ e) (Ak _) (jC _ _ I2.big)
 generalize wD:({s2 with heap:=s2.heap.push o0}:Shared)=s3 at I3 hns₁ old₁ hcs₁ ⊢;have Vx:s3.heap.objs.size=s2.heap.objs.size+1:=by rw [<- wD];exact Dc ..
 have A6:∀ b o,s2.heap.get? b=some o->s3.heap.get? b=some o:=λb o e=>by rw [<- wD];exact Ah _ e
 have old:∀ b o,s3.heap.get? b=some o->h₁.get? b=some o:=old₁;have f3:∀ b∈fp,ci X pins (upd H2 s2.heap.objs.size<|u0 s2.heap.objs.size) b/\b < s3.heap.objs.size:=λb hb=>by
  refine⟨⟨?_,(f2 b hb).2⟩,by rw [Vx];exact Ce<|fl b hb⟩;rw [aq<|Bp<|fl b hb];exact(f2 b hb).1
 have I4:=λ(t':Nat)=>Vo (N':=N') (scope:=scope) (n:=n) (fp:=fp) (h₁:=h₁) (t':=t') I3 ck hl hns₁ old hcs₁ f3;generalize hX:gH X N' scope (cellsFrom (s3.heap.objs.size+1) scope.names<|cL scope.names X.env.cells []) s3.heap.objs.size s3 (upd H2 s2.heap.objs.size<|u0 s2.heap.objs.size) fp=X' at I4;have eP:X'.prog=X.prog:=by rw [<- hX];rfl
 have ew:X'.w=X.w:=by rw [<- hX];rfl
 have eK:X'.K=X.K:=by rw [<- hX];rfl
 have eA:X'.A=X.A:=by rw [<- hX];rfl
 have eE:X'.env=compEnvC scope (cellsFrom (s3.heap.objs.size+1) scope.names<|cL scope.names X.env.cells []) s3.heap.objs.size X.env:=by rw [<- hX];rfl
 have ec:X'.calm=true:=by rw [<- hX];exact hc
 have JO:X'.xe=λ_ _=>False:=by rw [<- hX];rfl
 have stat:∀{H':Hp},(∀ b∈fp,H' b=none)->∀ b∈fp,ci X' [] H' b:=λhn b hb=>by
  refine⟨hn b hb,?_,?_,?_,?_,?_⟩
  ·rw [eE];exact Bp (f3 b hb).2
  ·rw [<- hX];intro hf
   rcases Ai.mp (I3.c8 b hf) with z | z
   ·exact(f3 b hb).1.2.1 z
   ·exact(f3 b hb).1.2.2.1 z
  ·rw [<- hX];exact .inl hb
  ·rw [eE];intro x c e
   rcases Lw e with z | z
   ·exact λk=>absurd (f3 b hb).2<|Nat.not_lt.mpr<|by rw [<- k];exact El z.2
   ·exact(f3 b hb).1.2.2.2.2.1 x c<|z8 _ _ _ (λ_ _ z=>by simp at z) x c<|DK z
  ·rw [<- hX];intro p hp;exact absurd hp<|by simp [gH]
 have fin:∀{σ':St} {H':Hp} {s':Shared},Inv X' [] σ' H' s'->Q (.ref s2.heap.objs.size) H'->RR (.ref s2.heap.objs.size) s3.heap.objs.size (.ok .next) s':=λ{σ' H' s'} I' q'=>by
  obtain⟨m',fS,_⟩:=id I'.loc;rw [eE] at fS;have Vy:s'.os=s3.os:=by have:=I'.os;rw [<- hX] at this;exact this
  have Vz:Un (dg X.stack) fp (upd H2 s2.heap.objs.size<|u0 s2.heap.objs.size) H' s3.heap s'.heap:=by have:=I'.base;rw [<- hX] at this;exact this
  have aA:b7 X.prog X.w H' s'.heap:=by have:=I'.aA;rw [eP,ew] at this;exact this
  have IX:Inv X pins σ H' s':=I3.call' (ch:=fp) Vy Vz aA I'.bare λb hb=>⟨(f3 b hb).1.2.2.2.1,(f3 b hb).1.2.1,(f3 b hb).1.2.2.2.2.1,(f3 b hb).1.2.2.2.2.2⟩;have iw:=I'.free;rw [eE] at iw;refine A5 _ _ H' s' m' IX fS iw (Cw I3.lt) I3.sz (λx c e z=>?_) (λp hp z=>?_) q'
  ·obtain⟨v,o,ho,_⟩:=I3.cell x c e;exact absurd (As ho)<|by rw [z];exact Ct _
  ·exact absurd (As (I3.pin p hp).1)<|by rw [z];exact Ct _
 have VA:∀ b∈fp,ci X' [] (upd H2 s2.heap.objs.size<|u0 s2.heap.objs.size) b:=stat λb hb=>(f3 b hb).1.1;have q1:jF X' tg ifs (inner (.ref s2.heap.objs.size) X'.env) J (λ_ H'=>Q (.ref s2.heap.objs.size) H') (σ++List.replicate n none) (upd H2 s2.heap.objs.size<|u0 s2.heap.objs.size):=by
  rw [eE,<- hX];exact q0 _ _ _ _ _
 have T':Turn X'.prog X'.w X'.K tg J fp it tn:=by rw [eP,ew,eK];exact T
 have fin2:=A3 (s:={s3 with heap:=h₁,toks:=s3.toks}) JO ec (hC (.ref s2.heap.objs.size) X'.env) (I4 s3.toks) T' (T.keep 0 _ _ eV λb _ o e=>old b o<|A6 b o e) VA q1 (R:=RR (.ref s2.heap.objs.size) s3.heap.objs.size) λσ' H' s' I' a'=>fin I' a';rw [eP,ew,eA,eE] at fin2;exact fin2
def emit(elt:Expr)(acc:Value)(env:Env):Sem Unit:=do let _ <- call (.builtin "list.append") [acc,<- eval elt env]
section
variable{X:Cx}{elt tg iter:Expr}{ifs:List Expr}{scope:Scope}{pos:Pos}{σ:St}{H:Hp}{acc:Value}{env:Env}{N':List Str}{J:It}
theorem VB:Clause (.ListComp elt [⟨tg,iter,ifs,0⟩] scope pos) 0 tg iter ifs acc env (emit elt acc env):=⟨rfl,λ_=>rfl,λ_ _ _=>rfl,λ_ _=>rfl,λ_ _ _=>rfl,λ_ _=>rfl,λ_=>rfl⟩
theorem A7{D:Addr}{Q:St->Hp->Prop} (h:Ev X elt σ H λv H1=>∃ ys,H1 D=some (.lst ys)/\ys.length < sizeLine/\Q σ (upd H1 D<|.lst<|ys++[v])):mJ X (emit elt (.ref D) X.env) σ H Q:=by
 refine⟨λpins s I=>?_⟩;unfold emit;refine BJ<|aE (h.run pins s I) λv s1 ⟨x,H1,I1,r1,ys,hy,hz,q⟩=>?_;refine BJ<|aE (KS (X:=X) _ s1 σ H1 (.ref D) [x] (.ref D) [v] (λ_ H'=>Q σ H') I1 rfl (.cons r1 .nil) ⟨_,ys,x,rfl,rfl,hy,hz,q⟩) λ_ s2 ⟨_,H2,I2,_,q2⟩=>BL ⟨σ,H2,I2,q2⟩
theorem Eg.mono{v:V}{R R':St->Hp->Prop}(h:Eg X elt v σ H R)(f:∀ σ' H',R σ' H'->R' σ' H'):Eg X elt v σ H R':=⟨λpins s u I r=>aE (h.run pins s u I r) λ_ _ ⟨σ',H',I',q⟩=>⟨σ',H',I',f _ _ q⟩⟩
theorem Ei.mono{T T':Bool->Hp->Prop}(h:Ei X ifs σ H T)(f:∀ b H',T b H'->T' b H'):Ei X ifs σ H T':=⟨λpins s I=>aE (h.run pins s I) λ_ _ ⟨H',I',q⟩=>⟨H',I',f _ _ q⟩⟩
theorem VC{D:Addr}{after:Hp->Prop}(h:mG X N' scope tg ifs elt J D after σ H)(cl:List<|Str×Addr)(C:Addr)(s₀:Shared)(H₀:Hp)(ex:List Addr):jF (gH X N' scope cl C s₀ H₀ ex) tg ifs (emit elt (.ref D)<|compEnvC scope cl C X.env) J (λ_ H'=>after H') σ H:=by
 obtain⟨W,w0,t⟩:=h;refine⟨W,w0,λi m σ' H' w=>(t i m σ' H' w).imp id λ⟨g,N,hN,st⟩=>⟨g,N,hN,λx H2 y=>(st x H2 y cl C s₀ H₀ ex).mono λσ2 H3 h3=>(h3 cl C s₀ H₀ ex).mono λb H4 h4=>?_⟩⟩;cases b with
 | true=>
  rw [BR rfl] at h4 ⊢;exact A7 (X:=gH X N' scope cl C s₀ H₀ ex)<|h4 cl C s₀ H₀ ex
 | false=>
  rw [BK At] at h4 ⊢;exact h4
theorem LI{n:Nat}{pins:List (Addr×Obj)}{H2:Hp}{s2:Shared}{E:Value->Shared->Prop}{RR:Value->Addr->Result->Shared->Prop}{it:Addr}{fp:List Addr}{tn:Nat->Heap->Prop}{Q:VK}
  (hc:X.calm=true) (ck:bS X.env.scope scope X.N N') (hl:N'.length=X.N.length+n) (I2:Inv X pins σ H2 s2) (T:Turn X.prog X.w X.K tg J fp it tn) (eV:tn 0 s2.heap) (f2:∀ b∈fp,ci X pins H2 b)
  (q:∀ D,H2 D=none->mG X N' scope tg ifs elt J D (λH'=>Q (.ref D) H') (σ++List.replicate n none) (upd H2 D<|.lst []))
  (A5:∀ D C H' s' m,Inv X pins σ H' s'->s'.heap.Ns C m->H' C=none->C≠X.env.locals->X.s₀.heap.objs.size<=C->(∀ x c,X.env.cells.lookup x=some c->c≠C)->(∀ p∈X.pn++pins,p.1≠C)->Q (.ref D) H'->RR (.ref D) C (.ok .next) s') :
  wpAny (model X.prog X.w) X.A (newList []) (λacc s₃=>wpAny (model X.prog X.w) X.A (newFunctionEnv scope X.env.globals (cL scope.names X.env.cells []) [] X.env.qual none .none<|some X.env) (λjH s₄=>
   codeAny (model X.prog X.w) X.A (.compStart (.ListComp elt [⟨tg,iter,ifs,0⟩] scope pos) 0 (.ref it) acc {jH with scope:=relabel scope X.env}) (RR acc jH.locals) s₄) E s₃) E s2:=
 wC (newAcc:=newList []) (o0:={cls:= .type "list",dict:=none,data:= .seq ([]:List Value).toArray}) (u0:=λ_=> .lst []) (λ_ _ _ h=>DR h<|by show(0:Nat)<=sizeLine;exact Bv _) (λ_ _ _=>⟨Bv _,[],0,.nil,Ar _ rfl⟩) hc ck hl (λ_ _=>VB) I2 T eV f2 (λD hD=>VC<|q D hD) A5
end
section
variable{X:Cx}{elt tg iter c:Expr}{ifs:List Expr}{scope:Scope}{pos p:Pos}{wi:TI}{σ:St}{H:Hp}{Q:VK}{T:Bool->Hp->Prop}{rest:List Stmt}{D:Ends}
theorem gS(h:T true H):Ei X [] σ H T:=⟨λpins s I=>U9 pins s σ H T I h⟩
theorem qI(sc:Scope)(N N':List Str)(n:Nat)(hi:PI X tg iter wi)
  (h:wi σ H λJ H1=>∀ D,H1 D=none->mG X N' scope tg ifs elt J D (λH'=>Q (.ref D) H') (σ++List.replicate n none) (upd H1 D<|.lst []))
  (hc:X.calm=true:=by rfl) (lj:X.env.scope=sc:=by rfl) (hN:X.N=N:=by rfl) (hk:oE sc scope N N'=true:=by decide +kernel) (hl:N'.length=N.length+n:=by rfl)
  (hs:∀ x,foldedSetIterable iter X.env x=pure x:=by intro _;rfl):Ev X (.ListComp elt [⟨tg,iter,ifs,0⟩] scope pos) σ H Q:=by
 refine⟨λpins s I=>?_⟩;subst lj hN;have ck:=bS.of hk;rw [eval_ListComp];refine GR (use:=none) rfl hs (sS λx hx hf=>I.ok.has x.1<|ck.free x hx hf) ck.kind ck.names (aE (hi pins s σ H _ I h) λv s1 h1=>aE h1 λkP s2 h2=>?_);obtain⟨it,fp,tn,J,H2,e,I2,T,eV,f2,q⟩:=h2;subst e;refine LI (RR:=λacc C=>compPost (model X.prog X.w) X.A X.xe none (EP X pins σ Q) acc C) hc ck hl I2 T eV f2 q ?_;intro D C H' s' m IX hn hC c1 c2 c3 c4 qq;exact⟨m,hn,λh' gR=>⟨.ref D,H',IX.turned (t':=s'.toks) (λb o hb e=>gR.extBut b o hb e) hC (CJ<|CJ c1) (.inr c2) c3 c4,rfl,qq⟩⟩
theorem LJ(i:Nat){y:Str}{py sY:Pos}(sc:Scope)(N N':List Str)(n:Nat)(gT:X.N.Nodup)(hi:PI X tg iter wi)
  (h:wi σ H λJ H1=>∀ A,H1 A=none->mG X N' scope tg ifs elt J A (λH'=>Run X rest D (σ.set i<|some<|.ref A) H') (σ++List.replicate n none) (upd H1 A<|.lst []))
  (VD:X.N[i]?=some y:=by rfl) (hy:Loc X.env.scope y:=by first | exact Or.inl rfl | exact Or.inr rfl)
  (VE:swapsWith (.ListComp elt [⟨tg,iter,ifs,0⟩] scope pos) (some<|.Name y py) sY.line X.env=pure true:=by rfl)
  (hc:X.calm=true:=by rfl) (lj:X.env.scope=sc:=by rfl) (hN:X.N=N:=by rfl) (hk:oE sc scope N N'=true:=by decide +kernel) (hl:N'.length=N.length+n:=by rfl)
  (hs:∀ x,foldedSetIterable iter X.env x=pure x:=by intro _;rfl) (hf:X.fn y=true\/X.env.scope.names.lookup y=some .local:=by first | exact .inl rfl | exact .inr rfl | assumption) :
  Run X (.Assign [.Name y py] (.ListComp elt [⟨tg,iter,ifs,0⟩] scope pos) sY :: rest) D σ H:=by
 refine jD (t:=λD' σ H=>wi σ H λJ H1=>∀ A,H1 A=none->mG X N' scope tg ifs elt J A (λH'=>D'.nx (σ.set i<|some<|.ref A) H') (σ++List.replicate n none) (upd H1 A<|.lst [])) ?_ h;intro pins s σ H D I h;subst lj hN;have ck:=bS.of hk;rw [exec_Assign_Name_used _ _ _ _ VE];refine BJ<|FJ<|BJ ?_;show wpAny _ X.A (do let _ <- comprehension (.ListComp elt [⟨tg,iter,ifs,0⟩] scope pos) scope X.env _ (newList []) false (eval iter X.env)<|some<|assign (.Name y py) X.env) _ _ s;refine BJ<|CW (GR (use:=some<|assign (.Name y py) X.env) (Q:=λ_ s'=>SP X pins D .next s') rfl hs (sS λx hx hf=>I.ok.has x.1<|ck.free x hx hf) ck.kind ck.names
  (aE (hi pins s σ H _ I h) λv s1 h1=>aE h1 λkP s2 h2=>?_)) (λ_ s' hq=>BL<|BL hq) λ_ _ e=>e
 obtain⟨it,fp,tn,J,H2,e,I2,T,eV,f2,q⟩:=h2;subst e;refine LI (Q:=λx H1=>D.nx (σ.set i<|some x) H1) (RR:=λacc C=>compPost (model X.prog X.w) X.A X.xe (some<|assign (.Name y py) X.env) (λ_ s'=>SP X pins D .next s') acc C) hc ck hl I2 T eV f2 q ?_;intro D' C H' s' m IX hn hC c1 c2 c3 c4 qq;show wpAny _ X.A (assign (.Name y py) X.env<|.ref D') _ _ _;refine wpAny_assign_Name<|JS IX gT VD hy (v:= .ref D') rfl (λsv VF A8=>?_) hf;obtain⟨a,A8,ha⟩:=A8;have VG:C≠a:=by
  rcases ha with ha | ha
  ·rw [ha];exact c1
  ·exact CJ<|c3 _ _ ha
 refine⟨m,hn.sameBut A8 VG,λh' gR=>⟨_,H',VF.turned (t':=sv.toks) (λb o hb e=>gR.extBut b o hb e) hC c1 (.inr c2) c3 c4,qq⟩⟩
theorem VH{N':List Str}{x:Str}{z:Str}{A:Addr}{after:Hp->Prop}(f:Nat->V)(hz:z.cps.size < sizeLine)(hg:∀ cl C s₀ H₀ ex v v0 H' R,R (σ++[some v]) H'->Eg (gH X N' scope cl C s₀ H₀ ex) tg v (σ++[v0]) H' R)
  (he:∀ cl C s₀ H₀ ex c H' R,(∃ j:Nat,z.cps[j]?=some c)->R (f c) H'->Ev (gH X N' scope cl C s₀ H₀ ex) elt (σ++[some<|.str ⟨#[c]⟩]) H' R) (q:after<|upd H A<|.lst<|z.cps.toList.map f) :
  mG X N' scope tg [] elt (n9 z) A after (σ++List.replicate 1 none) (upd H A<|.lst []):=by
 refine⟨λk m σ' H'=>m=z.cps.size - k/\k<=z.cps.size/\(∃ v,σ'=σ++[v])/\H'=upd H A (.lst<|(z.cps.toList.take k).map f),⟨_,rfl,Bv _,⟨none,rfl⟩,by simp⟩,?_⟩;rintro k m σ' H' ⟨rfl,hk,⟨v,rfl⟩,rfl⟩
 by_cases aO:k < z.cps.size
 ·refine .inr ⟨aO,λσ' H'=>(∃ v,σ'=σ++[v])/\H'=upd H A (.lst<|(z.cps.toList.take<|k+1).map f),λσ' H' hh=>⟨z.cps.size - (k+1),by omega,rfl,aO,hh⟩,?_⟩;rintro x H2 ⟨rfl,c,hc,rfl⟩;intro cl C s₀ H₀ ex;refine hg cl C s₀ H₀ ex _ _ _ _ ?_;intro cl C s₀ H₀ ex;refine gS ?_;rw [BR rfl];intro cl C s₀ H₀ ex;refine he cl C s₀ H₀ ex c _ _ ⟨k,hc⟩ ⟨_,aw,?_,⟨_,rfl⟩,?_⟩
  ·rw [Aa,Be];have:z.cps.toList.length=z.cps.size:=by simp
   omega
  ·rw [qk]
   congr 2
   have bO:z.cps.toList[k]?=some c:=by simpa using hc
   rw [By,bO,Am];rfl
 ·have e:k=z.cps.size:=by omega
  subst e;refine .inl ⟨Ak _,?_⟩;have e2:z.cps.toList.take z.cps.size=z.cps.toList:=Dp (by simp);rw [e2];exact q
end
structure aV(P:Program)(w:World)(K:PySem.W.Frag)(mg:Str->Option Value)(base:Heap)(k:Nat)(x:Str)(ps:List Str)(sp:Sp):Prop where
 ex:∃ f fd,aD P w K mg base bP k f fd ps sp/\Binds K fd ps []/\PySem.W.keepIn K (.ref f)=true/\mg x=some (.ref f)
theorem aV.mono{P:Program}{w:World}{K:PySem.W.Frag}{mg:Str->Option Value}{base:Heap}{j k:Nat}{x:Str}{ps:List Str}{sp:Sp}(h:aV P w K mg base j x ps sp)(le:j<=k):aV P w K mg base k x ps sp:=
 let ⟨f,fd,F,r⟩:=h.ex;⟨f,fd,F.mono le,r⟩
theorem bZ{X:Cx}{k:Nat}{ps:List Str}{sp:Sp}{x:Str}{e:Expr}{es:List Expr}{σ:St}{H:Hp}{Q:VK}{p pos:Pos}(G:aV X.prog X.w X.K X.mg X.base k x ps sp)(hr:bj k X.A)
  (h:Ea X (e :: es) σ H λvs H1=>sp vs H1 Q E0) (hg:Gl X x:=by rfl) (cX:(x == ("__debug__" : Str))=false:=by decide) (hs:noStar (e :: es)=true:=by rfl):Ev X (.Call (.Name x p) (e :: es) [] pos) σ H Q:=
 let ⟨_,_,F,b,kp,m⟩:=G.ex;Lr F hr m kp b UE h hg cX hs
theorem _root_.L2.bj.gg{k:Nat}{A:Around}(hr:bj k A):A.units+100 < cLine:=by have:=hr.un;omega
theorem _root_.L2.bj.u1{k:Nat}{A:Around}(hr:bj k A):A.units+1 < cLine:=by have:=hr.un;omega
def Df(K:PySem.W.Frag)(x:Str)(st:Stmt):Prop:=∃(f:Addr) (fd:FuncData),PySem.W.nsIn K mainGlobals x=some (some<|.ref f)/\bM K x x st f fd
theorem tf{K:PySem.W.Frag}{x:Str}{st:Stmt}{f:Addr}{oc kV doc pm bF ct:Value}{od an:Option Addr}{sl:Array (Option Value)}(a:PySem.W.nsIn K mainGlobals x=some (some<|.ref f))
  (l:K.lookup f=some ⟨oc,od,.func<|PySem.W.fnOf x x (mC st) (jg st) (aW st) .none kV doc pm an bF ct,sl⟩) (c:PySem.W.codeIn K bF x=true) (k:PySem.W.keepIn K (.ref f)=true):Df K x st:=⟨f,_,a,UH l c k⟩
structure tj where
 f:Addr
 bF:Value
 A:Around
 outer:List Env
 s:Shared
 H:Hp
 E:XK
def tu(N:List Str)(qual:Str)(scope:Scope)(P:Program)(w:World)(K:PySem.W.Frag)(mg:Str->Option Value)(base:Heap)(b:tj):Cx:=(eJ bP P w K mg base N qual scope b.f b.bF b.A b.outer b.s b.H b.E).qo
def En(Q:VK):Ends:={nx:=λ_ H'=>Q .non H',rt:=Q}
theorem bM.gb{P:Program}{w:World}{K:PySem.W.Frag}{mg:Str->Option Value}{base:Heap}{x qual:Str}{st:Stmt}{f:Addr}{fd:FuncData}{N ps:List Str}{k:Nat}{sp:Sp}(F:bM K x qual st f fd)(S:ao N ps<|aW st)(len:∀ vs H Q E,sp vs H Q E->vs.length=ps.length)
  (cY:∀(b:tj) (H:Hp) (vs:List V) (Q:VK) (E:XK),bj k (b.A.deeper<|envOfC qual (aW st) b.s.heap.objs.size b.f b.bF)->sp vs H Q E->Run (tu N qual (aW st) P w K mg base b) (jg st) (En Q) (start N vs) H):aD P w K mg base bP (k+1) f fd ps sp:=
 F.go S len λbF A outer s H vs Q E hr d6=>cY ⟨f,bF,A,outer,s,H,E⟩ H vs Q E hr d6
theorem ki{us:List Value}{k:Nat}(h:us.length=k+1):∃ a r,us=a :: r/\r.length=k:=by
 cases us with
 | nil=>cases h
 | cons a r=>exact⟨a,r,rfl,Nat.succ.inj h⟩
theorem gj{fd:FuncData}{ps:List Str}(f:∀ a:Value,bindArgs fd ⟨[a],[]⟩=pure (ps.zip [a])):∀ us:List Value,us.length=1->bindArgs fd ⟨us,[]⟩=pure (ps.zip us):=λus h=>by
 obtain⟨a,r0,e0,h0⟩:=ki h;have z:=Bf.mp h0;subst z e0;exact f a
theorem oI{fd:FuncData}{ps:List Str}(f:∀ a b:Value,bindArgs fd ⟨[a,b],[]⟩=pure (ps.zip [a,b])):∀ us:List Value,us.length=2->bindArgs fd ⟨us,[]⟩=pure (ps.zip us):=λus h=>by
 obtain⟨a,r0,e0,h0⟩:=ki h;obtain⟨b,r1,e1,h1⟩:=ki h0;have z:=Bf.mp h1;subst z e1 e0;exact f a b
theorem wF{fd:FuncData}{ps:List Str}(f:∀ a b c:Value,bindArgs fd ⟨[a,b,c],[]⟩=pure (ps.zip [a,b,c])):∀ us:List Value,us.length=3->bindArgs fd ⟨us,[]⟩=pure (ps.zip us):=λus h=>by
 obtain⟨a,r0,e0,h0⟩:=ki h;obtain⟨b,r1,e1,h1⟩:=ki h0;obtain⟨c,r2,e2,h2⟩:=ki h1;have z:=Bf.mp h2;subst z e2 e1 e0;exact f a b c
theorem LL{fd:FuncData}{ps:List Str}(f:∀ a b c d:Value,bindArgs fd ⟨[a,b,c,d],[]⟩=pure (ps.zip [a,b,c,d])):∀ us:List Value,us.length=4->bindArgs fd ⟨us,[]⟩=pure (ps.zip us):=λus h=>by
 obtain⟨a,r0,e0,h0⟩:=ki h;obtain⟨b,r1,e1,h1⟩:=ki h0;obtain⟨c,r2,e2,h2⟩:=ki h1;obtain⟨d,r3,e3,h3⟩:=ki h2;have z:=Bf.mp h3;subst z e3 e2 e1 e0;exact f a b c d
theorem Df.has{P:Program}{w:World}{K:PySem.W.Frag}{mg:Str->Option Value}{h base:Heap}{k:Nat}{x:Str}{st:Stmt}{ps:List Str}{sp:Sp}(d:Df K x st)(X:K.In h)(G:h.Ns mainGlobals mg)
  (hb:∀(kV doc pm:Value) (an:Option Addr) (bF ct:Value) (us:List Value),us.length=ps.length->bindArgs (PySem.W.fnOf x x (mC st) (jg st) (aW st) .none kV doc pm an bF ct) ⟨us,[]⟩=pure (ps.zip us))
  (ok:∀{f:Addr} {fd:FuncData},bM K x x st f fd->aD P w K mg base bP k f fd ps sp):aV P w K mg base k x ps sp:=
 let ⟨f,fd,a,F⟩:=d;⟨f,fd,ok F,F.binds hb,F.kp,IW X G a⟩
theorem Df.law{P:Program}{w:World}{K:PySem.W.Frag}{mg:Str->Option Value}{h:Heap}{k:Nat}{x y:Str}{st:Stmt}{sp:Sp}{fa:Addr}(d:Df K x st)(X:K.In h)(G:h.Ns mainGlobals mg)(A9:mg x=some (.ref fa))
  (hb:∀(kV doc pm:Value) (an:Option Addr) (bF ct:Value) (s:Shared) (v:Value),BindsTo s (PySem.W.fnOf x x (mC st) (jg st) (aW st) .none kV doc pm an bF ct) ⟨[v],[]⟩ [(y,v)])
  (ok:∀(base:Heap) {f:Addr} {fd:FuncData},bM K x x st f fd->aD P w K mg base bP k f fd [y] sp) :
  ∃ fd:FuncData,(∀(s:Shared) (v:Value),BindsTo s fd ⟨[v],[]⟩ [(y,v)])/\∀ base:Heap,K.In base->base.Ns mainGlobals mg->aD P w K mg base bP k fa fd [y] sp:=by
 obtain⟨f,fd,a,F⟩:=d;have e:=A9.symm.trans<|IW X G a;cases e;obtain⟨oc,od,kV,doc,pm,an,bF,ct,jz,rfl,lk,ii⟩:=id F.ex;exact⟨_,hb kV doc pm an bF ct,λbase _ _=>ok base F⟩
end L2
namespace bT
open PySem
def qJ(m i:Nat):Nat:=(i * 5+1) % m
def gk(m:Nat):Nat->Nat->List Nat
 | 0,_=>[]
 | n+1,i=>i :: gk m n (qJ m i)
def lr(m:Nat):Nat->Nat->Nat
 | 0,i=>i
 | n+1,i=>lr m n<|qJ m i
theorem wG(m:Nat):∀ a b i,lr m (a+b) i=lr m b (lr m a i)
 | 0,b,i=>by rw [Ge];rfl
 | a+1,b,i=>by
  rw [show a+1+b=(a+b)+1 by omega];exact wG m a b<|qJ m i
theorem BA(m:Nat):∀ n t i,t < n->lr m t i∈gk m n i
 | 0,_,_,h=>by omega
 | n+1,0,i,_=>Ad
 | n+1,t+1,i,h=>Aj _<|BA m n t (qJ m i)<|by omega
theorem BD(m:Nat):∀ n i j,j∈gk m n i->∃ t,t < n/\lr m t i=j
 | 0,_,_,h=>by cases h
 | n+1,i,j,h=>by
  rcases Ai.mp h with rfl | h
  ·exact⟨0,Em _,rfl⟩
  ·obtain⟨t,ht,e⟩:=BD m n (qJ m i) j h;exact⟨t+1,Nat.succ_lt_succ ht,e⟩
def covers(m:Nat):Bool:=lr m m 0 == 0 && (List.range m).all λj=>(gk m m 0).contains j
theorem VI:covers 8=true:=by decide +kernel
theorem VJ:covers 16=true:=by decide +kernel
theorem VL:covers 32=true:=by decide +kernel
theorem VM:covers 64=true:=by decide +kernel
theorem VN:covers 128=true:=by decide +kernel
theorem VO:covers 512=true:=by decide +kernel
def Pow(m:Nat):Prop:=m=8\/m=16\/m=32\/m=64\/m=128\/m=512
theorem Pow.covers{m:Nat}(h:Pow m):bT.covers m=true:=by
 rcases h with rfl | rfl | rfl | rfl | rfl | rfl
 ·exact VI
 ·exact VJ
 ·exact VL
 ·exact VM
 ·exact VN
 ·exact VO
theorem Pow.pos{m:Nat}(h:Pow m):8<=m/\m<=512:=by rcases h with rfl | rfl | rfl | rfl | rfl | rfl <;> decide
theorem Pow.mem{m i j:Nat}(h:Pow m)(hi:i < m)(hj:j < m):j∈gk m m i:=by
 have q:=h.covers;unfold bT.covers at q;rw [Bk,Cq,KQ] at q;obtain⟨z,q⟩:=q;obtain⟨a,ha,ea⟩:=BD m m 0 i<|Ci.mp<|q i<|Bu.mpr hi;obtain⟨b,hb,eb⟩:=BD m m 0 j<|Ci.mp<|q j<|Bu.mpr hj
 rcases Cy b a with c | c
 ·have e:lr m (b+m - a) i=j:=by
   rw [<- ea,<- wG,show a+(b+m - a)=m+b by omega,wG,z,eb]
  rw [<- e];exact BA m m _ i<|by omega
 ·have e:lr m (b - a) i=j:=by
   rw [<- ea,<- wG,show a+(b - a)=b by omega,eb]
  rw [<- e];exact BA m m _ i<|by omega
def oJ(mask:Nat):Nat->Nat->Nat->List Nat
 | 0,_,_=>[]
 | n+1,i,p=>i :: oJ mask n (SetTable.leap mask i p).1 (SetTable.leap mask i p).2
theorem LN(mask:Nat):∀ n i,oJ mask n i 0=gk (mask+1) n i
 | 0,_=>rfl
 | n+1,i=>by
  show i :: oJ mask n ((i * 5+1+0 / 32) % (mask+1)) (0 / 32)=i :: gk (mask+1) n (qJ (mask+1) i);rw [show(0 / 32:Nat)=0 by decide,Nat.add_zero,LN mask n];rfl
theorem LO{mask i p:Nat}:(SetTable.leap mask i p).1 < mask+1:=Gh _<|Em _
theorem LU{mask:Nat}:∀(t n i p:Nat),i < mask+1->p < 32 ^ t->∃ i',i' < mask+1/\∀ j∈gk (mask+1) n i',j∈oJ mask (t+n) i p
 | 0,n,i,p,hi,hp=>by
  have e:p=0:=by simpa using hp
  subst e;refine⟨i,hi,λj hj=>?_⟩;rw [Ge,LN];exact hj
 | t+1,n,i,p,hi,hp=>by
  have h2:p / 32 < 32 ^ t:=by
   rw [Nat.div_lt_iff_lt_mul<|by decide];rw [Nat.pow_succ] at hp;exact hp
  obtain⟨i',h',q⟩:=LU t n (SetTable.leap mask i p).1 (p / 32) LO h2;refine⟨i',h',λj hj=>?_⟩;rw [show t+1+n=(t+n)+1 by omega];exact Aj _<|q j hj
theorem LV{mask i p j:Nat}(hm:Pow<|mask+1)(hi:i < mask+1)(hp:p < 2 ^ 64)(hj:j < mask+1):j∈oJ mask (mask+15) i p:=by
 obtain⟨i',h',q⟩:=LU (mask:=mask) 14 (mask+1) i p hi (Bg hp<|by decide);have:=q j<|hm.mem h' hj;rwa [show 14+(mask+1)=mask+15 by omega] at this
abbrev eN:=Array<|Option Nat
def nil?(owner:eN)(j:Nat):Bool:=(owner.getD j<|some 0).isNone
theorem BF(mask i:Nat):i<=SetTable.runEnd mask i:=by unfold SetTable.runEnd;split <;> omega
theorem LW{mask:Nat}{owner:eN}:∀{fuel i p:Nat},SetTable.layClean.free mask owner fuel i p=none->∀ j∈oJ mask fuel i p,nil? owner j=false
 | 0,_,_,_,j,hj=>by cases hj
 | fuel+1,i,p,h,j,hj=>by
  unfold SetTable.layClean.free at h
  split at h
  ·cases h
  ·rename_i hf
   rcases Ai.mp hj with rfl | hj
   ·have:=Eh.mp hf 0 (Bu.mpr<|by have:=BF mask j;omega);rw [Nat.add_zero] at this;exact Dx.mpr this
   ·exact LW (fuel:=fuel) h j hj
theorem LX{mask:Nat}{owner:eN}:∀{fuel i p j:Nat},SetTable.layClean.free mask owner fuel i p=some j->nil? owner j=true
 | 0,_,_,_,h=>by cases h
 | fuel+1,i,p,j,h=>by
  unfold SetTable.layClean.free at h
  split at h
  ·rename_i k hf;cases h;have:=Gs hf;exact this
  ·exact LX (fuel:=fuel) h
theorem nil?_iff{owner:eN}{j:Nat}:nil? owner j=true↔owner[j]?=some none:=by
 unfold nil?;rw [Cu];cases h:owner[j]? with
 | none=>simp
 | some v=>cases v <;> simp
structure Lies(m:Nat)(owner:eN)(k:Nat):Prop where
 size:owner.size=m
 lt:∀(j v:Nat),owner[j]?=some (some v)->v < k
 has:∀ v:Nat,v < k->∃ j:Nat,owner[j]?=some (some v)
 inj:∀(i j v:Nat),owner[i]?=some (some v)->owner[j]?=some (some v)->i=j
theorem Lies.start(m:Nat):Lies m (Array.replicate m none) 0 where
 size:=by simp
 lt:=λj v h=>by
  rw [Fv] at h
  split at h <;> cases h
 has:=λv h=>by omega
 inj:=λi j v h=>by
  rw [Fv] at h
  split at h <;> cases h
theorem Lies.put{m k j:Nat}{owner:eN}(L:Lies m owner k)(hj:owner[j]?=some none):Lies m (owner.setIfInBounds j<|some k) (k+1):=by
 have aO:j < owner.size:=by
  rcases Cy j owner.size with h | h
  ·exact h
  ·rw [Dg h] at hj;cases hj
 have at':∀ i:Nat,(owner.setIfInBounds j<|some k)[i]?=if j=i then some (some k) else owner[i]?:=by
  intro i;rw [Fh]
  split
  ·rename_i e;subst e;first | rfl | rw [BR aO]
  ·rfl
 refine⟨by rw [Array.size_setIfInBounds];exact L.size,λi v h=>?_,λv h=>?_,λa b v ha hb=>?_⟩
 ·rw [at'] at h
  split at h
  ·cases h;exact Gi _
  ·exact Ce<|L.lt i v h
 ·rcases Nat.lt_succ_iff_lt_or_eq.mp h with h | rfl
  ·obtain⟨i,hi⟩:=L.has v h;refine⟨i,?_⟩;rw [at',BK λe=>by subst e;rw [hj] at hi;cases hi];exact hi
  ·exact⟨j,by rw [at',BR rfl]⟩
 ·rw [at'] at ha hb
  split at ha
  ·rename_i e;cases ha
   split at hb
   ·rename_i e2;exact e.symm.trans e2
   ·have:=L.lt b k hb;omega
  ·split at hb
   ·cases hb;have:=L.lt a k ha;omega
   ·exact L.inj a b v ha hb
def live(m:Nat)(owner:eN):List (Nat×Nat):=(List.range m).filterMap λj=>(owner.getD j none).map (j,·)
theorem getD_some{owner:eN}{j v:Nat}:owner.getD j none=some v↔owner[j]?=some (some v):=by
 rw [Cu];cases h:owner[j]? with
 | none=>simp
 | some x=>simp
theorem c0{m:Nat}{owner:eN}{p:Nat×Nat}:p∈live m owner↔p.1 < m/\owner[p.1]?=some (some p.2):=by
 unfold live;rw [Fz]
 constructor
 ·rintro ⟨j,hj,e⟩;cases hv:owner.getD j none with
  | none=>rw [hv] at e;cases e
  | some v=>
   rw [hv] at e;cases e;exact⟨Bu.mp hj,getD_some.mp hv⟩
 ·rintro ⟨h1,h2⟩;exact⟨p.1,Bu.mpr h1,by rw [getD_some.mpr h2];rfl⟩
theorem Lies.nodup{m k:Nat}{owner:eN}(L:Lies m owner k):((live m owner).map (·.2)).Nodup:=by
 have q:∀ l:List Nat,l.Nodup->((l.filterMap λj=>(owner.getD j none).map (j,·)).map (·.2)).Nodup:=by
  intro l
  induction l with
  | nil=>intro _;exact Cd
  | cons a r ih=>
   intro hn;rw [Bn] at hn;rw [Ed];cases hv:owner.getD a none with
   | none=>exact ih hn.2
   | some v=>
    show(v :: (r.filterMap λj=>(owner.getD j none).map (j,·)).map (·.2)).Nodup;rw [Bn];refine⟨λh=>?_,ih hn.2⟩;obtain⟨p,hp,e⟩:=Al.mp h;obtain⟨j,hj,e2⟩:=Fz.mp hp;cases hw:owner.getD j none with
    | none=>rw [hw] at e2;cases e2
    | some u=>
     rw [hw] at e2;cases e2;have e3:u=v:=e;subst e3;have:=L.inj a j u (getD_some.mp hv)<|getD_some.mp hw;subst this;exact hn.1 hj
 exact q _ Gj
theorem Lies.perm{m k:Nat}{owner:eN}(L:Lies m owner k):((live m owner).map (·.2)).Perm (List.range k):=by
 rw [QS L.nodup Gj];intro v;rw [Bu,Al]
 constructor
 ·rintro ⟨p,hp,rfl⟩;exact L.lt _ _ (c0.mp hp).2
 ·intro h;obtain⟨j,hj⟩:=L.has v h;have aO:j < m:=by
   rw [<- L.size]
   rcases Cy j owner.size with h | h
   ·exact h
   ·rw [Dg h] at hj;cases hj
  exact⟨(j,v),c0.mpr ⟨aO,hj⟩,rfl⟩
theorem Lies.length{m k:Nat}{owner:eN}(L:Lies m owner k):(live m owner).length=k:=by
 have:=L.perm.length_eq;rwa [Aa,Dq] at this
theorem Lies.room{m k:Nat}{owner:eN}(L:Lies m owner k)(h:k < m):∃ j,j < m/\nil? owner j=true:=by
 refine CV λhn=>?_;have all:∀ j,j < m->∃ v,owner.getD j none=some v:=by
  intro j hj;have hs:j < owner.size:=by rw [L.size];exact hj
  cases hv:owner[j] with
  | none=>exact absurd ⟨j,hj,nil?_iff.mpr<|by rw [Bz hs,hv]⟩ hn
  | some v=>exact⟨v,getD_some.mpr<|by rw [Bz hs,hv]⟩
 have len:∀ l:List Nat,(∀ j∈l,j < m)->(l.filterMap λj=>(owner.getD j none).map (j,·)).length=l.length:=by
  intro l
  induction l with
  | nil=>intro _;rfl
  | cons a r ih=>
   intro hl;obtain⟨v,hv⟩:=all a<|hl a Ad;rw [Ed,hv];show(_ :: _).length=_;rw [Ao,Ao,ih λj hj=>hl j<|Aj _ hj]
 have e:=len (List.range m) λj hj=>Bu.mp hj;have e2:=L.length;unfold live at e2;rw [e,Dq] at e2;omega
theorem LY(h:Int):SetTable.bits h < 2 ^ 64:=by
 unfold SetTable.bits;have h1:0<=h % (2 ^ 64:Int):=Bi _ (by decide);have h2:h % (2 ^ 64:Int) < 2 ^ 64:=Bo _ (by decide);omega
theorem Lies.free{mask k:Nat}{owner:eN}(L:Lies (mask+1) owner k)(hm:Pow<|mask+1)(h:k < mask+1)(x:Int) :
  ∃ j,SetTable.layClean.free mask owner (SetTable.turns mask) (SetTable.bits x % (mask+1)) (SetTable.bits x)=some j/\owner[j]?=some none:=by
 cases e:SetTable.layClean.free mask owner (SetTable.turns mask) (SetTable.bits x % (mask+1)) (SetTable.bits x) with
 | some j=>exact⟨j,rfl,nil?_iff.mp<|LX e⟩
 | none=>
  obtain⟨j,hj,q⟩:=L.room h;have:=LW e j<|LV hm (Gh _<|Em _) (LY x) hj;rw [q] at this;cases this
def wH(mask:Nat)(acc:Option<|eN×Nat)(h:Int):Option (eN×Nat):=do
 let (owner,k) <- acc
 let j <- SetTable.layClean.free mask owner (SetTable.turns mask) (SetTable.bits h % (mask+1))<|SetTable.bits h
 pure (owner.setIfInBounds j<|some k,k+1)
def dM(w:World):Bool:=w.params.followText "set-order"
def keyOf(e:Int×Value):Str:=match e.2 with
 | .str x _=>x
 | _=>⟨#[]⟩
section
variable(prog:Program)(w:World)
def BG(e:Int×Value):Prop:=∃ z t,e=((strKind prog w).hash z,Value.str z t)
structure Tab(es:Array<|Int×Value)(t:SetTable)(zs:List Str):Prop where
 elts:∀ e∈es.toList,BG prog w e
 keys:(es.toList.map keyOf).Perm zs
 nodup:zs.Nodup
 few:zs.length < 1000
 fits:t.fits es.size=true
 led:t.led = !dM w
 plain:es=#[]\/t.plain=false
def aY(h:Heap)(a:Addr)(zs:List Str):Prop:=∃ o es ep t,h.get? a=some o/\o.ExactSet/\o.data = .set es ep t/\Tab prog w es t zs
end
section
variable{prog:Program}{w:World}{es:Array (Int×Value)}{t:SetTable}{zs:List Str}{h h':Heap}{a:Addr}
theorem Tab.elems(T:Tab prog w es t zs):ElemsOf (strKind prog w) es.toList:=λe he=>by
 obtain⟨z,u,rfl⟩:=T.elts e he;exact⟨⟨z,strKind_is _ _ _ _,rfl⟩,rfl⟩
theorem Tab.size(T:Tab prog w es t zs):es.size=zs.length:=by
 have:=T.keys.length_eq;rw [Aa,Bx] at this;exact this
theorem Tab.jI(T:Tab prog w es t zs):es.size < 1000:=by rw [T.size];exact T.few
theorem Tab.scan(T:Tab prog w es t zs):es.size < scanBound:=by have:=T.jI;unfold scanBound;omega
theorem Tab.perm{da:Array (Int×Value)}{t':SetTable}(T:Tab prog w es t zs)(p:da.toList.Perm es.toList)(hf:t'.fits da.size=true)(hl:t'.led=t.led)(hp:da=#[]\/t'.plain=false):Tab prog w da t' zs:=
 ⟨λe he=>T.elts e<|p.mem_iff.mp he,(p.map keyOf).trans T.keys,T.nodup,T.few,hf,hl.trans T.led,hp⟩
theorem aY.keep(S:aY prog w h a zs)(k:∀ o,h.get? a=some o->h'.get? a=some o):aY prog w h' a zs:=let ⟨o,es,ep,t,h1,h2⟩:=S;⟨o,es,ep,t,k o h1,h2⟩
theorem LZ{o:Obj}{ep:Nat}{da:Array (Int×Value)}{t':SetTable}{L4:List Str}(ho:h.get? a=some o)(hx:o.ExactSet)(hd:o.data = .set es ep t)(T':Tab prog w da t' L4) :
  (h.update a<|Obj.putSet da t').get? a=some {o with data:= .set da (ep+1) t'}/\aY prog w (h.update a<|Obj.putSet da t') a L4:=by
 have q:=Ch (Obj.putSet da t') ho (by rw [putSet_of da t' hd];rfl);rw [putSet_of da t' hd] at q;exact⟨q,_,da,ep+1,t',q,hx,rfl,T'⟩
theorem BH{e:Int×Value}(he:BG prog w e)(z:Str):(strKind prog w).is z e.2=decide (z=keyOf e):=by
 obtain⟨y,u,rfl⟩:=he;exact KeyKind.is_eq_decide (strKind_is prog w y u) z
theorem find_none(T:Tab prog w es t zs){z:Str}(hz:z∉zs):es.toList.findIdx? (λe=>(strKind prog w).is z e.2)=none:=by
 rw [List.findIdx?_eq_none_iff];intro e he;rw [BH<|T.elts e he,KY];rintro rfl;exact hz<|T.keys.mem_iff.mp<|List.mem_map_of_mem he
theorem find_some(T:Tab prog w es t zs){z:Str}(hz:z∈zs):∃ j,∃ hj:j < es.toList.length,es.toList.findIdx? (λe=>(strKind prog w).is z e.2)=some j/\keyOf es.toList[j]=z:=by
 obtain⟨e,he,e2⟩:=Al.mp<|T.keys.mem_iff.mpr hz;cases q:es.toList.findIdx? (λe=>(strKind prog w).is z e.2) with
 | none=>
  have:=List.findIdx?_eq_none_iff.mp q e he;rw [BH<|T.elts e he,KY] at this;exact absurd e2.symm this
 | some j=>
  obtain⟨hj,p,_⟩:=List.findIdx?_eq_some_iff_getElem.mp q;rw [BH<|T.elts _<|Cb hj,GJ] at p;exact⟨j,hj,rfl,p.symm⟩
theorem VP(t:SetTable)(n:Nat):(t.orStandIn n).led=t.led/\((t.orStandIn n).plain=true->t.plain=true):=by
 unfold SetTable.orStandIn
 split
 ·exact⟨rfl,id⟩
 ·exact⟨rfl,λh=>by cases h⟩
theorem VQ(t:SetTable)(es:Array<|Int×Value)(x:Int)(v:Value):(layNew t es x v).2.1.led=t.led:=by
 unfold layNew
 split
 ·exact(VP _ _).1
 ·rfl
theorem VR{mask f m:Nat}{l p:Bool}{hs:Array Int}{t':SetTable}{o:Array Nat}(e:SetTable.laid mask f m l p hs=some (t',o)):t'.led=l/\t'.plain=p:=by
 unfold SetTable.laid at e;cases c:SetTable.layClean mask hs with
 | none=>rw [c] at e;cases e
 | some ow=>rw [c] at e;cases e;exact⟨rfl,rfl⟩
theorem L9(t:SetTable)(es:Array<|Int×Value)(n:Nat)(hp:t.plain=false):(relayAll t es n).2.1.led=t.led/\(relayAll t es n).2.1.plain=false:=by
 unfold relayAll
 split
 ·rename_i t' o e;have q:=VR e
  dsimp only
  split
  ·exact⟨q.1,q.2.trans hp⟩
  ·exact⟨rfl,rfl⟩
 ·exact⟨rfl,rfl⟩
end
section
variable{prog:Program}{w:World}{A:Around}{E:Value->Shared->Prop}{s:Shared}{a:Addr}{zs:List Str}
theorem mK{n:Nat}(h:n < 1001):n<=sizeLine:=by rw [EY];omega
theorem Ma{g:Bool->Sem Unit}(hg:∀(b:Bool) (s₁:Shared) (Q':Unit->Shared->Prop),Q' () s₁->wpAny (model prog w) A (g b) Q' E s₁)
  {o:Obj} {es:Array (Int×Value)} {ep:Nat} {t:SetTable} (ho:s.heap.get? a=some o) (hx:o.ExactSet) (hd:o.data = .set es ep t)
  {c6:Array (Int×Value)} {t2:SetTable} (T:Tab prog w c6 t2 zs) (hp:t2.plain=false) {c:Bool} {R:Option Bool->Shared->Prop}
  (k:∀ h',Heap.SameBut a s.heap h'->aY prog w h' a zs->R (some true) {s with heap:=h'}) :
  wpAny (model prog w) A (do
   storeSet a c6 t2
   if c=true then do
     g (relayAll t2 c6<|SetTable.grown c6.size).2.2
     storeSet a (relayAll t2 c6<|SetTable.grown c6.size).1 (relayAll t2 c6<|SetTable.grown c6.size).2.1
     pure (some true)
    else pure (some true)) R E s:=by
 refine BJ<|LC ho hd ?_<|mK<|Ce T.jI;obtain⟨q1,q2⟩:=LZ ho hx hd T;have sb:=DN s.heap a<|Obj.putSet c6 t2;cases c with
 | false=>exact BL<|k _ sb q2
 | true=>
  have p:=relayAll_perm t2 c6<|SetTable.grown c6.size;have T3:=T.perm p (relayAll_fits t2 c6<|SetTable.grown c6.size) (L9 t2 c6 _ hp).1<|.inr (L9 t2 c6 _ hp).2;refine BJ<|hg _ _ _ ?_;refine BJ<|LC q1 rfl ?_ (mK<|Ce T3.jI);exact BL<|k _ (sb.trans<|DN _ a _) (LZ q1 hx rfl T3).2
def added(zs:List Str)(z:Str):List Str:=if z∈zs then zs else zs++[z]
theorem Mb{z:Str}{tk:Tok}{Q:Bool->Shared->Prop}(S:aY prog w s.heap a zs)(hb:zs.length+1 < 1000)
  (k:∀(b:Bool) h',Heap.SameBut a s.heap h'->aY prog w h' a (added zs z)->Q b {s with heap:=h'}) :
  wpAny (model prog w) A (setAddHashed a (.str z tk)<|(strKind prog w).hash z) Q E s:=by
 obtain⟨o,es,ep,t,ho,hx,hd,T⟩:=S;unfold setAddHashed setAddHashedIn;refine CK<|BJ<|DG ho hd T.fits ?_
 dsimp only
 rw [byScan_of (knd:=strKind prog w) (x:= .str z tk) rfl T.scan T.elems];simp only [↓reduceIte];unfold setAddByScan;refine BJ<|BJ<|JH<|BJ<|wpAny_setScan_of (knd:=strKind prog w) (k:=z) (strKind_is _ _ _ _) ho hd T.fits T.elems ?_
 by_cases hz:z∈zs
 ·obtain⟨j,hj,e,_⟩:=find_some T hz;rw [e]
  dsimp only
  refine BL<|BL<|k false s.heap (Heap.SameBut.refl a s.heap) ?_;unfold added;rw [BR hz];exact⟨o,es,ep,t,ho,hx,hd,T⟩
 ·rw [find_none T hz]
  dsimp only
  have gw:∀(b:Bool) (s₁:Shared) (Q':Unit->Shared->Prop),Q' () s₁->wpAny (model prog w) A (match b with | true=>rule "set.scan.the-table-gave-way" | false=>pure ()) Q' E s₁:=
   λb s₁ Q' q=>by cases b <;> first | exact BL q | exact JH q
  have p:=layNew_perm t es ((strKind prog w).hash z)<|.str z tk;have f:=layNew_fits t es ((strKind prog w).hash z)<|.str z tk;have l:=VQ t es ((strKind prog w).hash z)<|.str z tk;generalize layNew t es ((strKind prog w).hash z) (.str z tk)=L at p f l ⊢;obtain⟨c6,t1,wd,gv⟩:=L
  dsimp only at p f l ⊢
  rw [Array.toList_push] at p;have tab:∀ t2:SetTable,t2.fits c6.size=true->t2.led=t1.led->t2.plain=false->Tab prog w c6 t2 (zs++[z]):=λt2 h1 h2 h3=>{
   elts:=λe he=>by
    rcases An.mp (p.mem_iff.mp he) with he | he
    ·exact T.elts e he
    ·exact⟨z,tk,Ag.mp he⟩
   keys:=by
    refine(p.map keyOf).trans ?_;rw [Am];exact T.keys.append<|List.Perm.refl _
   nodup:=by
    rw [Cc];refine⟨T.nodup,by simp,λx hx y hy e=>?_⟩;rw [Ag] at hy;subst hy e;exact hz hx
   few:=by rw [Ae];exact hb
   fits:=h1
   led:=h2.trans<|l.trans T.led
   plain:= .inr h3}
  have fin:∀ h',Heap.SameBut a s.heap h'->aY prog w h' a (zs++[z])->Q true {s with heap:=h'}:=λh' q1 q2=>k true h' q1 (by unfold added;rw [BK hz];exact q2);refine BJ<|gw _ _ _ ?_
  split
  ·rename_i hp;refine BJ ?_;rw [hashByValue_scannable 8 rfl];refine BL ?_;refine Ma gw ho hx hd (tab {t1 with plain:=false} (SetTable.fits_plain_off f) rfl rfl) rfl λh' q1 q2=>?_
   dsimp only
   exact BL<|fin h' q1 q2
  ·rename_i hp;refine BJ<|BL ?_;simp only [↓reduceIte];refine Ma gw ho hx hd (tab t1 f rfl (Dx.mpr hp)) (Dx.mpr hp) λh' q1 q2=>?_
   dsimp only
   exact BL<|fin h' q1 q2
theorem bu{α:Type}:∀(l:List α) (j:Nat) (hj:j < l.length),(l[j] :: l.eraseIdx j).Perm l
 | [],_,h=>by simp at h
 | x :: r,0,_=>List.Perm.refl _
 | x :: r,j+1,h=>(List.Perm.swap x _ _).trans<|(bu r j<|Nat.lt_of_succ_lt_succ h).cons x
theorem Md{α:Type}(next:Nat->Nat):∀(fuel k:Nat) (left:List α) (out:Array α),left.length<=fuel->(pickOrder.go next fuel k left out).toList.Perm (out.toList++left)
 | 0,k,left,out,h=>by
  have:left=[]:=Bf.mp (by omega);subst this;unfold pickOrder.go;simp
 | fuel+1,k,left,out,h=>by
  unfold pickOrder.go;cases e:left[next k % left.length]? with
  | none=>
   have:left=[]:=by
    cases left with
    | nil=>rfl
    | cons x r=>
     have hl:next k % (x :: r).length < (x :: r).length:=Gh _ (by simp);rw [Ab hl] at e;cases e
   subst this;simp
  | some x=>
   dsimp only
   obtain⟨hl,e2⟩:=Ac.mp e;refine(Md next fuel (k+1) _ _ (by rw [Do,BR hl];omega)).trans ?_;rw [Array.toList_push,Ba];refine List.Perm.append_left _ ?_;have:=bu left _ hl;rw [e2] at this;exact this
theorem VS{α:Type}(next:Nat->Nat)(xs:Array α):(pickOrder next xs).toList.Perm xs.toList:=by
 have:=Md next xs.size 0 xs.toList #[] (by simp)
 simpa [pickOrder] using this
theorem wp_choose{src:Source}{n:Nat}{Q:Nat->Shared->Prop}(hn:n≠0)(h:∀ i d,i < n->Q i {s with drawn:=d}):wpAny (model prog w) A (choose src n) Q E s:=
 λΓ p _=>⟨hn,h _ _<|Gh _<|Nat.pos_of_ne_zero hn⟩
theorem Mf{α:Type}:∀(n:Nat) (xs:List α) (s:Shared) (Q:List α->Shared->Prop),xs.length<=n->(∀ ys d,ys.Perm xs->Q ys {s with drawn:=d})->wpAny (model prog w) A (drawOrder n xs) Q E s
 | 0,xs,s,Q,h,k=>by
  have:xs=[]:=Bf.mp (by omega);subst this;unfold drawOrder;exact BL<|k [] s.drawn<|List.Perm.refl _
 | n+1,[],s,Q,h,k=>by
  unfold drawOrder;exact BL<|k [] s.drawn<|List.Perm.refl _
 | n+1,x :: r,s,Q,h,k=>by
  unfold drawOrder;refine BJ (wp_choose (by simp) λi d hi=>?_);rw [Ab hi]
  dsimp only
  refine BJ (Mf n _ _ _ (by rw [Do,BR hi];omega) λys d2 p=>?_);exact BL<|k _ d2<|(p.cons _).trans<|bu _ i hi
theorem wp_text{Q:Bool->Shared->Prop}(k:Q (dM w) s):wpAny (model prog w) A setsByText Q E s:=by
 unfold setsByText;exact BJ<|MK<|BL k
variable{o:Obj}{es:Array (Int×Value)}{ep:Nat}{t:SetTable}
end
open Builtin.Frozenset
section
variable{prog:Program}{w:World}{A:Around}{E:Value->Shared->Prop}{s:Shared}{a:Addr}{zs:List Str}
structure oK(w:World)(t:SetTable):Prop where
 place:t.place=#[]
 dummies:t.dummies=#[]
 led:t.led = !dM w
 plain:t.plain=true
theorem oK.tab{t:SetTable}(B:oK w t):Tab prog w #[] t []:=
 ⟨λe he=>by simp at he,by simp,Cd,by decide,by unfold SetTable.fits SetTable.fill;rw [B.place,B.dummies];simp,B.led,.inl rfl⟩
variable{o:Obj}{ep:Nat}{t:SetTable}
end
section
variable{prog:Program}{w:World}{A:Around}{E:Value->Shared->Prop}{s:Shared}{a r:Addr}{za zr:List Str}
end
def made(zs:List Str):List Str:=zs.foldl added []
theorem VU(zs:List Str)(z y:Str):y∈added zs z↔y∈zs\/y=z:=by
 unfold added
 split
 ·rename_i h;exact⟨.inl,λq=>q.elim id λe=>e ▸ h⟩
 ·rw [An,Ag]
theorem VV(zs:List Str)(z:Str):(added zs z).length<=zs.length+1:=by
 unfold added
 split <;> simp
theorem Mg:∀(ps zs:List Str) (y:Str),y∈ps.foldl added zs↔y∈zs\/y∈ps
 | [],zs,y=>by simp
 | p :: r,zs,y=>by
  rw [Db,Mg r,VU,Ai]
  constructor
  ·rintro ((h | h) | h)
   ·exact .inl h
   ·exact .inr<|.inl h
   ·exact .inr<|.inr h
  ·rintro (h | h | h)
   ·exact .inl<|.inl h
   ·exact .inl<|.inr h
   ·exact .inr h
theorem Mh:∀(ps zs:List Str),(ps.foldl added zs).length<=zs.length+ps.length
 | [],zs=>by simp
 | p :: r,zs=>by
  rw [Db,Ao];have h1:=Mh r<|added zs p;have h2:=VV zs p;omega
theorem wI(zs:List Str)(y:Str):y∈made zs↔y∈zs:=by
 unfold made;rw [Mg];simp
theorem BI(zs:List Str):(made zs).length<=zs.length:=by
 have:=Mh zs []
 simpa [made] using this
section
variable{prog:Program}{w:World}{A:Around}{E:Value->Shared->Prop}{s:Shared}
def fG(w:World):Obj:={cls:= .type "set",dict:=none,data:= .set #[] 0 (.fresh 0 0 (!dM w))}
theorem Mi{h:Heap}{a:Addr}(e:h.get? a=some (fG w)):aY prog w h a []:=⟨_,_,_,_,e,⟨rfl,rfl,rfl⟩,rfl,oK.tab ⟨rfl,rfl,rfl,rfl⟩⟩
theorem VW(v:Value){Q:Value->Shared->Prop}(k:Q (.ref s.heap.objs.size) {s with heap:=s.heap.push (fG w)}) :
  codeAny (model prog w) A (.call (.builtin "set.__new__") ⟨[.type "set",v],[]⟩) (wants Q E) s:=by
 refine JZ ?_;show wpAny _ A.in1 (checkBuiltinCall "set.__new__" ⟨[.type "set",v],[]⟩ >>= λ_=>again<|.builtin "set.__new__" ⟨[.type "set",v],[]⟩) _ _ s;refine BJ<|JM (F.newCall_set_1 v)<|BL ⟨JB F.plain_set_new _,GK F.entry_set_new ?_⟩;rw [FZ F.plain_set_new _];unfold Builtin.«set.__new__» newClass
 dsimp only
 refine BJ<|BJ<|JM (show isType (.type "set")=pure true from rfl)<|BL ?_;simp only [Dv,Ax,CQ];unfold newSet;refine BJ<|BJ<|wp_text ?_
 dsimp only
 simp only [newObj];refine BJ<|RX<|BL ?_;exact BL k
variable{R:Result->Shared->Prop}{I:Addr}{fp wr:List Addr}{G:Array GenState->Array GenState->Prop}{n:Nat}{P:Nat->Value->Prop}{St:Nat->Shared->Prop}
theorem VX(W:WalksS prog w A.in1 I fp wr G n P St)(a:Addr)(ha:a∉fp)(zs:List Str)(hn:zs.length=n)(BM:∀ i v,P i v->∃ z t,zs[i]?=some z/\v=Value.str z t)(hb:n < 900) :
  ∀(k i:Nat) (s:Shared),n - i=k->i<=n->St i s->aY prog w s.heap a (made<|zs.take i)->(∀ s',Moved (a :: wr) G s s'->aY prog w s'.heap a (made zs)->R (.ok<|.ret .none) s') ->
   codeAny (model prog w) A (.builtin "set.update.loop" ⟨[.ref a,.ref I],[]⟩) R s:=by
 have Mj:a∉wr:=λh=>ha<|W.sub _ h;have lu:∀ b∈wr,b∈a :: wr:=λb hb=>Aj _ hb;intro k
 induction k with
 | zero=>
  intro i s hk hi st S k2;have e:i=n:=by omega
  subst e;refine GK KD ?_;rw [FZ HJ _];show wpAny _ A.in1 (pyNext (.ref I) >>= _) _ _ s;refine BJ<|W.done s _ _ st λs' m=>?_;show wpAny _ A.in1 (ret Value.none) _ _ s';rw [Dp<|by omega] at S;exact BL<|k2 s' (m.mono lu)<|S.keep λo e=>m.heap a o Mj e
 | succ k ih=>
  intro i s hk hi st S k2;have aO:i < n:=by omega
  refine GK KD ?_;rw [FZ HJ _];show wpAny _ A.in1 (pyNext (.ref I) >>= _) _ _ s;refine BJ<|W.item i s _ _ aO st λv s' hP cS m=>?_;obtain⟨z,t,hz,rfl⟩:=BM i v hP;have S':aY prog w s'.heap a (made<|zs.take i):=S.keep λo e=>m.heap a o Mj e;show wpAny _ A.in1 (holding [Value.str z t] (setAdd a<|.str z t) >>= _) _ _ s';refine BJ<|CK ?_;unfold setAdd;refine CK<|BJ<|(strKind prog w).pyHash (k:=z) (strKind_is _ _ _ _) ?_;have hl:(made<|zs.take i).length<=i:=Cr (BI _) (by rw [Be];omega);refine Mb (s:={s' with toks:=s'.toks+1}) S' (by omega) λb h' sb S2=>?_;have S3:aY prog w h' a (made<|zs.take<|i+1):=by
   rw [By,hz];unfold made;rw [List.foldl_append];exact S2
  refine BL ⟨JB HJ _,ih (i+1) _ (by omega) aO (W.frame _ s' _ _ cS (Fc _) λc hc o e=>?_) S3 λs2 m2 S4=>?_⟩
  ·rw [sb.2 c λh=>ha<|h ▸ hc];exact e
  ·refine k2 s2 (Moved.trans W.gtrans ((m.mono lu).then_heap (Fc _) λc o hc e=>?_) m2) S4;rw [sb.2 c λh=>hc<|h ▸ Ad];exact e
theorem VY{Q:Value->Shared->Prop}{l:Addr}{items:Array Value}{zs:List Str}(hh:A.handled=none)(hl:s.heap.IsList l items)(hi:∀(i:Nat) v,items[i]?=some v->∃ z t,zs[i]?=some z/\v=Value.str z t)(hz:zs.length=items.size)(hb:items.size < 900)
  (k:∀ h' tk,(∀ b o,s.heap.get? b=some o->h'.get? b=some o)->aY prog w h' s.heap.objs.size (made zs)->Q (.ref s.heap.objs.size) {s with heap:=h',toks:=tk}):wpAny (model prog w) A (call (.type "set") [.ref l]) Q E s:=by
 obtain⟨c,tl,oM⟩:=F.called_set.mro;have tE:=F.called_set.made;have lu:=F.called_set.sub;refine QZ<|JZ ?_;show wpAny _ _ (callAny (.type "set") _) _ _ _;refine BL ⟨Code.quiet_builtin _ (by decide +kernel),GK F.entry_type_call ?_⟩;rw [Around.under_plain (weight_type_call_type "set" [.ref l] []) rfl];have h1:=F.called_set.notType;have h2:=F.called_set.canCreate;have h3:=F.typeCall_set_1<|.ref l
 repeat (any_goals (first | assumption | wp_step))
 refine HY (VW (.ref l) (E:=E) (Q:=λv s₁=>v = .ref s.heap.objs.size/\s₁={s with heap:=s.heap.push (fG w)}) ⟨rfl,rfl⟩) λr s₁ hr=>?_;cases r with
 | error e=>exact hr
 | ok fl=>
  cases fl with
  | ret v=>
   obtain⟨rfl,rfl⟩:=hr;have hS:(s.heap.push<|fG w).get? s.heap.objs.size=some (fG w):=Ar _ rfl;have hT:Shared.TypeIs {s with heap:=s.heap.push (fG w)} (.ref s.heap.objs.size) "set":=⟨_,hS,rfl⟩;have BO:=F.called_set.init.lookup;have BQ:=F.called_set.init.bind<|.ref s.heap.objs.size
   repeat (any_goals (first | assumption | wp_step))
   refine HY (PK (R:=wants (λr s₂=>r = .none/\∃ h' tk,s₂={s with heap:=h',toks:=tk}/\(∀ b o,s.heap.get? b=some o->h'.get? b=some o)/\aY prog w h' s.heap.objs.size (made zs)) E) F.called_set.init.plain F.entry_set_init<|check_set_init_1 hT ?_) λr2 s2 oO=>?_
   ·obtain⟨ol,tF,mL,nl,iy⟩:=hl;obtain⟨VZ,tG,Mk,oP⟩:=ol;simp only at mL iy;subst mL iy;have BU:(s.heap.push<|fG w).get? l=some {cls:= .type "list",dict:=tG,data:= .seq items nl,slots:=oP}:=Ah _ tF;have n1:=F.sub_list_set;have n2:=F.sub_list_frozenset;have n3:(Value.type "list" == Value.type "dict")=false:=by decide
    have dh:(s.heap.push<|fG w).IsList l items:=⟨_,BU,rfl,nl,rfl⟩;have BV:(s.heap.push<|fG w).get? s.heap.objs.size=some {cls:= .type "set",dict:=none,data:= .set #[] 0 (.fresh 0 0 (!dM w))}:=hS;unfold Builtin.«set.__init__» noKeywords updateFrom;generalize V0:pyIter=PI
    wp_walk
    subst V0;refine KZ dh ?_;refine BJ<|wpAny_runValue ?_;have aO:l < s.heap.objs.size:=As tF;have aX:l≠(s.heap.push<|fG w).objs.size:=by
     rw [Dc];exact Bp<|Ce aO
    have V1:s.heap.objs.size∉[(s.heap.push<|fG w).objs.size,l]:=by
     rw [Dc];intro h
     rcases Ai.mp h with h | h
     ·exact absurd h<|Bp<|Gi _
     ·rw [Ag] at h;exact absurd h<|Cw aO
    refine VX ((Walks.list (by simp [hh]) _ l aX items).toS) s.heap.objs.size V1 zs hz (λi v hv=>hi i v hv) hb (items.size - 0) 0 _ (by omega) (Bv _)
     ⟨⟨_,Ar _ rfl,rfl,rfl⟩,(dh.push _)⟩ ?_ λs' m S'=>?_
    ·exact Mi<|Ah _ hS
    ·obtain⟨h',g',d',wJ,zB⟩:=s';have eg:g'=s.gens:=m.gens;have ed:d'=s.drawn:=m.drawn;have eo:zB=s.os:=m.os;subst eg ed eo;refine BL ?_;refine BL ⟨rfl,h',wJ,rfl,λb o e=>?_,S'⟩;have hb:=As e;refine m.heap b o (λh=>?_)<|Ah _<|Ah _ e;rw [Dc] at h
     rcases Ai.mp h with h | h
     ·exact absurd h<|Bp hb
     ·rw [Ag] at h;exact absurd h<|Bp<|Ce hb
   ·cases r2 with
    | error e=>exact oO
    | ok V2=>
     cases V2 with
     | ret r=>
      obtain⟨rfl,h',tk,rfl,q1,q2⟩:=oO
      repeat (any_goals (first | assumption | wp_step))
      exact k _ _ q1 q2
     | _=>exact oO.elim
  | _=>exact hr.elim
end
theorem slot_next:Slot "set_iterator" "__next__" "set_iterator.__next__":=
 .of (owner:= "set_iterator") (n:= "__next__") (by rw [RQ,MN];kernel_rfl) (by decide +kernel) (by decide +kernel) (by decide +kernel)
  (by first | exact .inl (by decide +kernel) | exact .inr<|by decide +kernel) (by rw [isSubtype_type];kernel_rfl)
theorem entry_next:entryFor table "set_iterator.__next__" = some Builtin.«set_iterator.__next__»:=entryFor_of_fast<|by kernel_rfl
theorem args_next(a:Value):argsOk "set_iterator.__next__" ⟨[a],[]⟩:=by unfold argsOk;kernel_rfl
theorem V3:entryFor table "set.__iter__" = some Builtin.«frozenset.__iter__»:=
 entryFor_alias (id':= "frozenset.__iter__") (by kernel_rfl) rfl (by decide +kernel) (by kernel_rfl)
def kj(first:Value)(i:Nat)(a:Addr)(n ep:Nat):Obj:={cls:= .type "set_iterator",data:= .fields #[first,.int i 0,.ref a,.int n 0,.int ep 0]}
def fj(ys:List Nat):Obj:={cls:= .type "tuple",data:= .seq (ys.map λ(i:Nat)=>rawInt i).toArray}
inductive Way (w:World) (h:Heap) (a tp:Addr) (es:Array<|Int×Value) (ep:Nat) (t:SetTable) (ws:List<|Int×Value) (i:Nat):Value->Prop where
 | drawn (ys:List Nat) (ht:h.get? tp=some (fj ys)) (hl:ys.length=es.size) (hw:∀ j:Nat,∀ y,ys[j]?=some y->es[y]?=ws[j]?):Way w h a tp es ep t ws i<|.ref tp
 | text (c:Int) (hb:dM w=true) (hw:ws=(pickOrder (w.params.setOrder a ep) es).toList):Way w h a tp es ep t ws i<|.int c 0
 | one (c:Nat) (hb:dM w=false) (hs:es.size<=1) (hw:ws=es.toList) (hc:SetTable.below t.place c=i):Way w h a tp es ep t ws i<|.int c 0
section
variable{prog:Program}{w:World}{A:Around}{E:Value->Shared->Prop}{s:Shared}{a tp it:Addr}{zs:List Str}{o:Obj}{es:Array (Int×Value)}{ep:Nat}{t:SetTable}{ws:List (Int×Value)}{i:Nat}{first:Value}
theorem Ml(j c:Nat):SetTable.below #[j] c=if j < c then 1 else 0:=by
 unfold SetTable.below;show SetTable.below.go #[j] c 1 0 1=_;unfold SetTable.below.go;simp only [RT,DP];show(if(#[j]:Array Nat).getD 0 c < c then SetTable.below.go #[j] c 0 1 1 else SetTable.below.go #[j] c 0 0 0)=_;rw [show(#[j]:Array Nat).getD 0 c=j by rfl]
 split <;> rfl
theorem Way.keep{h h':Heap}(W:Way w h a tp es ep t ws i first)(k:∀ o,h.get? tp=some o->h'.get? tp=some o):Way w h' a tp es ep t ws i first:=by
 cases W with
 | drawn ys ht hl hw=>exact .drawn ys (k _ ht) hl hw
 | text c hb hw=>exact .text c hb hw
 | one c hb hs hw hc=>exact .one c hb hs hw hc
theorem tH{h:Heap}{n:Nat}(x:Value)(e:h.get? it=some (kj first i a n ep)):(h.update it (Obj.mapFields (·.setIfInBounds 0 x))).get? it=some (kj x i a n ep):=Ch _ e rfl
theorem up1{h:Heap}{n:Nat}(e:h.get? it=some (kj first i a n ep)):(h.update it (Obj.mapFields (·.setIfInBounds 1 (rawInt<|(i:Int)+1)))).get? it=some (kj first (i+1) a n ep):=Ch _ e rfl
theorem Mm{p:Array Nat}(h:p.size=1):∃ j,p=#[j]:=by
 obtain⟨l⟩:=p
 match l,h with
 | [j],_=>exact⟨j,rfl⟩
theorem Mp(T:Tab prog w es t zs):t.place.size=es.size:=by
 have:=T.fits;unfold SetTable.fits at this;rw [Bk,KQ] at this;exact this.1
theorem V4{Q:Option Value->Shared->Prop}(hi:s.heap.get? it=some (kj first i a es.size ep))(ho:s.heap.get? a=some o)(hd:o.data = .set es ep t)(T:Tab prog w es t zs)(hW:Way w s.heap a tp es ep t ws i first)
  (aX:tp≠it) (hp:ws.Perm es.toList) {e:Int×Value} (he:ws[i]?=some e) (k:∀ h' jJ,Heap.SameBut it s.heap h'->h'.get? it=some (kj jJ (i+1) a es.size ep)->Way w h' a tp es ep t ws (i+1) jJ->Q (some e.2) {s with heap:=h'}) :
  wpAny (model prog w) A (pyNext<|.ref it) Q E s:=by
 have hT:s.TypeIs (.ref it) "set_iterator":=⟨_,hi,rfl⟩;unfold pyNext;refine BJ<|JF<|IV (name:=Str.ofString "__next__") hT slot_next<|DQ slot_next hT entry_next ?_<|args_next _;unfold Builtin.«set_iterator.__next__»;refine BJ<|BL ?_;refine BJ<|QD hi rfl ?_
 dsimp only
 refine BJ<|QC ho hd T.fits ?_;rw [BK<|by simp];have Mq:∀ x,Heap.SameBut it s.heap ((s.heap.update it (Obj.mapFields (·.setIfInBounds 0 x))).update it (Obj.mapFields (·.setIfInBounds 1 (rawInt<|(i:Int)+1)))):=λx=>(DN ..).trans<|DN ..;have Mr:i < es.size:=by
  have h1:ws.length=es.size:=by simpa using hp.length_eq
  rcases Cy i ws.length with h | h
  ·omega
  ·rw [Bw h] at he;cases he
 have Mt:Heap.SameBut it s.heap (s.heap.update it (Obj.mapFields (·.setIfInBounds 1 (rawInt<|(i:Int)+1)))):=DN ..;cases hW with
 | drawn ys ht hl hw=>
  dsimp only
  have hy:ys[i]?=some (ys[i]'(by omega)):=Ab _;generalize ys[i]'(by omega)=y at hy;refine BJ<|KR ht rfl ?_
  dsimp only
  have e1:(ys.map λ(i:Nat)=>rawInt i).toArray[(i:Int).toNat]?=some (.int y 0):=by
   rw [Az,SQ,Af,hy];rfl
  rw [e1]
  dsimp only
  unfold setNextDrawn;refine BJ<|BJ<|DG ho hd T.fits ?_
  dsimp only
  rw [BK<|by simp];have e2:es[(y:Int).toNat]?=some e:=by
   rw [Az,hw i y hy];exact he
  rw [e2]
  dsimp only
  refine BL (BJ<|DW hi rfl (by simp) ?_);refine BL ⟨_,rfl,BL<|k _ _ Mt (up1 hi)<|.drawn ys ?_ hl hw⟩;rw [Mt.2 tp aX];exact ht
 | text c hb hw=>
  dsimp only
  unfold setNext;refine BJ<|BJ<|DG ho hd T.fits ?_
  dsimp only
  refine BJ<|wp_text ?_;rw [hb];simp only [DP];rw [BK<|by simp];unfold setWalk;refine BJ<|BJ<|DG ho hd T.fits ?_
  dsimp only
  refine BJ<|wp_text ?_;rw [hb];simp only [DP];refine BJ<|MK ?_;refine BL ?_;have e1:(pickOrder ((model prog w).w.params.setOrder a ep) es)[(i:Int).toNat]?=some e:=by
   rw [Az,<- Bh];show(pickOrder (w.params.setOrder a ep) es).toList[i]?=_;rw [<- hw];exact he
  rw [e1];refine BL ?_
  dsimp only [Option.map]
  refine BJ (DW hi rfl (by simp) ?_);refine BJ (DW (tH _ hi) rfl (by simp) ?_);exact BL ⟨_,rfl,BL<|k _ _ (Mq _) (up1<|tH _ hi)<|.text _ hb hw⟩
 | one c hb hs hw hc=>
  have V5:i=0:=by omega
  have jm:es.size=1:=by omega
  subst V5;have Mu:t.place.size=1:=(Mp T).trans jm;obtain⟨j,hj⟩:=Mm Mu
  dsimp only
  unfold setNext;refine BJ<|BJ<|DG ho hd T.fits ?_
  dsimp only
  refine BJ<|wp_text ?_;rw [hb];simp only [Ax,CQ];show wpAny _ _ (if(!t.plain && decide (es.size > 1))=true then _ else _) _ _ _;rw [BK<|by rw [jm];simp];refine BJ ?_;show wpAny _ _ (if(!t.led && !es.isEmpty)=true then _ else _) _ _ _;rw [BK<|by rw [T.led,hb];simp];refine BL ?_;rw [Az,hc];have e1:es[0]?=some e:=by
   rw [<- Bh,<- hw];exact he
  have e2:t.place[0]?=some j:=by rw [hj];rfl
  rw [e1,e2];refine BL ?_
  dsimp only
  refine BJ (DW hi rfl (by simp) ?_);refine BJ (DW (tH _ hi) rfl (by simp) ?_);refine BL ⟨_,rfl,BL<|k _ _ (Mq _) (up1<|tH _ hi)<|.one (j+1) hb hs hw ?_⟩;rw [hj,Ml,BR<|Gi _]
theorem V6{Q:Option Value->Shared->Prop}(hh:A.handled=none)(hi:s.heap.get? it=some (kj first i a es.size ep))(ho:s.heap.get? a=some o)(hd:o.data = .set es ep t)(T:Tab prog w es t zs)(hW:Way w s.heap a tp es ep t ws i first)
  (hp:ws.Perm es.toList) (he:i=es.size) (k:∀ h',Heap.ExtBut it s.heap h'->Q none {s with heap:=h'}) :
  wpAny (model prog w) A (pyNext<|.ref it) Q E s:=by
 have hT:s.TypeIs (.ref it) "set_iterator":=⟨_,hi,rfl⟩;have wl:ws.length=es.size:=by simpa using hp.length_eq
 unfold pyNext;refine BJ<|JF<|IV (name:=Str.ofString "__next__") hT slot_next<|DQ slot_next hT entry_next ?_<|args_next _;unfold Builtin.«set_iterator.__next__»;refine BJ<|BL ?_;refine BJ<|QD hi rfl ?_
 dsimp only
 refine BJ<|QC ho hd T.fits ?_;rw [BK<|by simp];have fin:∀ h2:Heap,Heap.SameBut it s.heap h2->wpAny (model prog w) A.in1 (newExc (Value.type "StopIteration") [] >>= λx=>(raiseNew x:Sem Fin)) (λfin s'=>∃ v,fin=Fin.done (Flow.ret v)/\wpAny (model prog w) A (pure<|some v) Q E s')
   (λe s'=>wpAny (model prog w) A (isInstance e (Value.type "StopIteration") >>= λb=>if b=true then pure none else throw e) Q E s') {s with heap:=h2}:=by
  intro h2 sb;refine BJ ?_;simp only [newExc,newTuple];refine BJ (DR ?_<|by size_fits);refine BJ (m:=firstArgMember _ _) (JM (a:=Value.none) (by first | rfl | (simp only [firstArgMember];rfl)) ?_);refine DR ?_ (by size_fits);simp only [raiseNew];refine BJ<|wpAny_handled ?_;rw [show A.in1.handled=none from hh];refine BJ<|BL<|wpAny_throw ?_;refine BJ<|RG (T:= "StopIteration") (b:=true) ⟨_,Ar _ rfl,rfl⟩ isSubtype_stop ?_;exact BL<|k _<|(sb.extBut.push _).push _
 cases hW with
 | drawn ys ht hl hw=>
  dsimp only
  refine BJ<|KR ht rfl ?_
  dsimp only
  have e1:(ys.map λ(i:Nat)=>rawInt i).toArray[(i:Int).toNat]?=none:=by
   rw [Az,SQ,Bw];rw [Aa];omega
  rw [e1]
  dsimp only
  refine BJ (DW hi rfl (by simp) ?_);refine BJ (DW (tH _ hi) rfl (by simp) ?_);exact fin _<|(DN ..).trans<|DN ..
 | text c hb hw=>
  dsimp only
  unfold setNext;refine BJ<|BJ<|DG ho hd T.fits ?_
  dsimp only
  refine BJ<|wp_text ?_;rw [hb];simp only [DP];rw [BK<|by simp];unfold setWalk;refine BJ<|BJ<|DG ho hd T.fits ?_
  dsimp only
  refine BJ<|wp_text ?_;rw [hb];simp only [DP];refine BJ<|MK ?_;refine BL ?_;have e1:(pickOrder ((model prog w).w.params.setOrder a ep) es)[(i:Int).toNat]?=none:=by
   rw [Az,<- Bh];show(pickOrder (w.params.setOrder a ep) es).toList[i]?=_;rw [<- hw,Bw];omega
  rw [e1];refine BL ?_
  dsimp only [Option.map]
  refine BJ (DW hi rfl (by simp) ?_);exact fin _<|DN ..
 | one c hb hs hw hc=>
  dsimp only
  unfold setNext;refine BJ<|BJ<|DG ho hd T.fits ?_
  dsimp only
  refine BJ<|wp_text ?_;rw [hb];simp only [Ax,CQ];show wpAny _ _ (if(!t.plain && decide (es.size > 1))=true then _ else _) _ _ _;rw [BK<|by rw [BX<|by omega];simp];refine BJ ?_;show wpAny _ _ (if(!t.led && !es.isEmpty)=true then _ else _) _ _ _;rw [BK<|by rw [T.led,hb];simp];refine BL ?_;rw [Az,hc];have e1:es[i]?=none:=Dg (by omega);rw [e1];refine BL ?_
  dsimp only
  refine BJ (DW hi rfl (by simp) ?_);exact fin _<|DN ..
open PySem.Spec
theorem Mv:Slot "set_iterator" "__iter__" "set_iterator.__iter__":=
 .of (owner:= "set_iterator") (n:= "__iter__") (by rw [RQ,MN];kernel_rfl) (by decide +kernel) (by decide +kernel) (by decide +kernel)
  (by first | exact .inl (by decide +kernel) | exact .inr<|by decide +kernel) (by rw [isSubtype_type];kernel_rfl)
theorem V7:entryFor table "set_iterator.__iter__" = some Builtin.«dict_keyiterator.__iter__»:=
 entryFor_alias (id':= "dict_keyiterator.__iter__") (by kernel_rfl) rfl (by decide +kernel) (by kernel_rfl)
theorem V8(a:Value):argsOk "set_iterator.__iter__" ⟨[a],[]⟩:=by unfold argsOk;kernel_rfl
theorem V9(hh:A.handled=none)(h1:a≠it)(h2:tp≠it)(hd:o.data = .set es ep t)(T:Tab prog w es t zs)(hp:ws.Perm es.toList) :
  Walks prog w A it [it,a,tp] [it] es.size (λi v=>∃ e,ws[i]?=some e/\v=e.2) (λi h=>∃ first,h.get? it=some (kj first i a es.size ep)/\h.get? a=some o/\Way w h a tp es ep t ws i first) where
 sub:=λb hb=>by simp at hb;simp [hb]
 frame:=λi h h' ⟨first,q1,q2,q3⟩ k=>⟨first,k it (by simp) _ q1,k a (by simp) _ q2,q3.keep<|k tp<|by simp⟩
 item:=λi s Q E hi ⟨first,q1,q2,q3⟩ k=>by
  have wl:ws.length=es.size:=by simpa using hp.length_eq
  obtain⟨e,he⟩:∃ e,ws[i]?=some e:=⟨ws[i]'(by omega),Ab _⟩;refine V4 q1 q2 hd T q3 h2 hp he λh' f' sb g1 g2=>?_;exact k _ h' s.toks ⟨e,he,rfl⟩ ⟨f',g1,by rw [sb.2 a h1];exact q2,g2⟩ λb o hb e=>by rw [sb.2 b λh=>hb<|by simp [h]];exact e
 done:=λs Q E ⟨first,q1,q2,q3⟩ k=>V6 hh q1 q2 hd T q3 hp rfl λh' e=>k h' s.toks λb o hb e2=>e b o (λh=>hb<|by simp [h]) e2
 self:=λi s Q E ⟨first,q1,q2,q3⟩ k=>by
  have hT:s.TypeIs (.ref it) "set_iterator":=⟨_,q1,rfl⟩;refine LK hT Mv<|DQ Mv hT V7 ?_<|V8 _;show wpAny _ _ (ret<|.ref it) _ _ s;exact BL ⟨_,rfl,"set_iterator",_,hT,slot_next.lookup,k⟩
theorem V'(es:Array<|Int×Value):(List.range es.size).map (λy=>(es[y]?).getD (0,Value.none))=es.toList:=by
 refine RJ (by simp) λj h1 h2=>?_;rw [Fp,QL];have:j < es.size:=by simpa using h2
 rw [Bz this];simp
theorem Wa{Q:Value->Shared->Prop}(ho:s.heap.get? a=some o)(hx:o.ExactSet)(hd:o.data = .set es ep t)(T:Tab prog w es t zs)
  (k:∀ h' d it tp ws first,(∀ b u,s.heap.get? b=some u->h'.get? b=some u)->s.heap.objs.size<=it->it < h'.objs.size->tp < h'.objs.size->(tp=a\/s.heap.objs.size<=tp)->tp≠it->h'.get? it=some (kj first 0 a es.size ep)->Way w h' a tp es ep t ws 0 first->ws.Perm es.toList->Q (.ref it) {s with heap:=h',drawn:=d}) :
  wpAny (model prog w) A (pyIter<|.ref a) Q E s:=by
 have hT:s.TypeIs (.ref a) "set":=⟨o,ho,hx.1⟩;have aO:a < s.heap.objs.size:=As ho;refine LK hT F.slot_set_iter<|DQ F.slot_set_iter hT V3 ?_<|F.args_set_iter_1 _;unfold Builtin.«frozenset.__iter__» slot0 slotArgs;simp only [Gk,Dv,Ax,↓reduceIte,bind_assoc,Eb,LQ];unfold addrOf Builtin.Frozenset.sizeOf;refine BJ<|BL ?_;refine BJ<|BL ?_;refine BJ<|BJ<|QC ho hd T.fits<|BL ?_;unfold setDrawn;refine BJ<|BJ<|DG ho hd T.fits ?_
 dsimp only
 refine BJ<|wp_text ?_;refine BL ?_
 by_cases c:(!dM w && (!t.plain && decide (es.size > 1)))=true
 ·show wpAny _ _ (if(!dM w && (!t.plain && decide (es.size > 1)))=true then _ else _) _ _ _;rw [BR c];refine BJ (Mf _ _ _ _ (by simp) λys d p=>?_);have tI:ys.length=es.size:=by simpa using p.length_eq
  refine BJ (QF ?_<|by rw [Aa,tI];exact mK<|Ce T.jI);have o1:(s.heap.push<|fj ys).get? a=some o:=Ah _ ho;refine BJ<|wpAny_setEpoch_of (s:={s with heap:=s.heap.push<|fj ys,drawn:=d}) o1 hd T.fits ?_;refine BJ<|DR<|BL ⟨_,rfl,"set_iterator",_,⟨_,Ar _ rfl,rfl⟩,slot_next.lookup,?_⟩;have jm:(s.heap.push<|fj ys).objs.size=s.heap.objs.size+1:=Dc ..;refine k _ d _ s.heap.objs.size (ys.map λy=>(es[y]?).getD (0,Value.none)) (.ref s.heap.objs.size) (λb u e=>Ah _<|Ah _ e) (by show s.heap.objs.size<=(s.heap.push<|fj ys).objs.size;omega) ?_ ?_ (.inr<|Ak _) ?_ (Ar _ rfl) ?_ ?_
  ·show(s.heap.push<|fj ys).objs.size < ((s.heap.push<|fj ys).push _).objs.size;simp only [Dc];omega
  ·show s.heap.objs.size < ((s.heap.push<|fj ys).push _).objs.size;rw [Dc,jm];omega
  ·show s.heap.objs.size≠(s.heap.push<|fj ys).objs.size;omega
  ·refine .drawn ys (Ah _<|Ar _ rfl) tI λj y hy=>?_;have hm:y < es.size:=by
    have:=p.mem_iff.mp<|Aq hy
    simpa using this
   rw [Af,hy];show _=some ((es[y]?).getD (0,Value.none));rw [Bz hm];rfl
  ·have:=p.map λy=>(es[y]?).getD (0,Value.none);rwa [V'] at this
 ·show wpAny _ _ (if(!dM w && (!t.plain && decide (es.size > 1)))=true then _ else _) _ _ _;rw [BK c];refine BJ<|BL ?_;refine BJ<|wpAny_setEpoch_of ho hd T.fits ?_;refine BJ<|DR<|BL ⟨_,rfl,"set_iterator",_,⟨_,Ar _ rfl,rfl⟩,slot_next.lookup,?_⟩;have kk:=λws hW hp=>k (s.heap.push<|kj (.int 0 0) 0 a es.size ep) s.drawn s.heap.objs.size a ws (.int 0 0) (λb u e=>Ah _ e) (Ak _) (by rw [Dc];exact Gi _) (by rw [Dc];exact Ce aO) (.inl rfl) (Bp aO) (Ar _ rfl) hW hp;cases hb:dM w with
  | true=>exact kk _ (.text 0 hb rfl)<|VS _ _
  | false=>
   have h1:es.size<=1:=by
    rcases T.plain with q | q
    ·rw [q];simp
    ·rw [hb,q] at c;simp at c;exact c
   refine kk es.toList (.one 0 hb h1 rfl ?_)<|List.Perm.refl _;have Mu:=Mp T
   rcases Cy es.size 1 with h | h
   ·have:t.place=#[]:=Array.eq_empty_of_size_eq_zero (by omega);rw [this];rfl
   ·obtain⟨j,hj⟩:=Mm (p:=t.place) (by omega);rw [hj,Ml,BK<|Ec _]
theorem Wb:typeLookup (.type "set") "__len__" = pure (some<|.builtin "set.__len__"):=F.slot_set_len.lookup
theorem Wc{Q:Bool->Shared->Prop}(hT:s.TypeIs (.ref a) "set")(k:Q false s):wpAny (model prog w) A (Builtin.List.listLengthHint<|.ref a) Q E s:=by
 unfold Builtin.List.listLengthHint;refine BJ<|PJ hT Wb ?_
 dsimp only
 have e1:splitId "set.__len__" = some ("set","__len__"):=by kernel_rfl
 rw [e1]
 dsimp only
 refine BJ<|RG hT sub_set_self ?_;simp only [Dv,Ax,CQ];rw [BR]
 ·exact BJ<|KH hT<|BL k
 ·decide +kernel
theorem Wd{Q:List Value->Shared->Prop}(hh:A.handled=none)(ho:s.heap.get? a=some o)(hx:o.ExactSet)(hd:o.data = .set es ep t)(T:Tab prog w es t zs)
  (k:∀ s' (acc:List<|Int×Value),(∀ b u,s.heap.get? b=some u->s'.heap.get? b=some u)->s'.gens=s.gens->s'.os=s.os->s.heap.objs.size < s'.heap.objs.size->acc.Perm es.toList->Q (acc.map (·.2)) s'):wpAny (model prog w) A (collect<|.ref a) Q E s:=by
 have aO:a < s.heap.objs.size:=As ho;unfold collect;refine BJ<|wpAny_runValue<|GK F.entry_proto_collect ?_;rw [FZ F.plain_proto_collect _];show wpAny _ A.in1 (newList [] >>= λl=>again<|.builtin "list.__iadd__" ⟨[l,.ref a],[]⟩) _ _ s;refine BJ<|JW ?_;refine BL ⟨JB F.plain_list_iadd _,GK F.entry_list_iadd ?_⟩;rw [FZ F.plain_list_iadd _];generalize hL:s.heap.objs.size=L;have lv:(s.heap.push {cls:= .type "list",data:= .seq ([]:List Value).toArray}).get? a=some o:=Ah _ ho;have Wg:(s.heap.push {cls:= .type "list",data:= .seq ([]:List Value).toArray}).get? L=some {cls:= .type "list",data:= .seq ([]:List Value).toArray}:=by rw [<- hL];exact Ar _ rfl
 have hT:Shared.TypeIs {s with heap:=s.heap.push {cls:= .type "list",data:= .seq ([]:List Value).toArray}} (.ref a) "set":=⟨o,lv,hx.1⟩;show wpAny _ A.in1 (Builtin.List.listExtendWith (.ref L) (.ref a)<|.ref L) _ _ _;unfold Builtin.List.listExtendWith;refine BJ<|KH hT ?_;have n1:Builtin.List.listSameRef (.ref L) (.ref a)=false:=by
  have:L≠a:=by rw [<- hL];exact Cw aO
  simp [Builtin.List.listSameRef,this]
 have n2:(Value.type "set" == Value.type "list")=false:=by decide
 have n3:(Value.type "set" == Value.type "tuple")=false:=by decide
 simp only [n1,n2,n3,TX,Ax,CQ];refine BJ<|Wa lv hx hd T λh2 d it tp ws first tJ qK Wh fH wK aX gi W p=>?_;have Mw:=tJ a o lv;have BV:=tJ L _ Wg;have lB:(s.heap.push {cls:= .type "list",data:= .seq ([]:List Value).toArray}).objs.size=L+1:=by rw [Dc,hL]
 refine BJ<|CK<|Wc (a:=a) (s:={s with heap:=h2,drawn:=d}) ⟨o,Mw,hx.1⟩ ?_;show wpAny _ A.in1 (rule "list.extend.makes-room" >>= λ_=>Builtin.List.listTouch (.ref L) >>= λ_=>again<|.builtin "list.extend.loop" ⟨[.ref L,.ref it,.ref L],[]⟩) _ _ _;refine BJ<|JH ?_;refine BJ ?_;show wpAny _ A.in1 (updateSeq L (·.push .none) >>= λ_=>updateSeq L (·.pop)) _ _ _;refine BJ<|wpAny_updateSeq BV rfl ?_;have Mx:=Ch (Obj.mapSeq (·.push Value.none)) BV rfl;refine wpAny_updateSeq Mx rfl ?_;have Wi:=Ch (Obj.mapSeq (·.pop)) Mx rfl;have gU:∀ b u,b≠L->h2.get? b=some u->((h2.update L (Obj.mapSeq (·.push Value.none))).update L (Obj.mapSeq (·.pop))).get? b=some u:=
  λb u hb e=>(Bs _ _<|CJ hb).trans<|(Bs _ _<|CJ hb).trans e
 have tK:it≠L:=by
  have gW:L+1<=it:=by rw [<- lB];exact qK
  exact Cw gW
 have B0:a≠L:=by rw [<- hL];exact Bp aO
 have Wj:a≠it:=by
  have gW:L+1<=it:=by rw [<- lB];exact qK
  intro e;rw [<- hL,<- e] at gW;exact absurd gW<|Nat.not_le.mpr<|Ce aO
 have My:tp≠L:=by
  rcases wK with h | h
  ·rw [h];exact B0
  ·have h':L+1<=tp:=by rw [<- lB];exact h
   exact Cw h'
 have mH:L∉[it,a,tp]:=by
  intro h
  rcases Ai.mp h with h | h
  ·exact tK h.symm
  ·rcases Ai.mp h with h | h
   ·exact B0 h.symm
   ·exact My (Ag.mp h).symm
 refine BL ⟨JB F.plain_extend_loop _,codeAny_extend_loopS ((V9 (by simp [hh]) Wj aX hd T p).toS) (mK<|Ce T.jI) L mH (.ref L) es.size 0 _ _ _ rfl (Bv _) ⟨first,gU it _ tK gi,gU a _ B0 Mw,W.keep λu e=>gU tp u My e⟩ Wi (ItemsOf.nil _) λs' acc c m Mz hI=>?_⟩;show wpAny _ A (load L >>= _) _ _ s';refine BJ<|wpAny_load Mz ?_;have wl:ws.length=es.size:=by simpa using p.length_eq
 have el:acc.toList=ws.map (·.2):=by
  refine De λj=>?_;rw [Bh,Af];cases hj:acc[j]? with
  | none=>
   have:ws[j]?=none:=by
    rw [Bw];rw [wl,<- hI.1];exact Array.getElem?_eq_none_iff.mp hj
   rw [this];rfl
  | some v=>
   obtain⟨e,h1,h2⟩:=hI.2 j v hj;rw [h1,h2];rfl
 refine BL ?_;rw [el];refine k s' ws (λb u e=>?_) m.gens m.os (by rw [hL];exact As Mz) p;have hb:b < s.heap.objs.size:=As e;have MA:b≠L:=by rw [<- hL];exact Bp hb
 have BQ:b≠it:=by
  intro q;have gW:L+1<=it:=by rw [<- lB];exact qK
  rw [<- hL,<- q] at gW;exact absurd gW<|Nat.not_le.mpr<|Ce hb
 refine m.heap b u (λh=>?_)<|gU b u MA<|tJ b u<|Ah _ e
 rcases Ai.mp h with h | h
 ·exact MA h
 ·exact BQ<|Ag.mp h
end
end bT
namespace bT
open PySem PySem.Spec PyProof.Rows
theorem MB{prog:Program}{w:World}:∀(l:List<|Int×Value),(∀ e∈l,BG prog w e)->StrsAre (l.map (·.2)) (l.map keyOf)
 | [],_=> .nil
 | e :: r,h=>by
  obtain⟨z,t,rfl⟩:=h e Ad;exact .cons z t<|MB r λx hx=>h x<|Aj _ hx
section
variable{prog:Program}{w:World}{A:Around}{E:Value->Shared->Prop}{s:Shared}{a:Addr}{zs:List Str}
theorem Wk{Q:Value->Shared->Prop}(hh:A.handled=none)(S:aY prog w s.heap a zs)(oQ:zs.length < 64)
  (k:∀(s':Shared) (l:Addr) (out:Array Value) (e:Nat) (ss:List Str),(∀ b u,s.heap.get? b=some u->s'.heap.get? b=some u)->s'.gens=s.gens->s'.os=s.os->s.heap.objs.size<=l->s'.heap.get? l=some (seqObj "list" out e)->StrsAre out.toList ss->ss.Perm zs->sortedS ss=true->Q (.ref l) s') :
  wpAny (model prog w) A (call (.builtin "sorted") [.ref a]) Q E s:=by
 obtain⟨o,es,ep,t,ho,hx,hd,T⟩:=S;refine Calls.call_function_entry kind_sorted plain_sorted entry_sorted (args_sorted1 _) ?_;unfold Builtin.«sorted»;refine BJ (m:=checkCount "sorted" 1 1 _)<|BL ?_;refine BJ (Wd (by simp [hh]) ho hx hd T λs1 acc kp g1 o1 z1 p=>?_);have hS:=MB (prog:=prog) (w:=w) acc λe he=>T.elts e<|p.mem_iff.mp he;have hlen:(acc.map (·.2)).length=zs.length:=by
  rw [Aa,p.length_eq,Bx,T.size]
 refine BJ (JW ?_<|by rw [hlen];exact mK<|by omega);have je:(s1.heap.push (seqObj "list" (acc.map (·.2)).toArray 0)).get? s1.heap.objs.size=some (seqObj "list" (acc.map (·.2)).toArray 0):=Ar _ rfl;have hsz:s.heap.objs.size<=s1.heap.objs.size:=Bc z1;refine BJ (CK<|DQ slot_list_sort ⟨_,je,rfl⟩ entry_list_sort (list_sort_treeK strKind_oneLt je hS.keysOf (λv₁ v₂ rest e=>keyKind_strs<|by rw [<- e];exact hS) (by rw [hlen];exact oQ) λcS a1 a2=>⟨_,rfl,?_⟩)<|args_list_sort _);obtain⟨ss,q1,q2,q3⟩:=sorted_out_str hS a1 a2;obtain⟨e,he⟩:=sortedHeap_at (out:=(arrOf cS).map (·.2)) je;refine BL ⟨_,rfl,k _ _ _ e ss (λb u hb=>?_) g1 o1 hsz he q1 (q2.trans<|(p.map keyOf).trans T.keys) q3⟩;have mM:=kp b u hb;have aO:=As mM;show(sortedHeap (s1.heap.push _) s1.heap.objs.size _ _).get? b=some u;rw [sortedHeap_old (Bp aO)<|by rw [size_push'];exact Ce aO];exact Ah _ mM
end
end bT
namespace L2
open PySem PySem.Spec PyProof.Rows bT
def de(prog:Program)(w:World)(a:Addr)(zs:List Str):HO:= .ext λh=>aY prog w h a zs
section
variable{X:Cx}{pins:List (Addr×Obj)}{σ:St}{H:Hp}{s s':Shared}{a:Addr}{zs:List Str}
theorem Inv.like(I:Inv X pins σ H s)(e1:s'.heap=s.heap)(e2:s'.gens=s.gens)(e3:s'.os=s.os):Inv X pins σ H s':=by
 obtain⟨h,g,d,t,o⟩:=s;obtain⟨h',g',d',t',o'⟩:=s';simp only at e1 e2 e3;subst e1 e2 e3;exact⟨I.ok,I.os,I.bare,I.base,I.loc,I.cell,I.free,I.bq,I.pin,I.aA,I.len⟩
theorem Inv.iz{o:HO}(I:Inv X pins σ H s)(k:∀ b u,s.heap.get? b=some u->s'.heap.get? b=some u)(e2:s'.gens=s.gens)(e3:s'.os=s.os)(hp:s.heap.objs.size<=a)(new:ax X.prog X.w (upd H a o) s'.heap a o):Inv X pins σ (upd H a o) s':=
 (I.laid (t':=s.toks) k hp new).like (s':=s') rfl e2 e3
theorem B1{h:Heap}(S:aY X.prog X.w h a zs):ax X.prog X.w H h a (de X.prog X.w a zs):=by
 refine⟨S,?_,λh1 h2 q k=>q.keep k⟩;obtain⟨o,_,_,_,ho,_⟩:=S;exact⟨o,ho⟩
theorem Inv.set(I:Inv X pins σ H s)(h:H a=some (de X.prog X.w a zs)):aY X.prog X.w s.heap a zs:=(I.aA a _ h).1
theorem MC:∀{zs:List Str} {us:List Value},av (zs.map V.str) us->∀(i:Nat) v,us[i]?=some v->∃ z t,zs[i]?=some z/\v=Value.str z t
 | [],_,.nil,i,v,h=>by simp at h
 | z :: r,_,.cons q qs,0,v,h=>by
  obtain⟨t,e⟩:=q;simp at h;exact⟨z,t,rfl,h ▸ e⟩
 | z :: r,_,.cons q qs,i+1,v,h=>by
  simp only [Fb] at h ⊢;exact MC qs i v h
theorem MD:∀{zs:List Str} {us:List Value},av (zs.map V.str) us->StrsAre us zs
 | [],_,.nil=> .nil
 | z :: r,_,.cons q qs=>by
  obtain⟨t,rfl⟩:=q;exact .cons z t<|MD qs
theorem ME:∀{us:List Value} {zs:List Str},StrsAre us zs->av (zs.map V.str) us
 | _,_,.nil=> .nil
 | _,_,.cons z t q=> .cons ⟨t,rfl⟩<|ME q
theorem Wl(hc:X.calm=true):eI X (.type "set") (λxs H Q=>∃ p zs,xs=[.ref p]/\al X.K H p (zs.map V.str)/\zs.length < 900/\∀ a,H a=none->Q (.ref a) (upd H a<|de X.prog X.w a<|made zs)):=by
 intro pins s σ H xs us Q I r h;obtain⟨p,zs,rfl,hp,hl,q⟩:=h;obtain⟨u,rfl,ru⟩:=vals1 r;cases (show u=Value.ref p from ru);obtain⟨its,rv,pl,hz⟩:=I.list hp;have e1:=rv.length;rw [Aa] at e1;refine VY (I.ok.hd hc) pl.isList (λi v hv=>MC rv i v<|by simpa using hv) (by simpa using e1) (by simp;omega) λh' tk kp S=>?_;exact⟨.ref _,_,I.iz (s':={s with heap:=h',toks:=tk}) kp rfl rfl (Ak _) (B1 S),rfl,q _<|I.aA.fresh<|Ak _⟩
theorem Wm(hc:X.calm=true):eI X (.builtin "sorted") (λxs H Q=>∃ p zs,xs=[.ref p]/\H p=some (de X.prog X.w p zs)/\zs.length < 64/\∀ l ss,H l=none->ss.Perm zs->sortedS ss=true->Q (.ref l) (upd H l<|.lst<|ss.map V.str)):=by
 intro pins s σ H xs us Q I r h;obtain⟨p,zs,rfl,hp,hl,q⟩:=h;obtain⟨u,rfl,ru⟩:=vals1 r;cases (show u=Value.ref p from ru);refine Wk (I.ok.hd hc) (I.set hp) hl λs' l out e ss kp e2 e3 qK he hS lC MG=>?_;have hlen:ss.length<=sizeLine:=by rw [lC.length_eq];exact mK<|by omega
 refine⟨.ref _,_,I.iz (s':=s') kp e2 e3 qK (show ax X.prog X.w _ s'.heap l (.lst<|ss.map V.str) from⟨by rw [Aa];exact hlen,out.toList,e,ME hS,he⟩),rfl,q _ ss (I.aA.fresh qK) lC MG⟩
end
end L2
namespace L2
open PySem PySem.Spec PyProof.Rows
section
variable{X:Cx}{o e:Expr}{σ:St}{H:Hp}{Q:VK}{ap cp:Pos}
theorem jn (h:Ev X o σ H λx H1=>∃ l,x = .ref l/\(∃ xs,H1 l=some (.lst xs))/\Ev X e σ H1 λy H2=>∃ xs,H2 l=some (.lst xs)/\xs.length < sizeLine/\Q .non (upd H2 l<|.lst<|xs++[y]))
  (bI:attributeBase o "append" X.env (eval o X.env)=eval o X.env:=by rfl)
  (db:((backTo cp<|starEach [e] X.env).all (λx=>!x.1) && (backToKw cp<|keywordEach [] X.env).all (λx=>x.1.isSome) && decide ([e].length+([]:List Keyword).length+(if([]:List Keyword).isEmpty then 0 else 1) < 30))=true:=by rfl)
  (hline:(ap.endLine == cp.line)=true:=by rfl) (hs:starEach [e] X.env=(false,eval e X.env) :: starEach [] X.env:=by rfl) (b8:(backTo cp<|starEach [] X.env).any (·.1)=false:=by rfl) (cR:isStar e=false:=by rfl) :
  Ev X (.Call (.Attribute o "append" ap) [e] [] cp) σ H Q:=by
 refine dB (zL CP PySem.F.slot_list_append PySem.F.type_list_append KS bE (jj (es:=[e])) bI db hline hs b8)<|h.mono λx H1 ⟨l,ex,⟨xs,hl⟩,h2⟩=>?_;subst ex;refine⟨.inl ⟨rfl,xs,al.of hl⟩,?_⟩;exact ai (h2.mono λy H2 ⟨ys,hy,hz,q⟩=>au ⟨l,ys,y,rfl,rfl,hy,hz,q⟩) cR
end
section
variable{X:Cx}{c:Expr}{body ke rest:List Stmt}{D:Ends}{σ:St}{H:Hp}{pos:Pos}
theorem Run.nx{M M':St->Hp->Prop}{l:List Stmt}(h:Run X l {D with nx:=M} σ H)(f:∀ σ' H',M σ' H'->M' σ' H'):Run X l {D with nx:=M'} σ H:=
 ⟨λpins s I => aE (h.run pins s I) λfl s' q => by
  cases fl with
  | next=>
   obtain⟨σ',H',I',m⟩:=q;exact⟨σ',H',I',f σ' H' m⟩
  | _=>exact q⟩
theorem lF(φ ψ:Prop)(M:St->Hp->Prop)(hc:∀ T:Bool->Hp->Prop,(∀ k:Bool,(k=true->φ)->(k=false->ψ)->T k H)->Et X c σ H T)(ht:φ->Run X body {D with nx:=M} σ H)(hu:ψ->Run X ke {D with nx:=M} σ H)
  (hr:∀ σ' H',M σ' H'->Run X rest D σ' H'):Run X (.If c body ke pos :: rest) D σ H:=
 Lv φ ψ hc (λp=>(ht p).nx hr) (λp=>(hu p).nx hr)
end
def iA(X:Cx)(H:Hp)(k:Nat)(x y:V)(b:Bool):Prop:=∀(pins:List<|Addr×Obj) (σ:St) (s:Shared) (A:Around) (u v:Value),Inv X pins σ H s->A.units+k < cLine->RelV x u->RelV y v->SeqAt.EqAt A s u v b
def jo(X:Cx)(H:Hp)(k:Nat)(x y:V)(b:Bool):Prop:=∀(pins:List<|Addr×Obj) (σ:St) (s:Shared) (A:Around) (u v:Value),Inv X pins σ H s->A.units+k < cLine->RelV x u->RelV y v->SeqAt.RcAt A s u v b
def lG(X:Cx)(H:Hp)(k:Nat)(x y:V)(b:Bool):Prop:=∀(pins:List<|Addr×Obj) (σ:St) (s:Shared) (A:Around) (u v:Value),Inv X pins σ H s->A.units+k < cLine->RelV x u->RelV y v->SeqAt.RcNeAt A s u v (!b)
section
variable{X:Cx}{H:Hp}{k:Nat}{a b:Addr}{xs ys:List V}
theorem oR{x y:V}(fx:jA x=true)(fy:jA y=true):iA X H k x y (cH x y):=λ_ _ _ _ _ _ _ _ rx ry=>zJ rx ry fx fy
theorem MH:iA X H k (.ref a) (.ref a) true:=λ_ _ _ _ u v _ _ rx ry=>by
 cases rx;cases ry;exact SeqAt.EqAt.same _
theorem MI(aX:a≠b){c:Bool}(h:jo X H k (.ref a) (.ref b) c):iA X H k (.ref a) (.ref b) c:=λpins σ s A u v I hu rx ry=>by
 cases rx;cases ry;exact SeqAt.EqAt.of_refs aX<|h pins σ s A _ _ I hu rfl rfl
theorem mO{us:List Value}(r:av xs us){j:Nat}(h:j < us.length):∃ x,xs[j]?=some x/\RelV x us[j]:=by
 have hl:=r.length;have hj:j < xs.length:=by omega
 obtain⟨u,e,q⟩:=r.get<|Ab hj;rw [Ab h] at e;cases e;exact⟨_,Ab hj,q⟩
theorem B2(e:Nat->Bool)(ha:al X.K H a xs)(hb:al X.K H b ys)(hl:xs.length=ys.length)(he:∀ j x y,xs[j]?=some x->ys[j]?=some y->iA X H k x y (e j)):jo X H (k+1) (.ref a) (.ref b) ((List.range xs.length).all e):=λpins σ s A u v I hu rx ry=>by
 cases rx;cases ry;obtain⟨i1,r1,p1,_⟩:=I.list ha;obtain⟨i2,r2,p2,_⟩:=I.list hb;have l1:=r1.length;have l2:=r2.length;have q:=SeqAt.RcAt.lists (A:=A) (e:=e) p1.isList p2.isList (by simp;omega) (by omega) λj h1 h2=>by
  obtain⟨x,ex,qx⟩:=mO r1 (j:=j) (by simpa using h1);obtain⟨y,ey,qy⟩:=mO r2 (j:=j) (by simpa using h2);exact he j x y ex ey pins σ s A.in1 _ _ I (by show A.units+1+k < cLine;omega) (by simpa using qx)<|by simpa using qy
 rw [Au,<- l1] at q;exact q
theorem wL(e:Nat->Bool)(ha:al X.K H a xs)(hb:al X.K H b ys)(hl:xs.length=ys.length)(he:∀ j x y,xs[j]?=some x->ys[j]?=some y->iA X H k x y (e j)):lG X H (k+1) (.ref a) (.ref b) ((List.range xs.length).all e):=λpins σ s A u v I hu rx ry=>by
 cases rx;cases ry;obtain⟨i1,r1,p1,_⟩:=I.list ha;obtain⟨i2,r2,p2,_⟩:=I.list hb;have l1:=r1.length;have l2:=r2.length;have q:=SeqAt.RcNeAt.lists (A:=A) (e:=e) p1.isList p2.isList (by simp;omega) (by omega) λj h1 h2=>by
  obtain⟨x,ex,qx⟩:=mO r1 (j:=j) (by simpa using h1);obtain⟨y,ey,qy⟩:=mO r2 (j:=j) (by simpa using h2);exact he j x y ex ey pins σ s A.in1 _ _ I (by show A.units+1+k < cLine;omega) (by simpa using qx)<|by simpa using qy
 rw [Au,<- l1] at q;exact q
theorem ML(ha:al X.K H a xs)(hb:al X.K H b ys)(hl:xs.length≠ys.length):jo X H k (.ref a) (.ref b) false:=λpins σ s A u v I hu rx ry=>by
 cases rx;cases ry;obtain⟨i1,r1,p1,_⟩:=I.list ha;obtain⟨i2,r2,p2,_⟩:=I.list hb;have l1:=r1.length;have l2:=r2.length;exact SeqAt.RcAt.lists_lengths p1.isList p2.isList (by simp;omega)<|by omega
theorem B3(ha:al X.K H a xs)(hb:al X.K H b ys)(hl:xs.length≠ys.length):lG X H k (.ref a) (.ref b) false:=λpins σ s A u v I hu rx ry=>by
 cases rx;cases ry;obtain⟨i1,r1,p1,_⟩:=I.list ha;obtain⟨i2,r2,p2,_⟩:=I.list hb;have l1:=r1.length;have l2:=r2.length;exact SeqAt.RcNeAt.lists_lengths p1.isList p2.isList (by simp;omega)<|by omega
theorem B5(e:Nat->Bool)(ha:aK X.K H a xs)(hb:aK X.K H b ys)(hl:xs.length=ys.length)(he:∀ j x y,xs[j]?=some x->ys[j]?=some y->iA X H k x y (e j)):jo X H (k+1) (.ref a) (.ref b) ((List.range xs.length).all e):=λpins σ s A u v I hu rx ry=>by
 cases rx;cases ry;obtain⟨i1,r1,p1,_⟩:=I.tuple ha;obtain⟨i2,r2,p2,_⟩:=I.tuple hb;have l1:=r1.length;have l2:=r2.length;have q:=SeqAt.RcAt.tuples (A:=A) (e:=e) p1 p2 (by omega) λj h1 h2=>by
  obtain⟨x,ex,qx⟩:=mO r1 (j:=j) (by simpa using h1);obtain⟨y,ey,qy⟩:=mO r2 (j:=j) (by simpa using h2);exact he j x y ex ey pins σ s A.in1 _ _ I (by show A.units+1+k < cLine;omega) (by simpa using qx)<|by simpa using qy
 rw [Au,Au,<- l1,<- l2,hl,Nat.min_self,<- hl] at q
 simpa using q
theorem wM(n:Nat):(List.range n).all (λ_=>true)=true:=by simp
theorem MM(hu:X.A.units+100 < cLine):cV X (compareOp .Eq) (λx y H Q=>∃ k c,k<=100/\jo X H k x y c/\Q (.bl c) H):=by
 intro pins s σ H x y v u Q I rx ry h;obtain⟨k,c,hk,hc,q⟩:=h;exact hc pins σ s X.A v u I (by omega) rx ry X.prog X.w X.xe _ ⟨.bl c,H,I,rfl,q⟩
theorem lH(hu:X.A.units+100 < cLine):cV X (compareOp .NotEq) (λx y H Q=>∃ k c,k<=100/\lG X H k x y c/\Q (.bl (!c)) H):=by
 intro pins s σ H x y v u Q I rx ry h;obtain⟨k,c,hk,hc,q⟩:=h;exact hc pins σ s X.A v u I (by omega) rx ry X.prog X.w X.xe _ ⟨.bl (!c),H,I,rfl,q⟩
theorem MO(e:Nat->Bool)(ha:aK X.K H a xs)(hb:aK X.K H b ys)(hl:xs.length=ys.length)(he:∀ j x y,xs[j]?=some x->ys[j]?=some y->iA X H k x y (e j)):lG X H (k+1) (.ref a) (.ref b) ((List.range xs.length).all e):=λpins σ s A u v I hu rx ry=>by
 cases rx;cases ry;obtain⟨i1,r1,p1,_⟩:=I.tuple ha;obtain⟨i2,r2,p2,_⟩:=I.tuple hb;have l1:=r1.length;have l2:=r2.length;have q:=SeqAt.RcNeAt.tuples (A:=A) (e:=e) p1 p2 (by omega) λj h1 h2=>by
  obtain⟨x,ex,qx⟩:=mO r1 (j:=j) (by simpa using h1);obtain⟨y,ey,qy⟩:=mO r2 (j:=j) (by simpa using h2);exact he j x y ex ey pins σ s A.in1 _ _ I (by show A.units+1+k < cLine;omega) (by simpa using qx)<|by simpa using qy
 rw [Au,Au,<- l1,<- l2,hl,Nat.min_self,<- hl] at q
 simpa using q
end
section
variable{X:Cx}{o e f c:Expr}{σ:St}{H:Hp}{Q:VK}{T:Bool->Hp->Prop}{ap cp pos:Pos}{body rest:List Stmt}{D:Ends}
theorem Wn{name:Str}{Ty id:String}{r:V->List V->Hp->VK->Prop}(pa:PlainAttrs Ty)(slot:Slot Ty name id)(kU:typeOf (.builtin id)=pure (.type "method_descriptor"))(hm:sG X id r)
  (h:Ev X o σ H λx H1=>my X.K Ty x H1/\r x [] H1 Q) (bI:attributeBase o name X.env (eval o X.env)=eval o X.env:=by rfl) (hline:(ap.endLine == cp.line)=true:=by rfl):Ev X (.Call (.Attribute o name ap) [] [] cp) σ H Q:=
 dB (Uq pa slot kU hm bE bI hline) h
theorem B6{name:Str}{Ty id:String}{r:V->List V->Hp->VK->Prop}(pa:PlainAttrs Ty)(slot:Slot Ty name id)(kU:typeOf (.builtin id)=pure (.type "method_descriptor"))(hm:sG X id r)
  (h:Ev X o σ H λx H1=>my X.K Ty x H1/\Ev X e σ H1 λy H2=>r x [y] H2 Q) (bI:attributeBase o name X.env (eval o X.env)=eval o X.env:=by rfl)
  (db:((backTo cp<|starEach [e] X.env).all (λx=>!x.1) && (backToKw cp<|keywordEach [] X.env).all (λx=>x.1.isSome) && decide ([e].length+([]:List Keyword).length+(if([]:List Keyword).isEmpty then 0 else 1) < 30))=true:=by rfl)
  (hline:(ap.endLine == cp.line)=true:=by rfl) (hs:starEach [e] X.env=(false,eval e X.env) :: starEach [] X.env:=by rfl) (b8:(backTo cp<|starEach [] X.env).any (·.1)=false:=by rfl) (cR:isStar e=false:=by rfl):Ev X (.Call (.Attribute o name ap) [e] [] cp) σ H Q:=
 dB (zL pa slot kU hm bE (jj (es:=[e])) bI db hline hs b8) (h.mono λx H1 ⟨t,h2⟩=>⟨t,ai (h2.mono λy H2 q=>au q) cR⟩)
theorem lI{name:Str}{Ty id:String}{r:V->List V->Hp->VK->Prop}(pa:PlainAttrs Ty)(slot:Slot Ty name id)(kU:typeOf (.builtin id)=pure (.type "method_descriptor"))(hm:sG X id r)
  (h:Ev X o σ H λx H1=>my X.K Ty x H1/\Ev X e σ H1 λy H2=>Ev X f σ H2 λz H3=>r x [y,z] H3 Q) (bI:attributeBase o name X.env (eval o X.env)=eval o X.env:=by rfl)
  (db:((backTo cp<|starEach [e,f] X.env).all (λx=>!x.1) && (backToKw cp<|keywordEach [] X.env).all (λx=>x.1.isSome) && decide ([e,f].length+([]:List Keyword).length+(if([]:List Keyword).isEmpty then 0 else 1) < 30))=true:=by rfl)
  (hline:(ap.endLine == cp.line)=true:=by rfl) (hs:starEach [e,f] X.env=(false,eval e X.env) :: starEach [f] X.env:=by rfl) (b8:(backTo cp<|starEach [f] X.env).any (·.1)=false:=by rfl) (cR:isStar e=false:=by rfl) (Wo:isStar f=false:=by rfl):Ev X (.Call (.Attribute o name ap) [e,f] [] cp) σ H Q:=
 dB (zL pa slot kU hm bE (jj (es:=[e,f])) bI db hline hs b8) (h.mono λx H1 ⟨t,h2⟩=>⟨t,ai (h2.mono λy H2 h3=>ai (h3.mono λz H3 q=>au q) Wo) cR⟩)
def insertAt(xs:List V)(i:Nat)(y:V):List V:=xs.take i++y :: xs.drop i
def Wp:V->List V->Hp->VK->Prop:=λx vs H Q=>∃ l xs i y,x = .ref l/\vs=[.int i,y]/\H l=some (.lst xs)/\0<=i/\i.toNat<=xs.length/\xs.length < sizeLine/\Q .non (upd H l<|.lst<|insertAt xs i.toNat y)
theorem Wq{i:Int}(h0:0<=i)(h:i<=16777216):¬(!Builtin.List.listFitsIndex i)=true:=by
 have e:Builtin.List.listFitsIndex i=true:=by
  unfold Builtin.List.listFitsIndex;rw [Bk,GJ,GJ];omega
 rw [e];exact At
theorem mQ:nY X "list.insert" Wp:=by
 intro pins s σ H x vs v us Q I rx rv h;obtain⟨l,xs,i,y,rfl,rfl,hH,h0,hi,hz,q⟩:=h;cases rx;obtain⟨u,w',rfl,ru,d7⟩:=rv.two;obtain⟨tk,rfl⟩:=ru;obtain⟨z,its,n,r,hl,e⟩:=I.fZ hH;have hs:sizeLine=16777216:=EY;have z2:its.toArray.size<=sizeLine:=by rw [Au,<- hl];exact z
 have mm:=AutoSeq1.list_insert_list_int_val_1 l its.toArray n i tk w' (Wq h0<|by omega) z2;refine PB F.slot_list_insert ⟨_,e,rfl⟩ F.entry_list_insert (F.args_list_insert_3 _ _ _) mm ⟨e,?_⟩;have ef:(λxs:Array Value=>have k:=if i < 0 then(i+(xs.size:Int)).toNat else min i.toNat xs.size;(xs.extract 0 k).push w'++xs.extract k) its.toArray=(its.take i.toNat++w' :: its.drop i.toNat).toArray:=by
  have hn:¬ i < 0:=by omega
  have hm:min i.toNat its.length=i.toNat:=by omega
  simp only [hn,CQ,Au,hm];apply Array.ext';simp;exact Dp<|by simp
 refine⟨.non,_,I.jB (its':=its.take i.toNat++w' :: its.drop i.toNat) hH e ef ((r.take i.toNat).append<|.cons d7<|r.drop i.toNat) ?_,rfl,q⟩;rw [Ae,Ao,Be,Dd];omega
def Wr:V->List V->Hp->VK->Prop:=λx vs H Q=>∃ a kvs k y,x = .ref a/\vs=[kV k,y]/\H a=some (.dK kvs)/\kvs.length < sizeLine /\
 ((∃ v,aB kvs k=some v/\Q v H)\/(aB kvs k=none/\Q y (upd H a<|.dK<|putK kvs k y)))
theorem Ws:nY X "dict.setdefault" Wr:=by
 intro pins s σ H x vs v us Q I rx rv h;obtain⟨a,kvs,k,y,rfl,rfl,hH,hz,q⟩:=h;cases rx;obtain⟨u,w',rfl,ru,d7⟩:=rv.two;obtain⟨z,hd,rs,rel,dd⟩:=zW I.aA hH;have hl:=rel.length;refine call_meetsIn F.slot_dict_setdefault dd.typeIs F.entry_dict_setdefault (F.args_dict_setdefault_3 _ _ _) (kt_meets_setdefault (bR X.prog X.w) a (mD ru) hd w') ⟨rs,dd,by omega,λv hv=>?_,λhn h' gQ hs=>?_⟩
 ·have gI:=rel.val k;rw [hv] at gI
  rcases q with ⟨v',e',q⟩ | ⟨e',_⟩
  ·rw [e'] at gI;exact⟨v',H,I.tok _,gI,q⟩
  ·rw [e'] at gI;exact gI.elim
 ·have gI:=rel.val k;rw [hn] at gI
  rcases q with ⟨v',e',_⟩ | ⟨e',q⟩
  ·rw [e'] at gI;exact gI.elim
  ·have he:∃ q,h'.get? a=some q:=let ⟨q,_,_,hq,_⟩:=gQ;⟨q,hq⟩
   have jf:(putK kvs k y).length<=sizeLine:=by have:=jh kvs k y;omega
   exact⟨y,_,kZ I (by rw [hH];exact True.intro) hs he<|zY jf hd (rel.put k d7) gQ,d7,q⟩
theorem MQ:eI X (.type "int") (λxs H Q=>∃ b:Bool,xs=[.bl b]/\Q (.int (if b then 1 else 0)) H):=by
 intro pins s σ H xs us Q I r h;obtain⟨b,rfl,q⟩:=h;obtain⟨u,rfl,ru⟩:=vals1 r;cases (show u=Value.bool b from ru);exact call_int_bool ⟨.int (if b then 1 else 0),H,I.tok _,⟨_,rfl⟩,q⟩
theorem oU{ke:List Stmt}(Φ:Bool->Hp->Prop)(M:St->Hp->Prop)(hc:Et X c σ H Φ)(ht:∀ H1,Φ true H1->Run X body {D with nx:=M} σ H1)(hu:∀ H1,Φ false H1->Run X ke {D with nx:=M} σ H1)
  (hr:∀ σ' H',M σ' H'->Run X rest D σ' H'):Run X (.If c body ke pos :: rest) D σ H:=
 d9 (hc.mono λk H1 p=>by
  cases k with
  | true=>rw [BR rfl];exact(ht H1 p).nx hr
  | false=>rw [BK At];exact(hu H1 p).nx hr)
theorem wN(W:Nat->St->Hp->Prop){m0:Nat}(h0:W m0 σ H)
  (turn:∀ m σ H,W m σ H->Et X c σ H λb H1=>if b=true then Run X body {D with nx:=λσ' H'=>∃ m',m' < m/\W m' σ' H',ct:=λσ' H'=>∃ m',m' < m/\W m' σ' H',bk:=λσ' H'=>Run X rest D σ' H'} σ H1 else Run X rest D σ H1)
  (hp:PassesOwn (model X.prog X.w) X.A X.env X.xe:=by exact JX):Run X (.While c body [] pos :: rest) D σ H:=by
 refine jD (S7 hp oh om) ⟨W,⟨m0,h0⟩,λm σ1 H1 w1=>(turn m σ1 H1 w1).mono λb H2 q=>?_⟩;cases b with
 | true=>
  rw [BR rfl] at q;exact⟨λσ' H'=>∃ m',m' < m/\W m' σ' H',λ_ _ h=>h,q⟩
 | false=>
  rw [BK At] at q;exact q
theorem B7(h:∀ p,H p=none->Q (.ref p) (upd H p<|.dK [])):Ev X (.Dict [] [] pos) σ H Q:=dB U0 h
theorem Wt(h:∀ p,H p=none->Q (.ref p) (upd H p<|.dT [])):Ev X (.Dict [] [] pos) σ H Q:=dB U1 h
theorem mR(hu:X.A.units+1 < cLine)(h:Ev X o σ H λx H1=>Ev X e σ H1 λy H2=>∃ a v,x = .ref a/\bD H2 a y (some v)/\Q v H2)(hs:nZ e:=by intro _ _;rfl):Ev X (.Subscript o e pos) σ H Q:=dB (UT hu bE bE hs) h
theorem MR(hu:X.A.units+1 < cLine)(h:Ev X e σ H λy H1=>Ev X o σ H1 λx H2=>∃ a r,x = .ref a/\bD H2 a y r/\T r.isSome H2)(hm:behindInMarks .In o=false:=by with_unfolding_all rfl):Et X (.Compare e [.In] [o] pos) σ H T:=
 qF (JY (UU hu bE bE) hm) (h.mono λy H1 h2=>h2.mono λx H2 ⟨a,r,h3,h4,h5⟩=>⟨a,r,h3,h4,_,rfl,h5⟩)
theorem Wu(hu:X.A.units+1 < cLine)(h:Ev X e σ H λy H1=>Ev X o σ H1 λx H2=>∃ a r,x = .ref a/\bD H2 a y r/\T (!r.isSome) H2)(hm:behindInMarks .NotIn o=false:=by with_unfolding_all rfl):Et X (.Compare e [.NotIn] [o] pos) σ H T:=
 qF (JY (UW hu bE bE) hm) (h.mono λy H1 h2=>h2.mono λx H2 ⟨a,r,h3,h4,h5⟩=>⟨a,r,h3,h4,_,rfl,h5⟩)
theorem tL{p2:Pos}(hu:X.A.units+1 < cLine)(h:Ev X f σ H λv H1=>Ev X o σ H1 λx H2=>Ev X e σ H2 λy H3=>∃ a H4,x = .ref a/\cw H3 a y v H4/\Run X rest D σ H4)(hs:swapsWith f (some<|.Subscript o e p2) pos.line X.env=pure false:=by rfl) :
  Run X (.Assign [.Subscript o e p2] f pos :: rest) D σ H:=jD (UX hu bE bE bE hs) h
end
end L2
namespace bK
open PySem PySem.Spec PyProof.Rows
def lexLt(a b:Int×Int):Bool:=if a.1=b.1 then decide (a.2 < b.2) else decide (a.1 < b.1)
theorem Wv(b:Bool)(x y:Value):keyLt' (tuples' b) x y=(do
  let xs <- Builtin.List.listItems x
  let ys <- Builtin.List.listItems y
  for ((p,q),i) in (xs.toList.zip ys.toList).zipIdx do
   if !(<- eqBool p q) then return <- oneLt' (b && i == 0) p q
  return xs.size < ys.size):=rfl
section
variable{prog:Program}{w:World}{A:Around}{E:Value->Shared->Prop}{s:Shared}
def Pr(h:Heap)(a:Addr)(p:Int×Int):Prop:=∃ o n t u,h.get? a=some o/\o.cls = .type "tuple"/\o.data = .seq #[.int p.1 t,.int p.2 u] n
theorem MS{a b:Int}{t u:Tok}{Q:Bool->Shared->Prop}(h:Q (decide (a=b)) s):wpAny (model prog w) A (eqBool (.int a t)<|.int b u) Q E s:=by
 refine SeqAt.EqAt.int_int a t b u prog w E Q ?_;have e:(a == b)=decide (a=b):=rfl;rw [e];exact h
theorem Ww{a b:Int}{t u:Tok}{Q:Bool->Shared->Prop}(h:Q (decide (a < b)) s):wpAny (model prog w) A (oneLt' false (.int a t)<|.int b u) Q E s:=by
 rw [oneLt'_eq];simp only [Ax,CQ];refine BJ ?_;show wpAny _ _ (compareOp .Lt (.int a t)<|.int b u) _ _ _;exact lt_int<|GD h
theorem Wx{x y:Addr}{p q:Int×Int}{Q:Bool->Shared->Prop}(hx:Pr s.heap x p)(hy:Pr s.heap y q)(h:Q (lexLt p q) s):wpAny (model prog w) A (keyLt' (tuples' true) (.ref x)<|.ref y) Q E s:=by
 obtain⟨ox,nx,tx,ux,wO,cx,dx⟩:=hx;obtain⟨oy,ny,ty,uy,Wy,cy,dy⟩:=hy;rw [Wv];refine BJ<|PL wO dx ?_;refine BJ<|PL Wy dy ?_;show wpAny _ _ (forIn [((Value.int p.1 tx,Value.int q.1 ty),0),((Value.int p.2 ux,Value.int q.2 uy),1)] _ _ >>= _) _ _ _;rw [Ek];refine BJ<|BJ ?_
 dsimp only
 refine BJ<|MS ?_
 by_cases c:p.1=q.1
 ·rw [BW c];simp only [Dv,Ax,CQ];refine BL ?_
  dsimp only
  rw [Ek];refine BJ ?_
  dsimp only
  refine BJ<|MS ?_
  by_cases c2:p.2=q.2
  ·rw [BW c2];simp only [Dv,Ax,CQ];refine BL ?_
   dsimp only
   rw [List.forIn_nil];refine BL<|BL ?_;have e:lexLt p q=false:=by unfold lexLt;rw [BR c,c2];simp
   rw [e] at h
   simpa using h
  ·rw [BX c2];simp only [Gx,DP];refine BJ<|Ww<|BL ?_
   dsimp only
   refine BL<|BL ?_;have e:lexLt p q=decide (p.2 < q.2):=by unfold lexLt;rw [BR c]
   rw [e] at h;exact h
 ·rw [BX c];simp only [Gx,DP];refine BJ<|oneLt_int<|BL ?_
  dsimp only
  refine BL<|BL ?_;have e:lexLt p q=decide (p.1 < q.1):=by unfold lexLt;rw [BK c]
  rw [e] at h;exact h
theorem Wz{x y:Value}:(#[x,y]:Array Value).size<=sizeLine+1:=by
 rw [EY];show 2<=_;decide
theorem WB(v:Value):firstOfTuple' v=(do
  if(<- typeOf v) != .type "tuple" then return none
  return (<- Builtin.List.listItems v)[0]?):=rfl
theorem MT{x:Addr}{p:Int×Int}{Q:Option Value->Shared->Prop}(hx:Pr s.heap x p)(h:∀ t,Q (some<|.int p.1 t) s):wpAny (model prog w) A (firstOfTuple'<|.ref x) Q E s:=by
 obtain⟨ox,nx,tx,ux,wO,cx,dx⟩:=hx;rw [WB];refine BJ<|KH (T:= "tuple") ⟨ox,wO,cx⟩ ?_;rw [show(Value.type "tuple" != Value.type "tuple")=false by decide];simp only [Ax,CQ];refine BJ<|PL wO dx ?_;exact BL<|h tx
theorem WC{x y:Addr}{p q:Int×Int}{Q:SortKind->Shared->Prop}(hx:Pr s.heap x p)(hy:Pr s.heap y q)(h:Q (tuples' true) s):wpAny (model prog w) A (keyKind' #[.ref x,.ref y]) Q E s:=by
 rw [keyKind'_eq,show(#[.ref x,.ref y]:Array Value)=[.ref x,.ref y].toArray from rfl,List.mapM_toArray];refine BJ<|wpAny_map ?_;rw [List.mapM_cons];refine BJ<|MT hx λt=>?_;rw [List.mapM_cons];refine BJ<|BJ<|MT hy λu=>?_;rw [List.mapM_nil];refine BJ<|BL<|BL<|BL ?_;rw [BR<|by simp];refine BJ<|JH ?_;rw [oneTypeOnly'_eq];show wpAny _ _ ((Array.mapM typeOf [Value.int p.1 t,Value.int q.1 u].toArray >>= _) >>= _) _ _ _;rw [List.mapM_toArray];have e1:[Value.int p.1 t,Value.int q.1 u].mapM typeOf=(pure [Value.type "int",Value.type "int"]:Sem _):=rfl;rw [e1];refine BL ?_;have e2:(if((#[Value.type "int",Value.type "int"]:Array Value).all λx=>x == (#[Value.type "int",Value.type "int"]:Array Value)[0])=true then some (#[Value.type "int",Value.type "int"]:Array Value)[0] else none)=some (Value.type "int"):=by
  rw [BR]
  ·rfl
  ·simp
 show Q (tuples'<|Option.any (λx=>x != Value.type "tuple") _) s;rw [e2];exact h
theorem wp_at{st:SortSt}{x y:Addr}{p q:Int×Int}{i j:Nat}{Q:Option Bool->SortSt->Prop}(hk:kindOf st=tuples' true)(hi:(arrOf st)[i]?=some (.ref x,.ref x))(hj:(arrOf st)[j]?=some (.ref y,.ref y))(hx:Pr s.heap x p)(hy:Pr s.heap y q)(h:Q (some<|lexLt p q) st) :
  wpS (model prog w) A E s (ltAt' i j) Q st:=by
 rw [ltAt'_eq];refine GQ<|wpS_get ?_;show wpS _ _ _ _ (elem' (arrOf st) i >>= λa=>elem' (arrOf st) j >>= λb=>lt' a b) Q st;rw [elem'_eq,elem'_eq,hi,hj];refine GQ<|JN<|GQ<|JN ?_;rw [lt'_eq];refine GQ<|wpS_get ?_;rw [hk];refine GQ<|wpS_lift<|JF<|Wx hx hy ⟨rfl,?_⟩;exact JN h
def km(x y:Addr)(p q:Int×Int):Array Keyed:=if lexLt q p then #[(.ref y,.ref y),(.ref x,.ref x)] else #[(.ref x,.ref x),(.ref y,.ref y)]
theorem WD{x y:Addr}{p q:Int×Int}{Q:Option Nat->SortSt->Prop}(hx:Pr s.heap x p)(hy:Pr s.heap y q)
  (h:Q (some 2)<|SortSt.mk' (tuples' true) (km x y p q) #[] 7 none):wpS (model prog w) A E s (countRun' 0 2) Q (SortSt.mk' (tuples' true) #[(.ref x,.ref x),(.ref y,.ref y)] #[] 7 none):=by
 rw [countRun0_eq];refine GQ ?_;unfold ascLoop;refine wpS_mono (PN (I:=λi c st=>st=SortSt.mk' (tuples' true) #[(.ref x,.ref x),(.ref y,.ref y)] #[] 7 none/\c=(none,i)/\(i=2->lexLt q p=false))
  (Q:=λc st=>st=SortSt.mk' (tuples' true) #[(.ref x,.ref x),(.ref y,.ref y)] #[] 7 none/\((c=(none,1)/\lexLt q p=true)\/(c=(none,2)/\lexLt q p=false))) ?_ ?_ ⟨rfl,rfl,λh=>by cases h⟩) ?_
 ·rintro i c st h1 h2 ⟨rfl,rfl,hI⟩;have e:i=1:=by omega
  subst e;refine GQ<|wp_at rfl rfl rfl hy hx ?_
  dsimp only
  cases hb:lexLt q p with
  | true=>
   rw [BR rfl];exact JN ⟨rfl,.inl ⟨rfl,rfl⟩⟩
  | false=>
   rw [BK At];exact JN ⟨rfl,rfl,λ_=>rfl⟩
 ·rintro c st ⟨rfl,rfl,hI⟩;exact⟨rfl,.inr ⟨rfl,hI rfl⟩⟩
 ·rintro c st ⟨rfl,⟨rfl,hb⟩ | ⟨rfl,hb⟩⟩
  ·dsimp only
   rw [BK (by decide),BK<|by decide];unfold descPart;refine GQ<|wpS_lift<|JH ⟨rfl,?_⟩;unfold descLoop;refine GQ (wpS_mono (PN (I:=λi c st=>c=(none,2,0)/\st=SortSt.mk' (tuples' true) #[(.ref x,.ref x),(.ref y,.ref y)] #[] 7 none) (Q:=λc st=>c=(none,2,0)/\st=SortSt.mk' (tuples' true) #[(.ref x,.ref x),(.ref y,.ref y)] #[] 7 none) (λi c st h1 h2 _=>by omega) (λc st h=>h) ⟨rfl,rfl⟩) ?_);rintro c st ⟨rfl,rfl⟩
   dsimp only
   rw [BK<|by decide];unfold tail3;refine GQ<|wpS_reverse ?_;unfold ascLoop;refine GQ (wpS_mono (PN (I:=λi c st=>c=(none,2)/\st=SortSt.mk' (tuples' true) #[(.ref y,.ref y),(.ref x,.ref x)] #[] 7 none) (Q:=λc st=>c=(none,2)/\st=SortSt.mk' (tuples' true) #[(.ref y,.ref y),(.ref x,.ref x)] #[] 7 none) (λi c st h1 h2 _=>by omega) (λc st h=>h) ⟨rfl,rfl⟩) ?_);rintro c st ⟨rfl,rfl⟩
   dsimp only
   refine JN ?_;unfold km at h;rw [BR hb] at h;exact h
  ·dsimp only
   rw [BR<|by decide];refine JN ?_;unfold km at h;rw [BK<|by rw [hb];exact At] at h;exact h
theorem WG{x y:Addr}{p q:Int×Int}{Q:Unit->SortSt->Prop}(hx:Pr s.heap x p)(hy:Pr s.heap y q)(h:∀ st,arrOf st=km x y p q->failedOf st=none->Q () st) :
  wpS (model prog w) A E s sortRuns' Q (SortSt.mk' (tuples' true) #[(.ref x,.ref x),(.ref y,.ref y)] #[] 7 none):=by
 rw [sortRuns'_eq];refine GQ<|wpS_get ?_
 dsimp only
 have WH:minRun' 2 2 0=2:=by rw [minRun'_succ,BR<|by decide]
 show wpS _ _ _ _ ((forIn [0:2] _ _) >>= _) _ _;have sz:(#[(Value.ref x,Value.ref x),(Value.ref y,Value.ref y)]:Array Keyed).size=2:=rfl;refine GQ<|wpS_mono (PN (I:=λi c st=>(i=0/\c=(none,0)/\st=SortSt.mk' (tuples' true) #[(.ref x,.ref x),(.ref y,.ref y)] #[] 7 none)\/(1<=i/\c=(none,2)/\st=SortSt.mk' (tuples' true) (km x y p q) #[(0,2,0)] 7 none))
  (Q:=λc st=>c=(none,2)/\st=SortSt.mk' (tuples' true) (km x y p q) #[(0,2,0)] 7 none) ?_ ?_ (.inl ⟨rfl,rfl,rfl⟩)) ?_
 ·rintro i c st h1 h2 (⟨rfl,rfl,rfl⟩ | ⟨hi,rfl,rfl⟩)
  ·dsimp only
   rw [BK<|by show ¬(0>=2);decide];refine GQ ?_;show wpS _ _ _ _ (countRun' 0 2) _ _;refine WD hx hy ?_
   dsimp only
   rw [BK<|by show ¬(2 < minRun' 2 2 0);rw [WH];decide];refine GQ<|wpS_get ?_;show wpS _ _ _ _ (modify _ >>= _) _ _;exact GQ<|wpS_modify<|JN<|.inr ⟨Ak _,rfl,rfl⟩
  ·dsimp only
   rw [BR<|by show 2>=2;decide];exact JN ⟨rfl,rfl⟩
 ·rintro c st (⟨h1,_,_⟩ | ⟨_,hc,hs⟩)
  ·exact absurd h1<|by decide
  ·exact⟨hc,hs⟩
 ·rintro c st ⟨rfl,rfl⟩
  dsimp only
  refine GQ<|wpS_mono (PN (I:=λ_ c st=>st=SortSt.mk' (tuples' true) (km x y p q) #[(0,2,0)] 7 none/\c=(none,())) (Q:=λc st=>st=SortSt.mk' (tuples' true) (km x y p q) #[(0,2,0)] 7 none/\c=(none,())) ?_ (λ_ _ hh=>hh) ⟨rfl,rfl⟩) ?_
  ·rintro i c st _ _ ⟨rfl,rfl⟩;refine GQ<|wpS_get ?_;rw [BR<|by show 1<=1;decide];exact JN ⟨rfl,rfl⟩
  ·rintro c st ⟨rfl,rfl⟩;exact JN<|h _ rfl rfl
theorem WK{a x y:Addr}{p q:Int×Int}{n:Nat}{P:Fin->Shared->Prop}(ho:s.heap.get? a=some (seqObj "list" #[.ref x,.ref y] n))(WL:a≠x)(WM:a≠y)(hx:Pr s.heap x p)(hy:Pr s.heap y q)
  (h:P (.done<|.ret .none) {s with heap:=sortedHeap s.heap a [.ref x,.ref y] (if lexLt p q then #[.ref y,.ref x] else #[.ref x,.ref y])}) :
  wpAny (model prog w) A (Builtin.«list.sort» ⟨[.ref a],[(Str.ofString "reverse",.bool true)]⟩) P E s:=by
 rw [list_sort_rev];have ha:a < s.heap.objs.size:=As ho;refine BJ<|PL ho rfl ?_;refine BJ<|MJ ho rfl ?_;obtain⟨e1,lv⟩:∃ e1,(s.heap.update a<|Obj.mapSeq λ_=>#[]).get? a=some (seqObj "list" #[] e1):=⟨_,get?_update_seq ho λ_=>#[]⟩;refine BJ<|QG lv rfl ?_;refine BJ<|QF ?_;refine BJ<|JW ?_;refine CK ?_;have oV:(((s.heap.update a<|Obj.mapSeq λ_=>#[]).push<|seqObj "tuple" [Value.ref x,Value.ref y].toArray 0).push<|seqObj "list" #[] 0).get? a=some (seqObj "list" #[] e1):=
  Ah _ (Ah _ lv)
 show wpAny (model prog w) A _ P E {s with heap:=((s.heap.update a<|Obj.mapSeq λ_=>#[]).push<|seqObj "tuple" [Value.ref x,Value.ref y].toArray 0).push (seqObj "list" #[] 0)};have keep:∀ z r,a≠z->Pr s.heap z r->Pr (((s.heap.update a<|Obj.mapSeq λ_=>#[]).push<|seqObj "tuple" [Value.ref x,Value.ref y].toArray 0).push<|seqObj "list" #[] 0) z r:=by
  rintro z r hz ⟨o,m,t,u,q1,q2⟩;exact⟨o,m,t,u,Ah _<|Ah _<|(Bs _ _ hz).trans q1,q2⟩
 have kx:=keep x p WL hx;have ky:=keep y q WM hy
 dsimp only
 rw [BR rfl];refine BJ<|JH ?_;rw [BK<|by show ¬(2 < 2);decide];refine BJ<|WC kx ky ?_;rw [BK<|by show ¬(2 < 2);decide];have e2:(if true=true then((#[Value.ref x,Value.ref y]:Array Value).zip #[Value.ref x,Value.ref y]).reverse else(#[Value.ref x,Value.ref y]:Array Value).zip #[Value.ref x,Value.ref y])=#[(Value.ref y,Value.ref y),(Value.ref x,Value.ref x)]:=by
  rw [BR rfl];simp
 rw [e2];refine BJ<|CW (WG (Q:=λ_ st=>arrOf st=km y x q p/\failedOf st=none) ky kx λst h1 h2=>⟨h1,h2⟩) ?_ λ_ _ e=>e;rintro ⟨⟨⟩,cS⟩ s' ⟨rfl,hs,hf⟩
 dsimp only
 have e3:(if true=true then((arrOf cS).map (·.2)).reverse else(arrOf cS).map (·.2))=(if lexLt p q then #[.ref y,.ref x] else #[.ref x,.ref y]):=by
  rw [BR rfl,hs];unfold km
  split <;> simp
 refine BJ<|QG oV rfl ?_;refine BJ (MJ oV rfl ?_ (hsz2:=by rw [e3];split <;> exact Wz));rw [hf];simp only [LQ,Ax,CQ];refine BL ?_;have e4:(λ_:Array Value=>if True then((arrOf cS).map (·.2)).reverse else(arrOf cS).map (·.2))=λ_=>(if lexLt p q then #[.ref y,.ref x] else #[.ref x,.ref y]):=by
  funext _
  rw [BR trivial];rw [BR rfl] at e3;exact e3
 rw [e4];exact h
theorem WN{l x y:Addr}{p q:Int×Int}{Q:Value->Shared->Prop}(hl:s.heap.IsList l #[.ref x,.ref y])(hx:Pr s.heap x p)(hy:Pr s.heap y q)
  (h:∀(h':Heap) (e:Nat),(∀ b u,s.heap.get? b=some u->h'.get? b=some u)->h'.get? (s.heap.objs.size+1)=some (seqObj "list" (if lexLt p q then #[.ref y,.ref x] else #[.ref x,.ref y]) e)->Q (.ref<|s.heap.objs.size+1) {s with heap:=h'}) :
  wpAny (model prog w) A (call (.builtin "sorted") [.ref l] [(Str.ofString "reverse",.bool true)]) Q E s:=by
 refine call_function_entry_kw kind_sorted plain_sorted entry_sorted (args_sorted_rev _ _) ?_;unfold Builtin.«sorted»;refine BJ (m:=checkCount "sorted" 1 1 _)<|BL ?_;refine BJ<|collect_list (vs:=[.ref x,.ref y]) hl ?_;refine BJ<|JW ?_;have hsz:((s.heap.push<|seqObj "list" #[] 0).update s.heap.objs.size (Obj.mapSeq (·++[Value.ref x,Value.ref y].toArray))).objs.size=s.heap.objs.size+1:=by
  rw [Heap.size_update,size_push']
 have je:(((s.heap.push<|seqObj "list" #[] 0).update s.heap.objs.size (Obj.mapSeq (·++[Value.ref x,Value.ref y].toArray))).push<|seqObj "list" [Value.ref x,Value.ref y].toArray 0).get? (s.heap.objs.size+1)=some (seqObj "list" [Value.ref x,Value.ref y].toArray 0):=by
  rw [<- hsz];exact Ar _ rfl
 have lx:x < s.heap.objs.size:=let ⟨_,_,_,_,e,_⟩:=hx;As e
 have ly:y < s.heap.objs.size:=let ⟨_,_,_,_,e,_⟩:=hy;As e
 have keep:∀ z r,Pr s.heap z r->Pr (((s.heap.push<|seqObj "list" #[] 0).update s.heap.objs.size (Obj.mapSeq (·++[Value.ref x,Value.ref y].toArray))).push<|seqObj "list" [Value.ref x,Value.ref y].toArray 0) z r:=by
  rintro z r ⟨o,m,t,u,q1,q2⟩;have hz:=As q1;exact⟨o,m,t,u,Ah _<|(Bs _ _<|Cw hz).trans<|Ah _ q1,q2⟩
 show wpAny _ _ _ _ _ {s with heap:=((s.heap.push<|seqObj "list" #[] 0).update s.heap.objs.size (Obj.mapSeq (·++[Value.ref x,Value.ref y].toArray))).push (seqObj "list" [Value.ref x,Value.ref y].toArray 0)};rw [hsz];refine BJ<|CK<|wpAny_call_entry_kw slot_list_sort ⟨_,je,rfl⟩ entry_list_sort (WK je (Cw<|Ce lx) (Cw<|Ce ly) (keep x p hx) (keep y q hy) ⟨_,rfl,?_⟩)<|args_list_sort_rev _ _;obtain⟨e,he⟩:=sortedAll_at s.heap [Value.ref x,Value.ref y] (if lexLt p q then #[.ref y,.ref x] else #[.ref x,.ref y]);exact BL ⟨_,rfl,h _ e (λb u hb=>sortedAll_old hb) he⟩
end
end bK
namespace L2
open PySem PySem.Spec PyProof.Rows bK
section
variable{X:Cx}{e:Expr}{σ:St}{H:Hp}{Q:VK}{pos p kp cp:Pos}{j:Nat}
theorem MU{pins:List (Addr×Obj)}{s:Shared}{a:Addr}{i j:Int}(I:Inv X pins σ H s)(h:H a=some (.tup [.int i,.int j])):Pr s.heap a (i,j):=by
 obtain⟨its,r,pl,_⟩:=I.tuple<|aK.of h;obtain⟨u,v,rfl,⟨t,rfl⟩,⟨t',rfl⟩⟩:=vals2 r;obtain⟨o,ho,hc,n,hd⟩:=pl;exact⟨o,n,t,t',ho,hc,hd⟩
theorem WO(hm:X.mg "sorted" = none) (h:Ev X e σ H λv H1=>∃ l x y a b c d,v = .ref l/\H1 l=some (.lst [.ref x,.ref y])/\H1 x=some (.tup [.int a,.int b])/\H1 y=some (.tup [.int c,.int d]) /\
   ∀ r,H1 r=none->Q (.ref r) (upd H1 r<|.lst (if lexLt (a,b) (c,d) then [.ref y,.ref x] else [.ref x,.ref y]))) (hg:Gl X "sorted":=by rfl)
  (he:backTo pos (starEach [e] X.env)=(false,eval e X.env) :: backTo pos (starEach [] X.env):=by rfl) (b8:(backTo pos<|starEach [e] X.env).any (·.1)=false:=by rfl) (cR:isStar e=false:=by rfl) :
  Ev X (.Call (.Name "sorted" p) [e] [⟨some "reverse",.Constant (.bool true) j cp,kp⟩] pos) σ H Q:=by
 refine⟨λpins s I=>?_⟩;refine JG<|nL I hg hm KJ ?_;have hE:Ea X [e] σ H λvs H1=>∃ l x y a b c d,vs=[.ref l]/\H1 l=some (.lst [.ref x,.ref y])/\H1 x=some (.tup [.int a,.int b])/\H1 y=some (.tup [.int c,.int d]) /\
   ∀ r,H1 r=none->Q (.ref r) (upd H1 r<|.lst (if lexLt (a,b) (c,d) then [.ref y,.ref x] else [.ref x,.ref y])):=
  ai (h.mono λv H1 ⟨l,x,y,a,b,c,d,e1,r1⟩=>au ⟨l,x,y,a,b,c,d,by rw [e1],r1⟩) cR
 refine callWith_kw (aE (hE.run pos pins s I) λus s1 ⟨vs,H1,I1,r1,l,x,y,a,b,c,d,ev,hl,hx,hy,q⟩=>?_) he b8;subst ev;obtain⟨u,rfl,ru⟩:=vals1 r1;cases (show u=Value.ref l from ru);refine kws_cons<|BL<|kws_nil ?_;obtain⟨its,r2,pl,_⟩:=I1.list<|al.of hl;obtain⟨u,v,rfl,ru,rv⟩:=vals2 r2;cases (show u=Value.ref x from ru);cases (show v=Value.ref y from rv);refine WN pl.isList (MU I1 hx) (MU I1 hy) λh' e kp he=>?_;refine⟨.ref _,_,I1.iz (s':={s1 with heap:=h'}) kp rfl rfl (Fc _) (show ax X.prog X.w _ h' _ (.lst (if lexLt (a,b) (c,d) then [.ref y,.ref x] else [.ref x,.ref y])) from ?_),rfl,q _<|I1.aA.fresh<|Fc _⟩
 split at he
 ·rename_i hb;rw [BR hb];exact⟨by show 2<=sizeLine;rw [EY];decide,[.ref y,.ref x],e,.cons rfl (.cons rfl .nil),he⟩
 ·rename_i hb;rw [BK hb];exact⟨by show 2<=sizeLine;rw [EY];decide,[.ref x,.ref y],e,.cons rfl (.cons rfl .nil),he⟩
end
end L2
namespace Nt
open PySem
abbrev Net:=List<|Str×List Str
abbrev End:=Nat×Nat
def row(n:Net)(r:Nat):List Str:=((n[r]?).map (·.2)).getD []
def aM(n:Net)(e:End):Option Str:=(row n e.1)[e.2]?
def bL(r:Nat)(ts:List Str)(p:Nat):List (Str×End):=(ts.zipIdx p).map λx=>(x.1,(r,x.2))
def fI(r:Nat):Net->List (Str×End)
 | []=>[]
 | a :: n=>bL r a.2 0++fI (r+1) n
def bw(n:Net):List (Str×End):=fI 0 n
def ends(n:Net):List End:=(bw n).map (·.2)
def af(n:Net):List Str:=n.flatMap (·.2)
def pos(n:Net)(z:Str):List End:=((bw n).filter λx=>decide (x.1=z)).map (·.2)
theorem bd{r:Nat}{ts:List Str}{p:Nat}{z:Str}{e:End}:(z,e)∈bL r ts p↔e.1=r/\p<=e.2/\ts[e.2 - p]?=some z:=by
 unfold bL;rw [Al]
 constructor
 ·rintro ⟨⟨y,k⟩,hm,he⟩;cases he;have:=Fj.mp hm;exact⟨rfl,this.1,this.2⟩
 ·rintro ⟨h1,h2,h3⟩;refine⟨(z,e.2),Fj.mpr ⟨h2,h3⟩,?_⟩;rw [<- h1]
theorem bA:∀{n:Net} {k:Nat} {z:Str} {e:End},(z,e)∈fI k n↔k<=e.1/\(row n<|e.1 - k)[e.2]?=some z
 | [],k,z,e=>by
  constructor
  ·intro h;cases h
  ·rintro ⟨_,h⟩;simp [row] at h
 | a :: n,k,z,e=>by
  unfold fI;rw [An,bd,bA]
  constructor
  ·rintro (⟨h1,_,h3⟩ | ⟨h1,h2⟩)
   ·refine⟨by omega,?_⟩;rw [show e.1 - k=0 by omega]
    simpa [row] using h3
   ·refine⟨by omega,?_⟩;rw [show e.1 - k=(e.1 - (k+1))+1 by omega]
    simpa [row] using h2
  ·rintro ⟨h1,h2⟩
   rcases Cy k e.1 with h | h
   ·refine .inr ⟨h,?_⟩;rw [show e.1 - k=(e.1 - (k+1))+1 by omega] at h2
    simpa [row] using h2
   ·refine .inl ⟨by omega,Bv _,?_⟩;rw [show e.1 - k=0 by omega] at h2
    simpa [row] using h2
theorem aT{n:Net}{z:Str}{e:End}:(z,e)∈bw n↔aM n e=some z:=by
 unfold bw aM;rw [bA];simp
theorem ag{n:Net}{e:End}:e∈ends n↔∃ z,aM n e=some z:=by
 unfold ends;rw [Al]
 constructor
 ·rintro ⟨⟨z,e'⟩,h,rfl⟩;exact⟨z,aT.mp h⟩
 ·rintro ⟨z,h⟩;exact⟨(z,e),aT.mpr h,rfl⟩
theorem aP{n:Net}{z:Str}{e:End}:e∈pos n z↔aM n e=some z:=by
 unfold pos;rw [Al]
 constructor
 ·rintro ⟨⟨y,e'⟩,h,rfl⟩;rw [Cz,GJ] at h;obtain⟨h1,h2⟩:=h;subst h2;exact aT.mp h1
 ·intro h;exact⟨(z,e),Cz.mpr ⟨aT.mpr h,by simp⟩,rfl⟩
theorem WQ(r:Nat):∀(ts:List Str) (p:Nat),(bL r ts p).map (·.1)=ts:=by
 intro ts p;unfold bL;rw [Cf];have:((λx:Str×End=>x.1) ∘ λx:Str×Nat=>(x.1,(r,x.2)))=Prod.fst:=rfl;rw [this,List.zipIdx_map_fst]
theorem lJ:∀(n:Net) (k:Nat),(fI k n).map (·.1)=af n
 | [],_=>rfl
 | a :: n,k=>by
  unfold fI af;rw [Am,WQ,lJ n<|k+1,Ep];rfl
theorem WR(r:Nat)(ts:List Str)(p:Nat):((bL r ts p).map (·.2)).Nodup:=by
 unfold bL;rw [Cf];have e:((λx:Str×End=>x.2) ∘ λx:Str×Nat=>(x.1,(r,x.2)))=(λk:Nat=>(r,k)) ∘ Prod.snd:=rfl;rw [e,<- Cf,List.zipIdx_map_snd];refine JQ _ (R:=(·≠·)) ?_ List.nodup_range';intro a b h gm;exact h (Prod.mk.inj gm).2
theorem MV:∀(n:Net) (k:Nat),((fI k n).map (·.2)).Nodup
 | [],_=>Cd
 | a :: n,k=>by
  unfold fI;rw [Am,Cc];refine⟨WR _ _ _,MV n<|k+1,?_⟩;intro x hx y hy e;subst e;obtain⟨⟨z,e1⟩,h1,rfl⟩:=Al.mp hx;obtain⟨⟨z2,e2⟩,h2,he⟩:=Al.mp hy;simp only at he;subst he;have q1:=(bd.mp h1).1;have q2:=(bA.mp h2).1;omega
theorem kn(n:Net):(ends n).Nodup:=MV n 0
theorem MX(n:Net)(z:Str):(pos n z).Nodup:=by
 unfold pos;exact(kn n).sublist<|List.Sublist.map _<|List.filter_sublist
theorem tM(n:Net)(z:Str):(pos n z).length=(af n).count z:=by
 unfold pos;rw [Aa,<- lJ n 0,<- List.countP_eq_length_filter,List.count,List.countP_map];rfl
def aC(n:Net):Prop:=∀ z∈af n,(af n).count z=2
theorem fk{n:Net}{e:End}{z:Str}(h:aM n e=some z):z∈af n:=by
 have:=aT.mpr h;rw [<- lJ n 0];exact Al.mpr ⟨_,this,rfl⟩
def other(n:Net)(e:End):End:=match aM n e with
 | some z=>(match pos n z with
  | [a,b]=>if a=e then b else a
  | _=>e)
 | none=>e
theorem qL{n:Net}(T:aC n){e:End}{z:Str}(h:aM n e=some z):∃ a b,pos n z=[a,b]/\a≠b/\(e=a\/e=b):=by
 have hl:=tM n z;rw [T z<|fk h] at hl;have hn:=MX n z;have hm:=aP.mpr h
 match hp:pos n z,hl with
 | [a,b],_=>
  rw [hp] at hn hm;refine⟨a,b,rfl,?_,?_⟩
  ·intro e;subst e;simp at hn
  ·simpa using hm
theorem iB{n:Net}(T:aC n){e:End}{z:Str}(h:aM n e=some z):aM n (other n e)=some z/\other n (other n e)=e/\other n e≠e:=by
 obtain⟨a,b,hp,gm,he⟩:=qL T h;have ha:aM n a=some z:=aP.mp (by rw [hp];simp);have hb:aM n b=some z:=aP.mp<|by rw [hp];simp
 rcases he with rfl | rfl
 ·have e1:other n e=b:=by unfold other;simp only [h,hp];simp
  have e2:other n b=e:=by unfold other;simp only [hb,hp];simp [gm]
  rw [e1];exact⟨hb,e2,gm.symm⟩
 ·have e1:other n e=a:=by unfold other;simp only [h,hp];simp [gm]
  have e2:other n a=e:=by unfold other;simp only [ha,hp];simp
  rw [e1];exact⟨ha,e2,gm⟩
def left(n:Net)(e:End):End:=(e.1,(e.2+1) % (row n e.1).length)
def step(n:Net)(e:End):End:=left n (other n e)
theorem jK{n:Net}{e:End}{z:Str}(h:aM n e=some z):e.2 < (row n e.1).length:=(Ac.mp h).1
theorem eW{n:Net}{e:End}{z:Str}(h:aM n e=some z):e.1 < n.length:=by
 rcases Cy e.1 n.length with c | c
 ·exact c
 ·have:=jK h;unfold row at this;rw [Bw c] at this;simp at this
theorem wQ{n:Net}{e:End}(h:e.2 < (row n e.1).length):∃ z,aM n e=some z:=⟨_,Ab h⟩
theorem WT{n:Net}{e:End}(h:e∈ends n):left n e∈ends n:=by
 obtain⟨z,h⟩:=ag.mp h;have:=jK h;exact ag.mpr<|wQ (show(e.2+1) % (row n e.1).length < (row n e.1).length from Gh _<|by omega)
theorem gX{n:Net}(T:aC n){e:End}(h:e∈ends n):other n e∈ends n:=by
 obtain⟨z,h⟩:=ag.mp h;exact ag.mpr ⟨z,(iB T h).1⟩
theorem lK{n:Net}(T:aC n){e:End}(h:e∈ends n):step n e∈ends n:=WT<|gX T h
theorem WU{n:Net}{a b:End}(ha:a∈ends n)(hb:b∈ends n)(h:left n a=left n b):a=b:=by
 obtain⟨z,ha⟩:=ag.mp ha;obtain⟨y,hb⟩:=ag.mp hb;have la:=jK ha;have lb:=jK hb;unfold left at h;obtain⟨h1,h2⟩:=Prod.mk.inj h;rw [h1] at la h2;have:a.2=b.2:=by
  rcases Cy (a.2+1) (row n b.1).length with c | c <;> rcases Cy (b.2+1) (row n b.1).length with d | d
  ·rw [Cm c,Cm d] at h2;omega
  ·have e:b.2+1=(row n b.1).length:=by omega
   rw [Cm c,e,Er] at h2;omega
  ·have e:a.2+1=(row n b.1).length:=by omega
   rw [Cm d,e,Er] at h2;omega
  ·omega
 exact HS h1 this
theorem WV{n:Net}(T:aC n){a b:End}(ha:a∈ends n)(hb:b∈ends n)(h:other n a=other n b):a=b:=by
 obtain⟨z,ha⟩:=ag.mp ha;obtain⟨y,hb⟩:=ag.mp hb;rw [<- (iB T ha).2.1,h,(iB T hb).2.1]
theorem wR{n:Net}(T:aC n){a b:End}(ha:a∈ends n)(hb:b∈ends n)(h:step n a=step n b):a=b:=
 WV T ha hb (WU (gX T ha) (gX T hb) h)
theorem aF{α:Type} [DecidableEq α]:∀{a b:List α},a.Nodup->(∀ z∈a,z∈b)->a.length<=b.length
 | [],b,_,_=>Bv _
 | x :: r,b,hn,hs=>by
  rw [Bn] at hn;have hx:=hs x Ad;have:=aF (a:=r) (b:=b.erase x) hn.2 λz hz=>by
   have aX:z≠x:=λe=>hn.1<|e ▸ hz;exact(Es aX).mpr<|hs z<|Aj _ hz
  rw [Ey hx] at this;have hp:0 < b.length:=Gf hx;rw [Ao];omega
def it{α:Type}(f:α->α):Nat->α->α
 | 0,a=>a
 | k+1,a=>f<|it f k a
theorem jL{α:Type}{f:α->α}{S:List α}(hf:∀ a∈S,f a∈S){a:α}(h:a∈S):∀ k,it f k a∈S
 | 0=>h
 | k+1=>hf _<|jL hf h k
theorem MY{α:Type} [DecidableEq α] {f:α->α} {S:List α} (hf:∀ a∈S,f a∈S) (inj:∀ a∈S,∀ b∈S,f a=f b->a=b) {a:α} (h:a∈S):∃ k,0 < k/\k<=S.length/\it f k a=a:=by
 have cancel:∀ i j,it f i a=it f (i+j) a->it f j a=a:=by
  intro i
  induction i with
  | zero=>intro j e;rw [Ge] at e;exact e.symm
  | succ i ih=>
   intro j e;refine ih j ?_;rw [show i+1+j=(i+j)+1 by omega] at e;exact inj _ (jL hf h i) _ (jL hf h<|i+j) e
 refine CV λhn=>?_;have nd:((List.range<|S.length+1).map λi=>it f i a).Nodup:=by
  refine JQ _ (R:=λi j=>i < j/\j < S.length+1) ?_ ?_
  ·rintro i j ⟨h1,h2⟩ e;refine hn ⟨j - i,by omega,by omega,cancel i (j - i) ?_⟩;rw [show i+(j - i)=j by omega];exact e
  ·rw [Bm];intro i j hi hj gY;simp only [QL];simp at hj;exact⟨gY,hj⟩
 have:=aF nd λz hz=>by
  obtain⟨i,_,rfl⟩:=Al.mp hz;exact jL hf h i
 simp at this;omega
theorem gZ:∀(n:Net) (r:Nat),(row n r).length<=(af n).length
 | [],r=>by simp [row,af]
 | a :: n,0=>by simp [row,af]
 | a :: n,r+1=>by
  have:=gZ n r;simp [row,af] at this ⊢;omega
theorem wU:∀(n:Net) (r:Nat),(af<|n.take r).length<=(af n).length
 | [],r=>by simp [af]
 | a :: n,0=>by simp [af]
 | a :: n,r+1=>by
  have:=wU n r;simp [af] at this ⊢;omega
structure df(n:Net)(e:Nt.End)(fs:List End):Prop where
 pos:0 < fs.length
 len:fs.length<=(ends n).length
 at':∀ i,i < fs.length->fs[i]?=some (it (step n) i e)
 back:it (step n) fs.length e=e
 first:∀ i,0 < i->i < fs.length->it (step n) i e≠e
open L2
abbrev Ls(zs:List Str):HO:= .lst<|zs.map V.str
abbrev Tp(e:End):HO:= .tup [.int e.1,.int e.2]
structure ah(H:Hp)(R:Addr)(as:List<|Addr×Addr)(n:Net):Prop where
 len:as.length=n.length
 lst:H R=some (.lst<|as.map λa=> .ref a.1)
 tup:∀(i:Nat) a r,as[i]?=some a->n[i]?=some r->H a.1=some (.tup [.str r.1,.ref a.2])/\H a.2=some (Ls r.2)
 inj:(as.map (·.2)).Nodup
theorem ah.same{H H':Hp}{R:Addr}{as:List (Addr×Addr)}{n:Net}(h:ah H R as n)(s:aj H H'):ah H' R as n:=
 ⟨h.len,s _ _ h.lst,λi a r h1 h2=>⟨s _ _ (h.tup i a r h1 h2).1,s _ _ (h.tup i a r h1 h2).2⟩,h.inj⟩
theorem ah.at{H:Hp}{R:Addr}{as:List (Addr×Addr)}{n:Net}(h:ah H R as n){i:Nat}(hi:i < n.length) :
  ∃ a,as[i]?=some a/\dI (as.map λa=>V.ref a.1) (i:Int)=some (.ref a.1)/\H a.1=some (.tup [.str n[i].1,.ref a.2])/\H a.2=some (Ls<|row n i)/\row n i=n[i].2:=by
 have hl:=h.len;have e:as[i]?=some as[i]:=Ab (by omega);have er:row n i=n[i].2:=by unfold row;rw [Ab hi];rfl
 have q:=h.tup i as[i] n[i] e<|Ab hi;refine⟨as[i],e,nW (by rw [Af,e];rfl),q.1,?_,er⟩;rw [er];exact q.2
theorem iW{zs:List Str}{j:Nat}{z:Str}(h:zs[j]?=some z):dI (zs.map V.str) (j:Int)=some (.str z):=nW<|by rw [Af,h];rfl
inductive Pd (H:Hp):List Addr->List End->Prop where
 | nil:Pd H [] []
 | cons {t:Addr} {e:End} {ts:List Addr} {es:List End}:H t=some (Tp e)->Pd H ts es->Pd H (t :: ts) (e :: es)
theorem Pd.append{H:Hp}{ts us:List Addr}{es fs:List End}(h:Pd H ts es)(g:Pd H us fs):Pd H (ts++us) (es++fs):=by
 induction h with
 | nil=>exact g
 | cons h1 _ ih=>exact .cons h1 ih
theorem Pd.keep{H H':Hp}{ts:List Addr}{es:List End}(h:Pd H ts es)(k:∀ t e,H t=some (Tp e)->H' t=some (Tp e)):Pd H' ts es:=by
 induction h with
 | nil=>exact .nil
 | cons h1 _ ih=>exact .cons (k _ _ h1) ih
theorem Pd.length{H:Hp}{ts:List Addr}{es:List End}(h:Pd H ts es):ts.length=es.length:=by
 induction h with
 | nil=>rfl
 | cons _ _ ih=>rw [Ao,Ao,ih]
theorem Pd.at{H:Hp}{ts:List Addr}{es:List End}(h:Pd H ts es):∀{i:Nat} {e:End},es[i]?=some e->∃ t,ts[i]?=some t/\H t=some (Tp e):=by
 induction h with
 | nil=>intro i e h;simp at h
 | cons h1 _ ih=>
  intro i e h;cases i with
  | zero=>simp at h;subst h;exact⟨_,rfl,h1⟩
  | succ i=>simp only [Fb] at h ⊢;exact ih h
def b9(done:List<|Str×End)(z:Str):List End:=(done.filter λx=>decide (x.1=z)).map (·.2)
theorem di(done:List<|Str×End)(y z:Str)(e:End):b9 (done++[(y,e)]) z=b9 done z++(if y=z then [e] else []):=by
 unfold b9;rw [QM,Am]
 congr 1
 by_cases h:y=z
 ·rw [BR h];simp [h]
 ·rw [BK h];simp [h]
structure aU(H0 H:Hp)(d:Addr)(done:List<|Str×End)(kvs:List<|Key×V)(ks:List Str)(A:Str->Option (Addr×List Addr)):Prop where
 same:aj H0 H
 free:H0 d=none
 dict:H d=some (.dK kvs)
 keys:kvs.map (·.1)=ks.map Sum.inr
 nodup:ks.Nodup
 mem:∀ z,z∈ks↔(A z).isSome=true
 val:∀ z,aB kvs (Sum.inr z)=(A z).map λa=> .ref a.1
 at':∀ z a ts,A z=some (a,ts)->H0 a=none/\a≠d/\H a=some (.lst<|ts.map V.ref)/\Pd H ts (b9 done z)
 inj:∀ z y a ts us,A z=some (a,ts)->A y=some (a,us)->z=y
 gn:∀ z,A z=none->b9 done z=[]
 some':∀ z a ts,A z=some (a,ts)->b9 done z≠[]
theorem aU.start{H:Hp}{d:Addr}(h:H d=none):aU H (upd H d<|.dK []) d [] [] [] (λ_=>none) where
 same:=λb u q=>by rw [aq<|bC q h];exact q
 free:=h
 dict:=aw
 keys:=rfl
 nodup:=Cd
 mem:=λz=>by simp
 val:=λz=>rfl
 at':=λz a ts h=>by cases h
 inj:=λz y a ts us h=>by cases h
 gn:=λz _=>rfl
 some':=λz a ts h=>by cases h
theorem tN{H:Hp}{t a:Addr}{e:End}{xs:List V}(h:H t=some (Tp e))(g:H a=some (.lst xs)):t≠a:=bN h g λz=>nomatch z
theorem aU.old{H0 H:Hp}{d:Addr}{done:List (Str×End)}{kvs:List (Key×V)}{ks:List Str}{A:Str->Option (Addr×List Addr)}(S:aU H0 H d done kvs ks A){z:Str}{e:End}{a l0 t:Addr}{ts:List Addr}
  (hA:A z=some (a,ts)) (hl:H l0=none) (ht:(upd H l0<|.lst []) t=none) :
  aU H0 (upd (upd (upd H l0<|.lst []) t<|Tp e) a<|.lst<|ts.map V.ref++[.ref t]) d (done++[(z,e)]) kvs ks (λy=>if y=z then some (a,ts++[t]) else A y):=by
 obtain⟨q1,q2,q3,q4⟩:=S.at' z a ts hA;have wV:H t=none:=by
  by_cases c:t=l0
  ·rw [c,aw] at ht;cases ht
  ·rwa [aq c] at ht
 have wW:l0≠a:=(bC q3 hl).symm;have wX:t≠a:=(bC q3 wV).symm;have fJ:a≠t:=wX.symm;have keep:∀ b u,b≠a->H b=some u->(upd (upd (upd H l0<|.lst []) t<|Tp e) a<|.lst<|ts.map V.ref++[.ref t]) b=some u:=λb u h1 h2=>by
  rw [aq h1,aq<|bC h2 wV,aq<|bC h2 hl];exact h2
 have kt:∀ b f,H b=some (Tp f)->(upd (upd (upd H l0<|.lst []) t<|Tp e) a<|.lst<|ts.map V.ref++[.ref t]) b=some (Tp f):=λb f h=>keep b _ (tN h q3) h;have et:(upd (upd (upd H l0<|.lst []) t<|Tp e) a<|.lst<|ts.map V.ref++[.ref t]) t=some (Tp e):=by rw [aq wX,aw]
 refine⟨λb u h=>?_,S.free,keep d _ (CJ q2) S.dict,S.keys,S.nodup,λy=>?_,λy=>?_,λy a' iC h=>?_,λy y' a' iC us h1 h2=>?_,λy h=>?_,λy a' iC h=>?_⟩
 ·exact keep b u (bC h q1)<|S.same _ _ h
 ·rw [S.mem y]
  by_cases c:y=z
  ·rw [BR c,c,hA];simp
  ·rw [BK c]
 ·rw [S.val y]
  by_cases c:y=z
  ·rw [BR c,c,hA];rfl
  ·rw [BK c]
 ·by_cases c:y=z
  ·rw [BR c] at h;cases h;refine⟨q1,q2,by rw [aw,Am];rfl,?_⟩;rw [di,c,BR rfl];exact(q4.keep kt).append<|.cons et .nil
  ·rw [BK c] at h;obtain⟨r1,r2,r3,r4⟩:=S.at' y a' iC h;have aX:a'≠a:=λe2=>c<|S.inj y z a iC ts (e2 ▸ h) hA;refine⟨r1,r2,keep _ _ aX r3,?_⟩;rw [di,BK λh=>c h.symm,Bj];exact r4.keep kt
 ·by_cases c:y=z <;> by_cases c':y'=z
  ·rw [c,c']
  ·rw [BR c] at h1;rw [BK c'] at h2;cases h1;exact absurd (S.inj y' z a us ts h2 hA) c'
  ·rw [BK c] at h1;rw [BR c'] at h2;cases h2;exact absurd (S.inj y z a iC ts h1 hA) c
  ·rw [BK c] at h1;rw [BK c'] at h2;exact S.inj y y' a' iC us h1 h2
 ·by_cases c:y=z
  ·rw [BR c] at h;cases h
  ·rw [BK c] at h;rw [di,BK λh=>c h.symm,Bj];exact S.gn y h
 ·by_cases c:y=z
  ·rw [di,BR c.symm];simp
  ·rw [BK c] at h;rw [di,BK λh=>c h.symm,Bj];exact S.some' y a' iC h
theorem aU.new{H0 H:Hp}{d:Addr}{done:List (Str×End)}{kvs:List (Key×V)}{ks:List Str}{A:Str->Option (Addr×List Addr)}(S:aU H0 H d done kvs ks A){z:Str}{e:End}{l0 t:Addr}
  (hA:A z=none) (hl:H l0=none) (ht:(upd (upd H l0<|.lst []) d<|.dK<|putK kvs (Sum.inr z)<|.ref l0) t=none) :
  aU H0 (upd (upd (upd (upd H l0<|.lst []) d<|.dK<|putK kvs (Sum.inr z)<|.ref l0) t<|Tp e) l0<|.lst [.ref t]) d (done++[(z,e)]) (putK kvs (Sum.inr z)<|.ref l0) (ks++[z]) (λy=>if y=z then some (l0,[t]) else A y):=by
 have iy:d≠l0:=bC S.dict hl;have B8:t≠d:=λc=>by rw [c,aw] at ht;cases ht
 have mS:t≠l0:=λc=>by rw [aq B8,c,aw] at ht;cases ht
 have wV:H t=none:=by rwa [aq B8,aq mS] at ht
 have vn:aB kvs (Sum.inr z)=none:=by rw [S.val z,hA];rfl
 have keep:∀ b u,b≠d->H b=some u->(upd (upd (upd (upd H l0<|.lst []) d<|.dK<|putK kvs (Sum.inr z)<|.ref l0) t<|Tp e) l0<|.lst [.ref t]) b=some u:=λb u h1 h2=>by
  rw [aq<|bC h2 hl,aq<|bC h2 wV,aq h1,aq<|bC h2 hl];exact h2
 have kt:∀ b f,H b=some (Tp f)->(upd (upd (upd (upd H l0<|.lst []) d<|.dK<|putK kvs (Sum.inr z)<|.ref l0) t<|Tp e) l0<|.lst [.ref t]) b=some (Tp f):=λb f h=>keep b _ (bN h S.dict λz=>nomatch z) h;have WW:H0 l0=none:=S.same.free hl;have zk:z∉ks:=λh=>by
  have:=(S.mem z).mp h;rw [hA] at this;cases this
 refine⟨λb u h=>?_,S.free,?_,?_,?_,λy=>?_,λy=>?_,λy a' iC h=>?_,λy y' a' iC us h1 h2=>?_,λy h=>?_,λy a' iC h=>?_⟩
 ·exact keep b u (bC h S.free)<|S.same _ _ h
 ·rw [aq iy,aq B8.symm,aw]
 ·rw [K4 _ vn,Am,S.keys,Am];rfl
 ·rw [Cc];exact⟨S.nodup,by simp,λx hx y hy e=>by rw [Ag] at hy;subst hy e;exact zk hx⟩
 ·rw [An,Ag,S.mem y]
  by_cases c:y=z
  ·rw [BR c];simp [c]
  ·rw [BK c];simp [c]
 ·rw [d8]
  by_cases c:y=z
  ·rw [BR (by rw [c]),BR c];rfl
  ·rw [BK λh=>c<|Sum.inr.inj h,BK c,S.val y]
 ·by_cases c:y=z
  ·rw [BR c] at h;cases h;refine⟨WW,iy.symm,by rw [aw];rfl,?_⟩;rw [di,c,BR rfl,S.gn z hA];exact .cons (by rw [aq mS,aw]) .nil
  ·rw [BK c] at h;obtain⟨r1,r2,r3,r4⟩:=S.at' y a' iC h;refine⟨r1,r2,keep _ _ r2 r3,?_⟩;rw [di,BK λh=>c h.symm,Bj];exact r4.keep kt
 ·by_cases c:y=z <;> by_cases c':y'=z
  ·rw [c,c']
  ·rw [BR c] at h1;rw [BK c'] at h2;cases h1;exact absurd hl<|by rw [(S.at' y' l0 us h2).2.2.1];exact λh=>nomatch h
  ·rw [BK c] at h1;rw [BR c'] at h2;cases h2;exact absurd hl<|by rw [(S.at' y l0 iC h1).2.2.1];exact λh=>nomatch h
  ·rw [BK c] at h1;rw [BK c'] at h2;exact S.inj y y' a' iC us h1 h2
 ·by_cases c:y=z
  ·rw [BR c] at h;cases h
  ·rw [BK c] at h;rw [di,BK λh=>c h.symm,Bj];exact S.gn y h
 ·by_cases c:y=z
  ·rw [di,BR c.symm];simp
  ·rw [BK c] at h;rw [di,BK λh=>c h.symm,Bj];exact S.some' y a' iC h
theorem B9:∀(n m:Net) (k:Nat),fI k (n++m)=fI k n++fI (k+n.length) m
 | [],m,k=>rfl
 | a :: n,m,k=>by
  show bL k a.2 0++fI (k+1) (n++m)=(bL k a.2 0++fI (k+1) n)++fI (k+(n.length+1)) m;rw [B9 n m<|k+1,Ba,show k+1+n.length=k+(n.length+1) by omega]
theorem tO{n:Net}{r:Nat}(h:r < n.length):bw (n.take<|r+1)=bw (n.take r)++bL r (row n r) 0:=by
 unfold bw;rw [By,Ab h,B9];have e:(n.take r).length=r:=by rw [Be];omega
 rw [e,Ge];have er:row n r=n[r].2:=by unfold row;rw [Ab h];rfl
 rw [er];show _++(bL r n[r].2 0++[])=_;rw [Bj]
theorem tP{r:Nat}{ts:List Str}{p:Nat}{z:Str}(h:ts[p]?=some z):bL r (ts.take<|p+1) 0=bL r (ts.take p) 0++[(z,(r,p))]:=by
 unfold bL;have hp:=(Ac.mp h).1;rw [By,h,List.zipIdx_append,Am];have e:(ts.take p).length=p:=by rw [Be];omega
 rw [e,Ge];rfl
structure bQ(H:Hp)(d:Addr)(n:Net)(ks:List Str):Prop where
 dict:∃ kvs,H d=some (.dK kvs)/\kvs.map (·.1)=ks.map Sum.inr/\∀ z∈af n,∃ a ts,aB kvs (Sum.inr z)=some (.ref a)/\H a=some (.lst<|ts.map V.ref)/\Pd H ts (pos n z)
 nodup:ks.Nodup
 mem:∀ z,z∈ks↔z∈af n
theorem bQ.same{H H':Hp}{d:Addr}{n:Net}{ks:List Str}(S:bQ H d n ks)(s:aj H H'):bQ H' d n ks:=by
 obtain⟨kvs,h1,h2,h3⟩:=S.dict;refine⟨⟨kvs,s _ _ h1,h2,λz hz=>?_⟩,S.nodup,S.mem⟩;obtain⟨a,ts,q1,q2,q3⟩:=h3 z hz;exact⟨a,ts,q1,s _ _ q2,q3.keep λt e h=>s _ _ h⟩
theorem WX{n:Net}{z:Str}:z∈af n↔pos n z≠[]:=by
 rw [<- Ga,<- tM,Ck]
theorem aU.whole{H0 H:Hp}{d:Addr}{n:Net}{kvs:List (Key×V)}{ks:List Str}{A:Str->Option (Addr×List Addr)}(S:aU H0 H d (bw n) kvs ks A):bQ H d n ks:=by
 have mem:∀ z,z∈ks↔z∈af n:=λz=>by
  rw [S.mem z,WX];cases h:A z with
  | none=>simp;exact S.gn z h
  | some p=>
   obtain⟨a,ts⟩:=p;simp;exact S.some' z a ts h
 refine⟨⟨kvs,S.dict,S.keys,λz hz=>?_⟩,S.nodup,mem⟩;have:=(S.mem z).mp<|(mem z).mpr hz;cases h:A z with
 | none=>rw [h] at this;cases this
 | some p=>
  obtain⟨a,ts⟩:=p;obtain⟨q1,q2,q3,q4⟩:=S.at' z a ts h;exact⟨a,ts,by rw [S.val z,h];rfl,q3,q4⟩
theorem all2(e:Nat->Bool):(List.range 2).all e=(e 0 && e 1):=by
 show(([0,1]:List Nat).all e)=_;simp
theorem MZ(x y:End):(cH (.int x.1) (.int y.1) && cH (.int x.2) (.int y.2))=decide (x=y):=by
 obtain⟨a,b⟩:=x;obtain⟨c,d⟩:=y
 by_cases h:a=c <;> by_cases h2:b=d
 ·subst h h2;simp [cH]
 ·have:¬(b:Int)=(d:Int):=λe=>h2 (by omega);simp [cH,h2,this]
 ·have:¬(a:Int)=(c:Int):=λe=>h (by omega);simp [cH,h,this]
 ·have:¬(a:Int)=(c:Int):=λe=>h (by omega);simp [cH,h,this]
section
variable{X:Cx}{H:Hp}{s t:Addr}{x y:End}
theorem M0:∀(j:Nat) (u v:V),[V.int x.1,.int x.2][j]?=some u->[V.int y.1,.int y.2][j]?=some v->iA X H 0 u v (if j=0 then cH (.int x.1) (.int y.1) else cH (.int x.2) (.int y.2))
 | 0,u,v,h1,h2=>by
  cases h1;cases h2;exact oR rfl rfl
 | 1,u,v,h1,h2=>by
  cases h1;cases h2;exact oR rfl rfl
 | j+2,u,v,h1,h2=>by simp at h1
theorem WY(hs:H s=some (Tp x))(ht:H t=some (Tp y)):jo X H 1 (.ref s) (.ref t) (decide (x=y)):=by
 have:=B5 (X:=X) (k:=0) (λj=>if j=0 then cH (.int x.1) (.int y.1) else cH (.int x.2) (.int y.2)) (aK.of hs) (aK.of ht) rfl M0;rw [show([V.int (x.1:Int),.int x.2].length)=2 from rfl,all2] at this;have e:=MZ x y;simp only [DP] at this;rw [BK (by decide),e] at this;exact this
theorem WZ(hs:H s=some (Tp x))(ht:H t=some (Tp y)):lG X H 1 (.ref s) (.ref t) (decide (x=y)):=by
 have:=MO (X:=X) (k:=0) (λj=>if j=0 then cH (.int x.1) (.int y.1) else cH (.int x.2) (.int y.2)) (aK.of hs) (aK.of ht) rfl M0;rw [show([V.int (x.1:Int),.int x.2].length)=2 from rfl,all2] at this;have e:=MZ x y;simp only [DP] at this;rw [BK (by decide),e] at this;exact this
end
abbrev lets:Str:= "abcdefghijklmnopqrstuvwxyz0123456789"
theorem B':lets.cps.toList.length=36:=by decide +kernel
theorem W0:lets.cps.toList.Nodup:=by decide +kernel
def sgn(i:Int):Nat:=(dI lets.cps.toList<|i % 36).getD 0
theorem wY(i:Int):dI lets.cps.toList (i % 36)=some (sgn i):=by
 have h0:0<=i % 36:=Bi _ (by decide);have h1:i % 36 < 36:=Bo _ (by decide);have hj:(i % 36).toNat < lets.cps.toList.length:=by rw [B'];omega
 have q:=nW (xs:=lets.cps.toList) (j:=(i % 36).toNat) (v:=lets.cps.toList[(i % 36).toNat]) (by simp [hj]);rw [show(((i % 36).toNat:Nat):Int)=i % 36 by omega] at q;unfold sgn;rw [q];rfl
theorem M1{i j:Int}(h:sgn i=sgn j):i % 36=j % 36:=by
 have key:∀ k:Int,lets.cps.toList[(k % 36).toNat]?=some (sgn k):=λk=>by
  have h0:0<=k % 36:=Bi _ (by decide);have h1:k % 36 < 36:=Bo _ (by decide);have hj:(k % 36).toNat < lets.cps.toList.length:=by rw [B'];omega
  have q:=nW (xs:=lets.cps.toList) (j:=(k % 36).toNat) (v:=lets.cps.toList[(k % 36).toNat]) (by simp [hj]);rw [show(((k % 36).toNat:Nat):Int)=k % 36 by omega,wY] at q;rw [Ab hj,Option.some.inj q]
 have hi:=key i;have hj:=key j;rw [h] at hi;obtain⟨l1,e1⟩:=Ac.mp hi;obtain⟨l2,e2⟩:=Ac.mp hj;have:=(Fo (xs:=lets.cps.toList) (h₀:=l1) (h₁:=l2) W0).mp<|e1.trans e2.symm;have a0:0<=i % 36:=Bi _ (by decide);have b0:0<=j % 36:=Bi _ (by decide);omega
def turn(b:Int)(sp:Int)(v k:Nat):Int:=b / 64+(k:Int) * (b / 7 % 5)+(if(k:Int)=sp then(v:Int) else 0)
def nm(b sp:Int)(v:Nat):Nat->Str
 | 0=>⟨#[]⟩
 | k+1=>nm b sp v k++⟨#[sgn<|turn b sp v k]⟩
theorem app_list(x y:Str):(x++y).cps.toList=x.cps.toList++y.cps.toList:=by
 show(x.cps++y.cps).toList=_;simp
theorem qM(b sp:Int)(v:Nat):∀ k,(nm b sp v k).cps.toList=(List.range k).map λj=>sgn<|turn b sp v j
 | 0=>rfl
 | k+1=>by
  show(nm b sp v k++⟨#[sgn<|turn b sp v k]⟩).cps.toList=_;rw [app_list,qM b sp v k,Fy,Am];rfl
theorem W1{b sp:Int}{u v k:Nat}(hu:u < 36)(hv:v < 36)(h0:0<=sp)(h1:sp < (k:Int))(h:nm b sp u k=nm b sp v k):u=v:=by
 have e:(nm b sp u k).cps.toList=(nm b sp v k).cps.toList:=by rw [h]
 rw [qM,qM] at e;have hk:sp.toNat < k:=by omega
 have q:((List.range k).map λj=>sgn<|turn b sp u j)[sp.toNat]?=((List.range k).map λj=>sgn<|turn b sp v j)[sp.toNat]?:=by rw [e]
 rw [Af,Af,Ee hk] at q;have q2:sgn (turn b sp u sp.toNat)=sgn (turn b sp v sp.toNat):=Option.some.inj q;have q3:=M1 q2;unfold turn at q3;rw [show((sp.toNat:Nat):Int)=sp by omega,BR rfl,BR rfl] at q3;omega
theorem fold_list(c:Nat):∀(k:Nat) (acc:Array Nat),((List.replicate k (#[c]:Array Nat)).foldl (·++·) acc).toList=acc.toList++List.replicate k c
 | 0,acc=>by simp
 | k+1,acc=>by
  rw [List.replicate_succ,Db,fold_list c k,List.replicate_succ];simp
theorem mul_list(c:Nat){i:Int}(h:1<=i):(Txt.mul ⟨#[c]⟩ i).cps.toList=List.replicate i.toNat c:=by
 unfold Txt.mul;rw [BK<|by omega]
 by_cases e:i=1
 ·subst e;rfl
 ·have e1:(i == 1 || (⟨#[c]⟩:Str).length == 0)=false:=by
   have:(i == 1)=false:=by simpa using e
   rw [this];rfl
  rw [e1];simp only [Ax,CQ];have:=fold_list c i.toNat #[]
  simpa using this
def az(b:Int)(v:Nat):Str:=if b % 3=2 then Txt.mul ⟨#[sgn<|b / 64+(v:Int) / 8]⟩ (1+(v:Int) % 8) else nm b (b / 8 % (1+b % 8)) v (1+b % 8).toNat
theorem W2{b:Int}{u v:Nat}(hu:u < 36)(hv:v < 36)(h:az b u=az b v):u=v:=by
 have s0:0<=b % 8:=Bi _ (by decide);unfold az at h
 by_cases c:b % 3=2
 ·rw [BR c,BR c] at h;have u0:0<=(u:Int) % 8:=Bi _ (by decide);have v0:0<=(v:Int) % 8:=Bi _ (by decide);have e:(Txt.mul ⟨#[sgn<|b / 64+(u:Int) / 8]⟩<|1+(u:Int) % 8).cps.toList=(Txt.mul ⟨#[sgn<|b / 64+(v:Int) / 8]⟩<|1+(v:Int) % 8).cps.toList:=by rw [h]
  rw [mul_list _ (by omega),mul_list _<|by omega] at e;have l:=CG List.length e;rw [Di,Di] at l;have hd:(List.replicate (1+(u:Int) % 8).toNat<|sgn<|b / 64+(u:Int) / 8)[0]?=(List.replicate (1+(v:Int) % 8).toNat<|sgn<|b / 64+(v:Int) / 8)[0]?:=by rw [e]
  rw [Ez,Ez,BR (by omega),BR<|by omega] at hd;have q:=M1<|Option.some.inj hd;omega
 ·rw [BK c,BK c] at h;refine W1 hu hv (Bi _<|by omega) ?_ h;have:=Bo (b / 8) (show 0 < 1+b % 8 by omega);omega
def namesOf(b:Int)(m:Nat):List Str:=(List.range m).map<|az b
theorem qO{b:Int}{m:Nat}(h:m<=36):(namesOf b m).Nodup:=by
 unfold namesOf;refine JQ _ (R:=λi j=>i < j/\j < m) ?_ ?_
 ·rintro i j ⟨h1,h2⟩ e;have:=W2 (by omega) (by omega) e;omega
 ·rw [Bm];intro i j hi hj gY;simp only [QL];simp at hj;exact⟨gY,hj⟩
theorem wZ(b:Int)(m:Nat):namesOf b (m+1)=namesOf b m++[az b m]:=by
 unfold namesOf;rw [Fy,Am];rfl
theorem oW(b:Int)(m:Nat):(namesOf b m).length=m:=by unfold namesOf;simp
theorem W3{b:Int}{m i:Nat}(h:i < m):(namesOf b m)[i]?=some (az b i):=by
 unfold namesOf;rw [Af,Ee h];rfl
end Nt
namespace B4
open PySem L2 Nt
def top(i:Nat):Stmt:=PySem.Challenge.pw_threewebs_k04_rows_vetted.main.body.getD i<|.Pass ⟨0,0,0,0⟩
abbrev w5:Stmt:=top 8
abbrev w6:Stmt:=top 9
abbrev CA:Stmt:=top 10
abbrev CB:Stmt:=top 11
abbrev w8:Stmt:=top 12
abbrev CD:Stmt:=top 14
abbrev CF:Stmt:=top 15
abbrev w9:Stmt:=top 19
abbrev CH:Stmt:=top 21
abbrev mU:Stmt:=top 22
abbrev tQ:Stmt:=top 23
abbrev xa:Stmt:=top 24
abbrev CI:Stmt:=top 25
abbrev xc:Stmt:=top 26
abbrev xf:Stmt:=top 27
abbrev CL:Stmt:=top 28
abbrev CM:Stmt:=top 29
abbrev CO:Stmt:=top 31
abbrev oX:Stmt:=top 32
abbrev CU:Stmt:=top 33
abbrev CY:Stmt:=top 34
abbrev C0:Stmt:=top 35
abbrev C1:Stmt:=top 36
abbrev C2:Stmt:=top 37
abbrev oY:Stmt:=top 38
abbrev oZ:Stmt:=top 39
abbrev xg:Stmt:=top 40
abbrev xh:Stmt:=top 41
abbrev C3:Stmt:=top 42
abbrev C4:Stmt:=top 43
abbrev o6:Stmt:=top 44
structure Txt(mg:Str->Option Value):Prop where
 qP:mg "isinstance" = none
 C5:mg "tuple" = none
 C6:mg "str" = none
 tR:mg "int" = none
 M3:mg "bool" = none
 tS:mg "list" = none
 tT:mg "dict" = none
 tU:mg "set" = none
 enum:mg "enumerate" = none
 zip:mg "zip" = none
 len:mg "len" = none
 range:mg "range" = none
 sorted:mg "sorted" = none
 max:mg "max" = none
 all:mg "all" = none
 C7:mg "ValueError" = none
 signs:∃ u,mg "SIGNS" = some u/\RelV (.str lets) u
 most:∃ u,mg "LONGEST" = some u/\RelV (.int 8) u
open bK
theorem small{n:Nat}(h:n<=100000):n<=sizeLine:=by rw [EY];omega
theorem cb{n:Nat}(h:n<=100000):n < sizeLine:=by rw [EY];omega
theorem aJ{H:Hp}{p:Addr}(h:H p=none)(o:HO):aj H (upd H p o):=λb u q=>by rw [aq<|bC q h];exact q
theorem dN{H1 H2:Hp}{r:Addr}{o:HO}(s:aj H1 H2)(h:H1 r=none):aj H1 (upd H2 r o):=λb u q=>by
 rw [aq<|bC q h];exact s _ _ q
theorem xi{H:Hp}{l:Addr}{zs:List Str}{y:Str}:upd H l (.lst<|zs.map V.str++[V.str y])=upd H l (Ls<|zs++[y]):=by
 show _=upd H l (.lst<|(zs++[y]).map V.str);rw [Am];rfl
def xj(K:PySem.W.Frag):Sp:=λvs H Q _=>∃(a:Addr) (ns:List Int) (k:Int),vs=[.ref a,.int k]/\al K H a (ns.map V.int)/\0<=k/\∀ i,Q (.int i) H
def C8(K:PySem.W.Frag):Sp:=λvs H Q _=>∃(a:Addr) (ns:List Int) (k:Int),vs=[.ref a,.int k]/\al K H a (ns.map V.int)/\0<=k/\∀ i H',aj H H'->Q (.int i) H'
def xk:Sp:=λvs H Q _=>∃(b m:Int),vs=[.int b,.int m]/\0<=m/\m<=36/\∀ l H',aj H H'->H l=none->H' l=some (Ls<|namesOf b m.toNat)->Q (.ref l) H'
def C9:Sp:=λvs H Q _=>∃(R:Addr) (as:List<|Addr×Addr) (n:Net),vs=[.ref R]/\ah H R as n/\n.length<=1000/\(af n).length<=1000/\∀ d ks H',aj H H'->H d=none->bQ H' d n ks->Q (.ref d) H'
def Dt:Sp:=λvs H Q _=>∃(R d t:Addr) (as:List<|Addr×Addr) (n:Net) (ks:List Str) (e:Nt.End),vs=[.ref R,.ref d,.ref t]/\ah H R as n/\bQ H d n ks/\aC n/\H t=some (Tp e)/\e∈ends n/\∀ u,H u=some (Tp<|other n e)->Q (.ref u) H
def DC:Sp:=λvs H Q _=>∃(R d t:Addr) (as:List<|Addr×Addr) (n:Net) (ks:List Str) (e:Nt.End),vs=[.ref R,.ref d,.ref t,.int 1]/\ah H R as n/\bQ H d n ks/\aC n/\H t=some (Tp e)/\e∈ends n/\∀ u H',aj H H'->H u=none->H' u=some (Tp<|step n e)->Q (.ref u) H'
def DE:Sp:=λvs H Q _=>∃(R d t:Addr) (as:List<|Addr×Addr) (n:Net) (ks:List Str) (e:Nt.End),vs=[.ref R,.ref d,.ref t]/\ah H R as n/\bQ H d n ks/\aC n/\H t=some (Tp e)/\e∈ends n/\(ends n).length<=1000 /\
 ∀ l ts fs H',aj H H'->H l=none->H' l=some (.lst<|ts.map V.ref)->Pd H' ts fs->df n e fs->Q (.ref l) H'
section
variable{P:Program}{w:World}{K:PySem.W.Frag}{mg:Str->Option Value}{base:Heap}
theorem W4:ao ["_law_script","_law_k"] ["_law_script","_law_k"] (aW CO):=⟨rfl,rfl,rfl,by decide +kernel,rfl,by decide +kernel,by decide +kernel⟩
theorem W5{ns:List Int}{k:Int}(h0:0<=k)(h1:k < (ns.length:Int)):∃ v:Int,dI (ns.map V.int) k=some (.int v):=by
 have hj:k.toNat < ns.length:=by omega
 have q:=nW (xs:=ns.map V.int) (j:=k.toNat) (v:= .int ns[k.toNat]) (by simp [hj]);rw [show((k.toNat:Nat):Int)=k by omega] at q;exact⟨_,q⟩
theorem W6{f:Addr}{fd:FuncData}(F:bM K "_law_cell_at" "_law_cell_at" CO f fd)(T:Txt mg):aD P w K mg base bP 1 f fd ["_law_script","_law_k"] (xj K):=by
 refine F.gb W4 (λvs H Q E h=>?_) λb0 H vs Q E hr h=>?_
 ·obtain⟨a,ns,k,rfl,_⟩:=h;rfl
 obtain⟨a,ns,k,rfl,hS,h0,q⟩:=h;show Run _ _ _ [some<|.ref a,some<|.int k] H;refine d9<|bX zq<|ae 1<|bJ cZ T.len CZ<|ai<|ae 0<|au ⟨a,_,rfl,.inl hS,_,_,rfl,rfl,_,rfl,?_⟩;refine iS (λc=>?_) λc=>?_
 ·have c':=BZ c;obtain⟨v,hv⟩:=W5 (ns:=ns) h0 (by rw [Aa] at c';exact c');exact bY<|aS cf<|ae 0<|ae 1 ⟨a,_,_,.int v,rfl,rfl,hS,hv,q v⟩
 ·exact aH<|bY<|ay<|q 0
abbrev o7:List V:=[.int 48271,.int 69621,.int 16807,.int 39373,.int 21401,.int 60493,.int 87721,.int 31337]
abbrev gq:List V:=[.int 99991,.int 99989,.int 99971,.int 99961,.int 99929,.int 99923,.int 99907,.int 99901]
theorem eight{i:Int}(h0:0<=i)(h1:i < 8):i=0\/i=1\/i=2\/i=3\/i=4\/i=5\/i=6\/i=7:=by
 obtain⟨k,rfl⟩:=Int.eq_ofNat_of_zero_le h0;exact(by decide:∀ k:Fin 8,(k.1:Int)=0\/(k.1:Int)=1\/(k.1:Int)=2\/(k.1:Int)=3\/(k.1:Int)=4\/(k.1:Int)=5\/(k.1:Int)=6\/(k.1:Int)=7) ⟨k,Int.ofNat_lt.mp h1⟩
theorem W7{i:Int}(h0:0<=i)(h1:i < 8):∃ m:Int,dI o7 i=some (.int m)/\0 < m/\m < 100000:=by
 rcases eight h0 h1 with rfl | rfl | rfl | rfl | rfl | rfl | rfl | rfl <;> exact⟨_,rfl,by decide,by decide⟩
theorem W8{i:Int}(h0:0<=i)(h1:i < 8):∃ m:Int,dI gq i=some (.int m)/\0 < m/\m < 100000:=by
 rcases eight h0 h1 with rfl | rfl | rfl | rfl | rfl | rfl | rfl | rfl <;> exact⟨_,rfl,by decide,by decide⟩
theorem mV:ao ["_law_script","_law_at","_law_by","_law_prime","_law_cell","_law_big_here","_law_k","_law_one"] ["_law_script","_law_at"] (aW oX):=⟨rfl,rfl,rfl,by decide +kernel,rfl,by decide +kernel,by decide +kernel⟩
theorem W9{f:Addr}{fd:FuncData}(F:bM K "_law_big" "_law_big" oX f fd)(T:Txt mg)(G:aV P w K mg base 1 "_law_cell_at" ["_law_script","_law_k"]<|xj K) :
  aD P w K mg base bP 2 f fd ["_law_script","_law_at"] (C8 K):=by
 refine F.gb mV (λvs H Q E h=>?_) λb0 H vs Q E hr h=>?_
 ·obtain⟨a,ns,k,rfl,_⟩:=h;rfl
 obtain⟨a,ns,k,rfl,hS,h0,q⟩:=h;have nd:=mV.nd;show Run _ _ _ [some<|.ref a,some<|.int k,none,none,none,none,none,none] H;refine aN 2 nd<|cM<|ai<|ay<|ai<|ay<|ai<|ay<|ai<|ay<|ai<|ay<|ai<|ay<|ai<|ay<|ai<|ay<|au ⟨Z8,λp hp=>?_⟩;refine aN 3 nd<|cM<|ai<|ay<|ai<|ay<|ai<|ay<|ai<|ay<|ai<|ay<|ai<|ay<|ai<|ay<|ai<|ay<|au ⟨Z8,λp2 kY=>?_⟩;have Xa:p≠p2:=by
  intro e;rw [<- e,aw] at kY;cases kY
 have s1:aj H (upd H p<|.tup o7):=aJ hp _;have s2:aj H (upd (upd H p<|.tup o7) p2<|.tup gq):=s1.trans<|aJ kY _;have e1:(upd (upd H p<|.tup o7) p2<|.tup gq) p=some (.tup o7):=by rw [aq Xa,aw]
 have e2:(upd (upd H p<|.tup o7) p2<|.tup gq) p2=some (.tup gq):=aw;generalize upd (upd H p<|.tup o7) p2 (.tup gq)=H2 at s2 e1 e2 ⊢;refine aN 4 nd<|bZ G hr<|ai<|ae 0<|ai<|ae 1<|au ⟨a,ns,k,rfl,s2.seq hS,h0,λb=>?_⟩;show Run _ _ _ [some<|.ref a,some<|.int k,some<|.ref p,some<|.ref p2,some<|.int b,none,none,none] H2;refine Lv True True (λR qq=>?_) (λ_=>?_) λ_=>aH ?_
 ·refine iU (oz<|bX dA<|aI cr<|ae 4<|ay ⟨_,_,rfl,rfl,(by show(0:Int) < 2;decide),ay ⟨rfl,_,rfl,?_⟩⟩);refine iS (λc=>?_) (λc=>qq false (λz=>nomatch z) λ_=>trivial);exact oB<|bX Kk<|ae 4<|aI Kg<|ay<|ay ⟨_,_,rfl,rfl,⟨by decide,by decide,by decide⟩,_,_,rfl,rfl,_,rfl,qq _ (λ_=>trivial) λ_=>trivial⟩
 ·exact bY<|aI dz<|ae 4<|ay ⟨_,_,rfl,rfl,⟨by decide,by decide⟩,q _ _ s2⟩
 refine aN 5 nd<|ay ?_;refine k4 T.range<|ay ⟨60,rfl,by decide,by decide,k8 (n:=60) (λ_ σ H3=>H3=H2/\∃(x:Int) (u v:Option V),σ=[some<|.ref a,some<|.int k,some<|.ref p,some<|.ref p2,some<|.int b,some<|.int x,u,v]) ⟨rfl,0,_,_,rfl⟩ ?_ ?_⟩
 ·rintro i σ H3 hi ⟨rfl,x,u,v,rfl⟩;have i9:0<=(0+(i:Int)) % 9:=Bi _ (by decide);obtain⟨m1,f1,g1,g2⟩:=W7 (i:=(0+(i:Int)) % 8) (Bi _<|by decide) (Bo _<|by decide);obtain⟨m2,f2,g3,g4⟩:=W8 (i:=(0+(i:Int)) % 8) (Bi _<|by decide) (Bo _<|by decide);refine bx 6 nd ?_;refine aN 7 nd<|aI dZ<|aI dZ<|aI cr<|bZ G hr<|ai<|ae 0<|ai<|aI dZ<|ae 1<|aI cr<|ae 6<|ay ?_;refine⟨_,_,rfl,rfl,(by show(0:Int) < 9;decide),_,_,rfl,rfl,au ⟨a,ns,_,rfl,s2.seq hS,?_,λc=>?_⟩⟩
  ·show 0<=k+(0+(i:Int)) % 9;omega
  refine aI Kg (ay<|ay ⟨_,_,rfl,rfl,⟨by decide,by decide,by decide⟩,_,_,rfl,rfl,(by show(0:Int) < 10 ^ (18:Int).toNat;decide),ay ⟨_,_,rfl,rfl,?_⟩⟩);refine aI wm<|ae 6<|ae 6 ?_;refine⟨_,_,rfl,rfl,.inl ⟨by omega,by omega⟩,_,_,rfl,rfl,?_⟩;refine aN 5 nd (aI dZ<|aI wm<|ae 5<|ay ⟨_,_,rfl,rfl,.inr ⟨by decide,by decide⟩,?_⟩);refine aI cr (aI cr<|aI wm<|ae 7<|aS cC<|ae 2<|aI cr<|ae 6<|ay ⟨_,_,rfl,rfl,(by show(0:Int) < 8;decide),p,_,_,_,rfl,rfl,aK.of e1,f1,_,_,rfl,rfl,.inr ⟨by omega,by omega⟩,?_⟩);refine aS cC (ae 3<|aI cr<|ae 6<|ay ⟨_,_,rfl,rfl,(by show(0:Int) < 8;decide),p2,_,_,_,rfl,rfl,aK.of e2,f2,_,_,rfl,rfl,g3,ay ⟨_,_,rfl,rfl,(by show(0:Int) < 7919;decide),_,_,rfl,rfl,?_⟩⟩);exact aH ⟨rfl,_,_,_,rfl⟩
 ·rintro σ H3 ⟨rfl,x,u,v,rfl⟩;exact bY<|ae 5<|q x _ s2
abbrev NN:List Str:=["_law_stem","_law_many","_law_signs","_law_size","_law_spot","_law_names_here","_law_v","_law_name","_law_k","_law_turn"]
theorem iD:ao NN ["_law_stem","_law_many"] (aW CU):=⟨rfl,rfl,rfl,by decide +kernel,rfl,by decide +kernel,by decide +kernel⟩
theorem Xb{f:Addr}{fd:FuncData}(F:bM K "_law_names" "_law_names" CU f fd)(T:Txt mg):aD P w K mg base bP 1 f fd ["_law_stem","_law_many"] xk:=by
 refine F.gb iD (λvs H Q E h=>?_) λb0 H vs Q E hr h=>?_
 ·obtain⟨b,m,rfl,_⟩:=h;rfl
 obtain⟨b,m,rfl,m0,m1,q⟩:=h;have nd:=iD.nd;have s0:0<=b % 8:=Bi _ (by decide);have s1:b % 8 < 8:=Bo _ (by decide);show Run _ _ _ [some<|.int b,some<|.int m,none,none,none,none,none,none,none,none] H;refine aN 2 nd<|cN ?_;refine aN 3 nd (aI dZ<|ay<|aI cr<|ae 0<|ay ⟨_,_,rfl,rfl,(by show(0:Int) < 8;decide),_,_,rfl,rfl,?_⟩);refine aN 4 nd (aI cr<|aI dz<|ae 0<|ay ⟨_,_,rfl,rfl,⟨by decide,by decide⟩,ae 3 ⟨_,_,rfl,rfl,(by show 0 < 1+b % 8;omega),?_⟩⟩);refine aN 5 nd<|cO<|au ⟨Z0,λl hl=>?_⟩;show Run _ _ _ [some<|.int b,some<|.int m,some<|.str lets,some<|.int<|1+b % 8,some<|.int<|b / 8 % (1+b % 8),some<|.ref l,none,none,none,none] _;have spE:b / 8 % (1+b % 8)=b / 8 % (1+b % 8):=rfl;refine k4 T.range<|ae 1 ⟨m,rfl,by omega,by omega,k8 (n:=m.toNat) (λi σ H3=>H3=upd H l (Ls<|namesOf b i)/\∃ u1 u2 u3 u4,σ=[some<|.int b,some<|.int m,some<|.str lets,some<|.int<|1+b % 8,some<|.int<|b / 8 % (1+b % 8),some<|.ref l,u1,u2,u3,u4]) ⟨rfl,_,_,_,_,rfl⟩ ?_ ?_⟩
 ·rintro i σ H3 hi ⟨rfl,u1,u2,u3,u4,rfl⟩;refine bx 6 nd ?_;refine aN 7 nd<|cN ?_;refine k4 T.range<|ae 3 ⟨_,rfl,by omega,by omega,k8 (n:=(1+b % 8).toNat) (λj σ H4=>H4=upd H l (Ls<|namesOf b i)/\∃(u3 u4:Option V),σ=[some<|.int b,some<|.int m,some<|.str lets,some<|.int<|1+b % 8,some<|.int<|b / 8 % (1+b % 8),some<|.ref l,some<|.int<|0+(i:Int),some<|.str<|nm b (b / 8 % (1+b % 8)) i j,u3,u4]) ⟨rfl,_,_,rfl⟩ ?_ ?_⟩
  ·rintro j σ H4 hj ⟨rfl,v3,v4,rfl⟩;have t0:0<=b / 7 % 5:=Bi _ (by decide);have t1:b / 7 % 5 < 5:=Bo _ (by decide);have nl:(nm b (b / 8 % (1+b % 8)) i j).length=j:=by
    have:=CG List.length<|qM b (b / 8 % (1+b % 8)) i j;show(nm b (b / 8 % (1+b % 8)) i j).cps.size=j
    simpa using this
   refine bx 8 nd ?_;refine aN 9 nd (aI dZ<|aI dz<|ae 0<|ay ⟨_,_,rfl,rfl,⟨by decide,by decide⟩,aI wm<|ae 8<|aI cr<|aI dz<|ae 0<|ay ⟨_,_,rfl,rfl,⟨by decide,by decide⟩,ay ⟨_,_,rfl,rfl,(by show(0:Int) < 5;decide),?_⟩⟩⟩);refine⟨_,_,rfl,rfl,.inr ⟨by omega,by omega⟩,_,_,rfl,rfl,?_⟩;refine lF ((0+(j:Int))=b / 8 % (1+b % 8)) (¬(0+(j:Int))=b / 8 % (1+b % 8)) (λσ' H'=>H'=upd H l (Ls<|namesOf b i)/\σ'=[some<|.int b,some<|.int m,some<|.str lets,some<|.int<|1+b % 8,some<|.int<|b / 8 % (1+b % 8),some<|.ref l,some<|.int<|0+(i:Int),some<|.str<|nm b (b / 8 % (1+b % 8)) i j,some<|.int<|0+(j:Int),some<|.int<|turn b (b / 8 % (1+b % 8)) i j]) (λR qq=>?_) (λhc=>?_) (λhc=>aH ⟨rfl,?_⟩) ?_
   ·refine bX dA<|ae 8<|ae 4 ⟨rfl,_,rfl,?_⟩
    by_cases hc:(0+(j:Int))=b / 8 % (1+b % 8)
    ·rw [BW (show V.int (0+(j:Int))=V.int (b / 8 % (1+b % 8)) by rw [hc])];exact qq true (λ_=>hc) λh=>by cases h
    ·rw [BX λh=>hc<|V.int.inj h];exact qq false (λh=>by cases h) λ_=>hc
   ·refine aN 9 nd<|aI dZ<|ae 9<|ae 6 ⟨_,_,rfl,rfl,aH ⟨rfl,?_⟩⟩;have e:b / 64+(0+(j:Int)) * (b / 7 % 5)+(0+(i:Int))=turn b (b / 8 % (1+b % 8)) i j:=by
     unfold turn;rw [BR (by omega),Dw,Dw]
    rw [<- e];rfl
   ·have e:b / 64+(0+(j:Int)) * (b / 7 % 5)=turn b (b / 8 % (1+b % 8)) i j:=by
     unfold turn;rw [BK (by omega),Dw,Int.add_zero]
    rw [<- e];rfl
   ·rintro σ' H' ⟨rfl,rfl⟩;refine aN 7 nd<|aI TD<|ae 7<|aS Kx<|ae 2<|aI cr<|ae 9<|ay ⟨_,_,rfl,rfl,(by show(0:Int) < 36;decide),lets,_,sgn<|turn b (b / 8 % (1+b % 8)) i j,rfl,rfl,by decide +kernel,wY _,_,_,rfl,rfl,small (by show(nm b (b / 8 % (1+b % 8)) i j).length+1<=100000;omega),aH ⟨rfl,_,_,rfl⟩⟩
  ·rintro σ H4 ⟨rfl,v3,v4,rfl⟩;refine lF (b % 3=2) (¬ b % 3=2) (λσ' H'=>H'=upd H l (Ls<|namesOf b i)/\σ'=[some<|.int b,some<|.int m,some<|.str lets,some<|.int<|1+b % 8,some<|.int<|b / 8 % (1+b % 8),some<|.ref l,some<|.int<|0+(i:Int),some<|.str<|az b i,v3,v4]) (λR qq=>?_) (λhc=>?_) (λhc=>aH ⟨rfl,?_⟩) ?_
   ·refine bX dA<|aI cr<|ae 0<|ay ⟨_,_,rfl,rfl,(by show(0:Int) < 3;decide),ay ⟨rfl,_,rfl,?_⟩⟩
    by_cases hc:b % 3=2
    ·rw [BW (show V.int (b % 3)=V.int 2 by rw [hc])];exact qq true (λ_=>hc) λh=>by cases h
    ·rw [BX λh=>hc<|V.int.inj h];exact qq false (λh=>by cases h) λ_=>hc
   ·have e0:0<=(0+(i:Int)) % 8:=Bi _ (by decide);have e1:(0+(i:Int)) % 8 < 8:=Bo _ (by decide);refine aN 7 nd (aI Ld<|aS Kx<|ae 2<|aI cr<|aI dZ<|aI dz<|ae 0<|ay ⟨_,_,rfl,rfl,⟨by decide,by decide⟩,aI dz<|ae 6<|ay ⟨_,_,rfl,rfl,⟨by decide,by decide⟩,_,_,rfl,rfl,ay ⟨_,_,rfl,rfl,(by show(0:Int) < 36;decide),lets,_,sgn<|b / 64+(0+(i:Int)) / 8,rfl,rfl,by decide +kernel,wY _,?_⟩⟩⟩);refine aI dZ (ay<|aI cr<|ae 6<|ay ⟨_,_,rfl,rfl,(by show(0:Int) < 8;decide),_,_,rfl,rfl,?_⟩);refine⟨_,_,rfl,rfl,by omega,by omega,?_,aH ⟨rfl,?_⟩⟩
    ·show 1 * _<=_;omega
    ·have e:Txt.mul ⟨#[sgn<|b / 64+(0+(i:Int)) / 8]⟩ (1+(0+(i:Int)) % 8)=az b i:=by
      unfold az;rw [BR hc,Dw]
     rw [<- e];rfl
   ·have e:nm b (b / 8 % (1+b % 8)) i (1+b % 8).toNat=az b i:=by
     unfold az;rw [BK hc]
    rw [<- e]
   ·rintro σ' H' ⟨rfl,rfl⟩;refine eB<|jn<|ae 5 ⟨l,rfl,⟨_,aw⟩,ae 7 ⟨_,aw,?_,?_⟩⟩
    ·rw [Aa,oW];exact cb<|by omega
    ·rw [qk];refine aH ⟨?_,_,_,_,_,rfl⟩;rw [wZ];exact xi
 ·rintro σ H3 ⟨rfl,u1,u2,u3,u4,rfl⟩;exact bY<|ae 5<|q l _ (aJ hl _) hl aw
theorem Xc{H:Hp}{d:Addr}{kvs:List (Key×V)}(h:H d=some (.dK kvs)):my K "dict" (.ref d) H:=Or.inr<|Or.inr<|Or.inl ⟨rfl,Or.inl ⟨kvs,h⟩⟩
abbrev NS:List Str:=["_law_rows","_law_seats_here","_law_r","_law_place"]
theorem iE:ao NS ["_law_rows"] (aW CY):=⟨rfl,rfl,rfl,by decide +kernel,rfl,by decide +kernel,by decide +kernel⟩
theorem Xd{f:Addr}{fd:FuncData}(F:bM K "_law_seats" "_law_seats" CY f fd)(T:Txt mg):aD P w K mg base bP 1 f fd ["_law_rows"] C9:=by
 refine F.gb iE (λvs H Q E h=>?_) λb0 H vs Q E hr h=>?_
 ·obtain⟨R,as,n,rfl,_⟩:=h;rfl
 obtain⟨R,as,n,rfl,hR,hn,ht,q⟩:=h;have nd:=iE.nd;have bB:=hR.len;show Run _ _ _ [some<|.ref R,none,none,none] H;refine aN 1 nd<|B7 λd hd=>?_;refine k4 T.range (bJ cZ T.len CZ<|ai<|ae 0<|au ⟨R,_,rfl,.inl<|al.of<|aJ hd _ _ _ hR.lst,_,rfl,by omega,by rw [Aa];omega,?_⟩);rw [Aa,bB,Az];refine k8 (λr σ H3=>∃ kvs ks A u1 u2,aU H H3 d (bw<|n.take r) kvs ks A/\σ=[some<|.ref R,some<|.ref d,u1,u2]) ⟨_,_,_,_,_,aU.start hd,rfl⟩ ?_ ?_
 ·rintro r σ H3 hi ⟨kvs,ks,A',u1,u2,S,rfl⟩;rw [Dw];refine bx 2 nd ?_;obtain⟨a,ea,dP,et,el,er⟩:=(hR.same S.same).at hi;refine k4 T.range<|bJ cZ T.len CZ<|ai<|aS cC<|aS cf<|ae 0<|ae 2 ⟨R,_,_,.ref a.1,rfl,rfl,al.of<|S.same _ _ hR.lst,dP,ay ⟨a.1,_,_,.ref a.2,rfl,rfl,aK.of et,rfl,au ⟨a.2,_,rfl,.inl<|al.of el,_,rfl,by omega,?_,?_⟩⟩⟩
  ·have:(row n r).length<=1000:=by
    have h1:(row n r).length<=(af n).length:=by
     exact gZ n r
    omega
   rw [Aa];omega
  rw [Aa,Az];refine k8 (λp σ H4=>∃ kvs ks A u2,aU H H4 d (bw (n.take r)++bL r ((row n r).take p) 0) kvs ks A/\σ=[some<|.ref R,some<|.ref d,some<|.int (r:Int),u2]) ⟨kvs,ks,A',_,by simpa [bL] using S,rfl⟩ ?_ ?_
  ·rintro p σ H4 hp ⟨kvs,ks,A',u2,S,rfl⟩;rw [Dw];refine bx 3 nd ?_;obtain⟨a,ea,dP,et,el,er⟩:=(hR.same S.same).at hi;have hz:(row n r)[p]?=some (row n r)[p]:=Ab hp;generalize (row n r)[p]=z at hz;have next:bw (n.take r)++bL r ((row n r).take<|p+1) 0=(bw (n.take r)++bL r ((row n r).take p) 0)++[(z,(r,p))]:=by
    rw [tP hz,Ba]
   have hlen:kvs.length < sizeLine:=by
    have h1:ks.length<=1000:=by
     refine Cr (aF (b:=af n) S.nodup λy hy=>?_) ht;have h2:=(S.mem y).mp hy;cases hA:A' y with
     | none=>rw [hA] at h2;cases h2
     | some pr=>
      obtain⟨a2,ko⟩:=pr;have h3:=S.some' y a2 ko hA;unfold b9 at h3;obtain⟨x,hx⟩:=List.exists_mem_of_ne_nil _ h3;obtain⟨⟨y2,e2⟩,hm,_⟩:=Al.mp hx;rw [Cz,GJ] at hm;obtain⟨hm,rfl⟩:=hm;have:(y2,e2)∈bw n:=by
       rcases An.mp hm with hm | hm
       ·have q1:=aT.mp hm;refine aT.mpr ?_;have q2:=eW q1;unfold aM row at q1 ⊢;rw [Be] at q2;rwa [Dj<|by omega] at q1
       ·have q1:=bd.mp hm;refine aT.mpr ?_;unfold aM;rw [q1.1];have q3:=q1.2.2;rw [Nat.sub_zero] at q3;have q4:=(Ac.mp q3).1;rw [Be] at q4;rwa [Dj<|by omega] at q3
      exact fk<|aT.mp this
    have h2:=CG List.length S.keys;rw [Aa,Aa] at h2;exact cb<|by omega
   refine eB<|jn<|lI RM PySem.F.slot_dict_setdefault PySem.F.type_dict_setdefault Ws<|ae 1 ⟨Xc S.dict,aS cf<|aS cC<|aS cf<|ae 0<|ae 2 ⟨R,_,_,.ref a.1,rfl,rfl,al.of<|S.same _ _ hR.lst,dP,ay ⟨a.1,_,_,.ref a.2,rfl,rfl,aK.of et,rfl,ae 3 ⟨a.2,_,_,.str z,rfl,rfl,al.of el,iW hz,?_⟩⟩⟩⟩;refine cO<|au ⟨Z0,λl0 li=>?_⟩;have iy:d≠l0:=bC S.dict li;refine⟨d,kvs,Sum.inr z,.ref l0,rfl,rfl,by rw [aq iy];exact S.dict,hlen,?_⟩;cases hA:A' z with
   | some pr=>
    obtain⟨a2,ko⟩:=pr;obtain⟨q1,q2,q3,q4⟩:=S.at' z a2 ko hA;have wW:a2≠l0:=bC q3 li;refine .inl ⟨.ref a2,by rw [S.val z,hA];rfl,a2,rfl,⟨_,by rw [aq wW];exact q3⟩,?_⟩;refine cM<|ai<|ae 2<|ai<|ae 3<|au ⟨Z2,λt fH=>?_⟩;have wX:a2≠t:=λe=>by rw [<- e,aq wW,q3] at fH;cases fH
    refine⟨ko.map V.ref,by rw [aq wX,aq wW];exact q3,?_,?_⟩
    ·rw [Aa,q4.length];have h1:(b9 (bw (n.take r)++bL r ((row n r).take p) 0) z).length<=100000:=by
      unfold b9;rw [Aa];refine Cr (SX _ _) ?_;rw [Ae];have h2:(bw<|n.take r).length<=1000:=by
       have:=CG List.length<|lJ (n.take r) 0;rw [Aa] at this;unfold bw;rw [this];exact Cr (wU n r) ht
      have h3:(bL r ((row n r).take p) 0).length<=1000:=by
       unfold bL;rw [Aa,List.length_zipIdx,Be];have h1:(row n r).length<=(af n).length:=by
        exact gZ n r
       omega
      omega
     exact cb h1
    ·refine aH ⟨kvs,ks,(λy=>if y=z then some (a2,ko++[t]) else A' y),_,?_,rfl⟩;rw [next];exact S.old (e:=(r,p)) hA li fH
   | none=>
    refine .inr ⟨by rw [S.val z,hA];rfl,l0,rfl,⟨_,by rw [aq iy.symm];exact aw⟩,?_⟩;refine cM<|ai<|ae 2<|ai<|ae 3<|au ⟨Z2,λt fH=>?_⟩;have mS:l0≠t:=λe=>by rw [<- e,aq iy.symm,aw] at fH;cases fH
    refine⟨[],by rw [aq mS,aq iy.symm,aw],by show 0 < sizeLine;decide,?_⟩;refine aH ⟨putK kvs (Sum.inr z)<|.ref l0,ks++[z],(λy=>if y=z then some (l0,[t]) else A' y),_,?_,rfl⟩;rw [next];exact S.new (e:=(r,p)) hA li fH
  ·rintro σ H4 ⟨kvs,ks,A',u2,S,rfl⟩;refine aH ⟨kvs,ks,A',_,_,?_,rfl⟩;rw [tO hi];rwa [Bq] at S
 ·rintro σ H3 ⟨kvs,ks,A',u1,u2,S,rfl⟩;rw [Bq] at S;exact bY<|ae 1<|q d ks H3 S.same S.free S.whole
abbrev NO:List Str:=["_law_rows","_law_seats_here","_law_end","_law_pair"]
theorem iF:ao NO ["_law_rows","_law_seats_here","_law_end"] (aW C0):=⟨rfl,rfl,rfl,by decide +kernel,rfl,by decide +kernel,by decide +kernel⟩
theorem Xe{f:Addr}{fd:FuncData}(F:bM K "_law_other" "_law_other" C0 f fd)(T:Txt mg):aD P w K mg base bP 1 f fd ["_law_rows","_law_seats_here","_law_end"] Dt:=by
 refine F.gb iF (λvs H Q E h=>?_) λb0 H vs Q E hr h=>?_
 ·obtain⟨R,d,t,as,n,ks,e,rfl,_⟩:=h;rfl
 obtain⟨R,d,t,as,n,ks,e,rfl,hR,hS,hT,ht,he,q⟩:=h;have nd:=iF.nd;have hu:=hr.gg;obtain⟨z,hz⟩:=ag.mp he;have aO:=eW hz;obtain⟨a,ea,dP,et,el,er⟩:=hR.at aO;obtain⟨kvs,h1,h2,h3⟩:=hS.dict;obtain⟨pa,ts,v1,v2,v3⟩:=h3 z<|fk hz;obtain⟨x,y,hp,hxy,wK⟩:=qL hT hz;rw [hp] at v3;cases v3 with
 | cons x1 v3=>
 cases v3 with
 | cons y1 v3=>
 cases v3;rename_i tx ty;show Run _ _ _ [some<|.ref R,some<|.ref d,some<|.ref t,none] H;have lN:=hr.u1;refine aN 3 nd<|mR lN<|ae 1<|aS cf<|aS cC<|aS cf<|ae 0<|aS cC<|ae 2<|ay ⟨t,_,_,.int (e.1:Int),rfl,rfl,aK.of ht,rfl,R,_,_,.ref a.1,rfl,rfl,al.of hR.lst,dP,ay ⟨a.1,_,_,.ref a.2,rfl,rfl,aK.of et,rfl,?_⟩⟩;refine aS cC (ae 2<|ay ⟨t,_,_,.int (e.2:Int),rfl,rfl,aK.of ht,rfl,a.2,_,_,.str z,rfl,rfl,al.of el,iW hz,d,.ref pa,rfl,by rw [<- v1];exact bD.k (k:=Sum.inr z) h1,?_⟩);show Run _ _ _ [some<|.ref R,some<|.ref d,some<|.ref t,some<|.ref pa] H;refine bY<|aS cf<|ae 3<|sV MQ T.tR TF<|ai<|mE (MM hu)<|aS cf<|ae 3<|ay ⟨pa,_,_,.ref tx,rfl,rfl,al.of v2,rfl,ae 2 ⟨1,_,by decide,WY x1 ht,?_⟩⟩
 by_cases c:x=e
 ·rw [BW c];refine au ⟨_,rfl,pa,[.ref tx,.ref ty],1,.ref ty,rfl,rfl,al.of v2,rfl,q ty ?_⟩;have e1:other n e=y:=by unfold other;simp only [hz,hp];simp [c]
  rw [e1];exact y1
 ·rw [BX c];refine au ⟨_,rfl,pa,[.ref tx,.ref ty],0,.ref tx,rfl,rfl,al.of v2,rfl,q tx ?_⟩;have e1:other n e=x:=by unfold other;simp only [hz,hp];simp [c]
  rw [e1];exact x1
abbrev NT:List Str:=["_law_rows","_law_seats_here","_law_end","_law_turn","_law_other_here"]
theorem jM:ao NT ["_law_rows","_law_seats_here","_law_end","_law_turn"] (aW C1):=⟨rfl,rfl,rfl,by decide +kernel,rfl,by decide +kernel,by decide +kernel⟩
theorem Xf{f:Addr}{fd:FuncData}(F:bM K "_law_step" "_law_step" C1 f fd)(T:Txt mg)(G:aV P w K mg base 1 "_law_other" ["_law_rows","_law_seats_here","_law_end"] Dt) :
  aD P w K mg base bP 2 f fd ["_law_rows","_law_seats_here","_law_end","_law_turn"] DC:=by
 refine F.gb jM (λvs H Q E h=>?_) λb0 H vs Q E hr h=>?_
 ·obtain⟨R,d,t,as,n,ks,e,rfl,_⟩:=h;rfl
 obtain⟨R,d,t,as,n,ks,e,rfl,hR,hS,hT,ht,he,q⟩:=h;have nd:=jM.nd;have ho:=gX hT he;obtain⟨z,hz⟩:=ag.mp ho;have aO:=eW hz;have iR:=jK hz;obtain⟨a,ea,dP,et,el,er⟩:=hR.at aO;show Run _ _ _ [some<|.ref R,some<|.ref d,some<|.ref t,some<|.int 1,none] H;refine aN 4 nd<|bZ G hr<|ai<|ae 0<|ai<|ae 1<|ai<|ae 2<|au ⟨R,d,t,as,n,ks,e,rfl,hR,hS,hT,ht,he,λu hu=>?_⟩;show Run _ _ _ [some<|.ref R,some<|.ref d,some<|.ref t,some<|.int 1,some<|.ref u] H;refine bY<|cM<|ai<|aS cC<|ae 4<|ay ⟨u,_,_,.int ((other n e).1:Int),rfl,rfl,aK.of hu,rfl,?_⟩;refine ai<|aI cr<|aI dZ<|aS cC<|ae 4<|ay ⟨u,_,_,.int ((other n e).2:Int),rfl,rfl,aK.of hu,rfl,ae 3 ⟨_,_,rfl,rfl,?_⟩⟩;refine bJ cZ T.len CZ<|ai<|aS cC<|aS cf<|ae 0<|aS cC<|ae 4<|ay ⟨u,_,_,.int ((other n e).1:Int),rfl,rfl,aK.of hu,rfl,R,_,_,.ref a.1,rfl,rfl,al.of hR.lst,dP,ay ⟨a.1,_,_,.ref a.2,rfl,rfl,aK.of et,rfl,au ⟨a.2,_,rfl,.inl<|al.of el,?_⟩⟩⟩;rw [Aa];refine⟨_,_,rfl,rfl,by omega,au ⟨Z2,λp hp=>?_⟩⟩;refine q p _ (aJ hp _) hp ?_;rw [aw];unfold Nt.step Nt.left;show some (HO.tup [.int ((other n e).1:Int),.int<|(((other n e).2:Int)+1) % ((row n (other n e).1).length:Int)])=some (HO.tup [.int ((other n e).1:Int),.int ((((other n e).2+1) % (row n (other n e).1).length:Nat):Int)]);rw [Int.natCast_emod];rfl
abbrev NF:List Str:=["_law_rows","_law_seats_here","_law_end","_law_face_here","_law_here"]
theorem jN:ao NF ["_law_rows","_law_seats_here","_law_end"] (aW C2):=⟨rfl,rfl,rfl,by decide +kernel,rfl,by decide +kernel,by decide +kernel⟩
def gk(n:Net)(e:Nt.End)(j:Nat):List Nt.End:=(List.range j).map λi=>it (step n) i e
theorem Xg(n:Net)(e:Nt.End)(j:Nat):gk n e (j+1)=gk n e j++[it (step n) j e]:=by
 unfold gk;rw [Fy,Am];rfl
theorem Xh{f:Addr}{fd:FuncData}(F:bM K "_law_face" "_law_face" C2 f fd)(T:Txt mg)(G:aV P w K mg base 2 "_law_step" ["_law_rows","_law_seats_here","_law_end","_law_turn"] DC) :
  aD P w K mg base bP 3 f fd ["_law_rows","_law_seats_here","_law_end"] DE:=by
 refine F.gb jN (λvs H Q E h=>?_) λb0 H vs Q E hr h=>?_
 ·obtain⟨R,d,t,as,n,ks,e,rfl,_⟩:=h;rfl
 obtain⟨R,d,t,as,n,ks,e,rfl,hR,hS,hT,ht,he,hb,q⟩:=h;have nd:=jN.nd;have hu:=hr.gg;obtain⟨k,k0,k1,k2⟩:=MY (f:=step n) (S:=ends n) (λa ha=>lK hT ha) (λa ha b hb=>wR hT ha hb) he;show Run _ _ _ [some<|.ref R,some<|.ref d,some<|.ref t,none,none] H;refine aN 3 nd<|cO<|ai<|ae 2<|au ⟨Z1,λl hl=>?_⟩;have g1:=aJ hl<|.lst [.ref t];refine aN 4 nd<|bZ G hr<|ai<|ae 0<|ai<|ae 1<|ai<|ae 2<|ai<|ay<|au ⟨R,d,t,as,n,ks,e,rfl,hR.same g1,hS.same g1,hT,g1 _ _ ht,he,λu H1 s1 nu eu=>?_⟩;show Run _ _ _ [some<|.ref R,some<|.ref d,some<|.ref t,some<|.ref l,some<|.ref u] H1;refine wN (λm σ H2=>∃(j:Nat) (ts:List Addr) (u:Addr),m=k - j/\0 < j/\j<=k/\aj H H2/\H2 l=some (.lst<|ts.map V.ref)/\Pd H2 ts (gk n e j)/\H2 u=some (Tp<|it (step n) j e)/\(∀ i,0 < i->i < j->it (step n) i e≠e)/\σ=[some<|.ref R,some<|.ref d,some<|.ref t,some<|.ref l,some<|.ref u])
  (m0:=k - 1) ⟨1,[t],u,rfl,Gy,k0,g1.trans s1,s1 _ _ aw,.cons (s1 _ _<|g1 _ _ ht) .nil,eu,λi h1 h2=>by omega,rfl⟩ ?_
 rintro m σ H2 ⟨j,ts,u,rfl,j0,j1,sH,el,ep,eu,hf,rfl⟩;refine bX (lH hu) (ae 4<|ae 2 ⟨1,_,by decide,WZ eu<|sH _ _ ht,_,rfl,?_⟩);have pl:=ep.length;have ol:(gk n e j).length=j:=by unfold gk;simp
 by_cases c:it (step n) j e=e
 ·rw [BW c];refine bp (bY<|ae 3<|q l ts (gk n e j) H2 sH hl el ep ⟨by omega,by omega,λi hi=>?_,by rw [ol];exact c,λi h1 h2=>hf i h1<|by omega⟩);unfold gk;rw [Af,Ee<|by omega];rfl
 ·rw [BX c];have jk:j < k:=by
   rcases Cy j k with h | h
   ·exact h
   ·have:j=k:=by omega
    subst this;exact absurd k2 c
  refine a9 (eB<|jn<|ae 3 ⟨l,rfl,⟨_,el⟩,ae 4 ⟨_,el,by rw [Aa];exact cb (by omega),?_⟩⟩);have s2:aj H (upd H2 l<|.lst<|ts.map V.ref++[.ref u]):=dN sH hl;have kt:∀ b f,H2 b=some (Tp f)->(upd H2 l<|.lst<|ts.map V.ref++[.ref u]) b=some (Tp f):=λb f h=>by
   rw [aq<|tN h el];exact h
  have M4:=kt u _ eu;refine aN 4 nd<|bZ G hr<|ai<|ae 0<|ai<|ae 1<|ai<|ae 4<|ai<|ay<|au ⟨R,d,u,as,n,ks,it (step n) j e,rfl,hR.same s2,hS.same s2,hT,M4,jL (λa ha=>lK hT ha) he j,λv H3 s3 nv ev=>?_⟩;refine aH ⟨k - (j+1),by omega,j+1,ts++[u],v,rfl,Em _,jk,s2.trans s3,?_,?_,ev,λi h1 h2=>?_,rfl⟩
  ·rw [Am];exact s3 _ _ aw
  ·rw [Xg];exact(ep.keep λb f h=>s3 _ _<|kt b f h).append<|.cons (s3 _ _ M4) .nil
  ·rcases Nat.lt_succ_iff_lt_or_eq.mp h2 with h | h
   ·exact hf i h1 h
   ·rw [h];exact c
end
end B4
namespace Nt
open PySem L2
def Full(n:Net):Prop:=(∃ nm,n=[(nm,[])])\/(n≠[]/\∀ i,i < n.length->row n i≠[])
def du(n:Net)(c:End):Prop:=c.1 < n.length/\c.2 < max 1 (row n c.1).length
def ins(n:Net)(c:End)(z:Str):Net:=n.modify c.1 λr=>(r.1,r.2.take c.2++z :: r.2.drop c.2)
theorem cD(n:Net)(c:End)(z:Str):(ins n c z).length=n.length:=by unfold ins;rw [List.length_modify]
theorem kq(n:Net)(c:End)(z:Str):(ins n c z).map (·.1)=n.map (·.1):=by
 unfold ins;refine De λi=>?_;rw [Af,Af,Fn];cases n[i]? with
 | none=>rfl
 | some r=>by_cases h:c.1=i <;> simp [h]
theorem qR(n:Net)(c:End)(z:Str)(i:Nat)(hc:c.1 < n.length):row (ins n c z) i=if c.1=i then(row n i).take c.2++z :: (row n i).drop c.2 else row n i:=by
 unfold row ins;rw [Fn]
 by_cases h:c.1=i
 ·subst h;rw [Ab hc];simp
 ·rw [BK h];cases n[i]? with
  | none=>simp [h]
  | some r=>simp [h]
theorem gs:∀(n:Net) (c:End) (z:Str),c.1 < n.length->(af<|ins n c z).Perm (z :: af n)
 | [],c,z,h=>by simp at h
 | a :: n,(0,p),z,h=>by
  unfold ins af;simp only [List.modify_zero_cons,Ep];have:(a.2.take p++z :: a.2.drop p).Perm (z :: a.2):=by
   refine Fq.trans ?_;rw [Cj]
  exact this.append_right _
 | a :: n,(i+1,p),z,h=>by
  have ih:=gs n (i,p) z (by simpa using h);unfold ins af at ih ⊢;simp only [List.modify_succ_cons,Ep];refine(ih.append_left a.2).trans ?_;exact Fq
theorem DF{n:Net}{c:End}{z:Str}(F:Full n)(hc:c.1 < n.length):n.length=1\/(∀ i,i < n.length->row n i≠[])->(∀ i,i < (ins n c z).length->row (ins n c z) i≠[])/\ins n c z≠[]:=by
 intro h;have hl:=cD n c z;refine⟨λi hi=>?_,λe=>?_⟩
 ·rw [qR n c z i hc]
  by_cases q:c.1=i
  ·rw [BR q];simp
  ·rw [BK q]
   rcases h with h | h
   ·rw [hl] at hi;omega
   ·exact h i<|by omega
 ·rw [e] at hl;simp at hl;omega
theorem Full.some{n:Net}(F:Full n):n≠[]:=by
 rcases F with ⟨nm,rfl⟩ | h
 ·simp
 ·exact h.1
theorem Full.either{n:Net}(F:Full n):n.length=1\/(∀ i,i < n.length->row n i≠[]):=by
 rcases F with ⟨nm,rfl⟩ | h
 ·exact .inl rfl
 ·exact .inr h.2
theorem Full.cz{n:Net}(F:Full n)(h0:row n 0≠[]){c:End}(hc:du n c):c∈ends n:=by
 rcases F with ⟨nm,rfl⟩ | h
 ·exact absurd rfl h0
 ·have:=h.2 c.1 hc.1;have hp:0 < (row n c.1).length:=Ck.mpr this;have aO:c.2 < (row n c.1).length:=by
   have:=hc.2;omega
  exact ag.mpr<|wQ aO
theorem Xi{n:Net}{e:End}(h:e∈ends n):du n e:=by
 obtain⟨z,h⟩:=ag.mp h;have:=jK h;exact⟨eW h,by omega⟩
def o8(H H':Hp)(bad:List Addr):Prop:=∀ b o,H b=some o->b∉bad->H' b=some o
theorem qS(zs:List Str)(i:Nat)(z:Str):insertAt (zs.map V.str) i (.str z)=(zs.take i++z :: zs.drop i).map V.str:=by
 unfold insertAt;rw [Am,Bb,Gn,Go]
theorem ah.ins{H:Hp}{R:Addr}{as:List (Addr×Addr)}{n:Net}(h:ah H R as n){c:End}{z:Str}{a:Addr×Addr}(ha:as[c.1]?=some a)(hc:c.1 < n.length) :
  ah (upd H a.2<|Ls<|(row n c.1).take c.2++z :: (row n c.1).drop c.2) R as (Nt.ins n c z):=by
 have q0:=h.tup c.1 a n[c.1] ha<|Ab hc;have DH:R≠a.2:=by
  intro e;have h1:=h.lst;rw [e,q0.2] at h1;have h2:=HO.lst.inj<|Option.some.inj h1;have h3:=CG List.length h2;cases hm:n[c.1].2 with
  | nil=>
   rw [hm] at h2;have:as.map (λa=>V.ref a.1)=[]:=h2.symm;have hl:=CG List.length this;rw [Aa,h.len] at hl;rw [hl] at hc;exact absurd hc<|Ec _
  | cons y r=>
   rw [hm] at h2;cases as with
   | nil=>simp at h2
   | cons b bs=>
    simp at h2
 have er:row n c.1=n[c.1].2:=by unfold row;rw [Ab hc];rfl
 refine⟨by rw [cD];exact h.len,by rw [aq DH];exact h.lst,λi b r hb hr=>?_,h.inj⟩;unfold Nt.ins at hr;rw [Fn] at hr;cases hn:n[i]? with
 | none=>rw [hn] at hr;by_cases q:c.1=i <;> simp [q] at hr
 | some r0=>
  rw [hn] at hr;have q1:=h.tup i b r0 hb hn;have t1:b.1≠a.2:=bN q1.1 q0.2 λe=>nomatch e
  by_cases q:c.1=i
  ·subst q;rw [Ab hc] at hn;cases hn;rw [ha] at hb;cases hb;simp at hr;subst hr;refine⟨by rw [aq t1];exact q1.1,?_⟩;rw [aw,er]
  ·simp [q] at hr;subst hr;have t2:b.2≠a.2:=λe=>by
    have l1:i < as.length:=(Ac.mp hb).1;have l2:c.1 < as.length:=(Ac.mp ha).1;have x1:(as.map (·.2))[i]?=some b.2:=by rw [Af,hb];rfl
    have x2:(as.map (·.2))[c.1]?=some a.2:=by rw [Af,ha];rfl
    obtain⟨y1,z1⟩:=Ac.mp x1;obtain⟨y2,z2⟩:=Ac.mp x2;exact q<|(Fo (h₀:=y2) (h₁:=y1) h.inj).mp<|z2.trans<|e.symm.trans z1.symm
   exact⟨by rw [aq t1];exact q1.1,by rw [aq t2];exact q1.2⟩
theorem ah.more{H:Hp}{R t l:Addr}{as:List (Addr×Addr)}{n:Net}{pt:Str}{zs:List Str}(h:ah H R as n)(ht:H t=some (.tup [.str pt,.ref l]))(hl:H l=some (Ls zs))(hn:l∉as.map (·.2))(hR:l≠R) :
  ah (upd H R<|.lst<|as.map (λa=>V.ref a.1)++[.ref t]) R (as++[(t,l)]) (n++[(pt,zs)]):=by
 have bB:=h.len;refine⟨by rw [Ae,Ae,bB];rfl,by rw [aw,Am];rfl,λi b r hb hr=>?_,?_⟩
 ·rcases Cy i as.length with c | c
  ·rw [Ay c] at hb;rw [Ay<|by omega] at hr;have q:=h.tup i b r hb hr;have t1:b.1≠R:=bN q.1 h.lst λe=>nomatch e;have t2:b.2≠R:=by
    intro e;have h1:=h.lst;rw [<- e,q.2] at h1;have h2:=HO.lst.inj<|Option.some.inj h1;cases as with
    | nil=>simp at c
    | cons b' bs=>
     cases hm:r.2 with
     | nil=>rw [hm] at h2;simp at h2
     | cons y r=>rw [hm] at h2;simp at h2
   exact⟨by rw [aq t1];exact q.1,by rw [aq t2];exact q.2⟩
  ·have e:i=as.length:=by
    have:=(Ac.mp hb).1;rw [Ae] at this;simp at this;omega
   subst e;rw [Bd<|Ak _] at hb;rw [bB,Bd<|Ak _] at hr;simp at hb hr;subst hb hr;have t1:t≠R:=bN ht h.lst λe=>nomatch e;exact⟨by rw [aq t1];exact ht,by rw [aq hR];exact hl⟩
 ·rw [Am,Cc];exact⟨h.inj,by simp,λx hx y hy e=>by simp at hy;subst hy e;exact hn hx⟩
theorem ah.lists{H:Hp}{R:Addr}{as:List (Addr×Addr)}{n:Net}(h:ah H R as n){x:Addr×Addr}(hx:x∈as):∃ zs,H x.2=some (Ls zs):=by
 obtain⟨i,hi,e⟩:=Dm.mp hx;have hl:=h.len;exact⟨_,(h.tup i x (n[i]'(by omega)) (by rw [<- e];exact Ab hi)<|Ab<|by omega).2⟩
theorem ah.fresh{H:Hp}{R l:Addr}{as:List (Addr×Addr)}{n:Net}(h:ah H R as n)(hl:H l=none){x:Addr×Addr}(hx:x∈as):l≠x.2:=by
 obtain⟨zs,e⟩:=h.lists hx;exact(bC e hl).symm
theorem g5(n:Net):(ends n).length=(af n).length:=by
 unfold ends bw;rw [Aa,<- lJ n 0,Aa]
theorem df.ends{n:Net}(T:aC n){e:End}{fs:List End}(h:df n e fs)(he:e∈ends n):∀ c∈fs,c∈Nt.ends n:=by
 intro c hc;obtain⟨i,hi,e2⟩:=Dm.mp hc;have:=h.at' i hi;rw [Ab hi,e2] at this;rw [Option.some.inj this];exact jL (λa ha=>lK T ha) he i
theorem xl{n:Net}{c k:End}{z:Str}(hc:du n c)(hk:k.1 < n.length):du (ins n k z) c:=by
 refine⟨by rw [cD];exact hc.1,?_⟩;rw [qR n k z c.1 hk];have:=hc.2
 split
 ·rw [Ae,Ao,Be,Dd];omega
 ·exact this
def dbl(zs:List Str):List Str:=zs.flatMap λz=>[z,z]
theorem DI(y:Str):∀ zs:List Str,(dbl zs).count y=2 * zs.count y
 | []=>rfl
 | z :: r=>by
  unfold dbl;rw [Ep];have ih:=DI y r;unfold dbl at ih;rw [List.count_append,ih,Ds,Ds,Ds,List.count_nil];omega
theorem fm{y:Str}{zs:List Str}:y∈dbl zs↔y∈zs:=by
 rw [<- Ga,DI,<- Ga];omega
theorem DJ:∀ zs:List Str,(dbl zs).length=2 * zs.length
 | []=>rfl
 | z :: r=>by
  unfold dbl;rw [Ep,Ae];have ih:=DJ r;unfold dbl at ih;rw [ih,Ao];simp;omega
theorem Xj(zs:List Str)(z:Str):dbl (zs++[z])=dbl zs++[z,z]:=by
 unfold dbl;rw [Dh];rfl
theorem M5{n:Net}{zs:List Str}(hn:zs.Nodup)(p:(af n).Perm<|dbl zs):aC n:=λz hz=>by
 rw [p.count_eq,DI];have h1:z∈zs:=fm.mp<|p.mem_iff.mp hz;rw [hn.count,BR h1]
def NE(n:Net):Prop:=∀ r∈n,r.2≠[]
theorem jO{n:Net}{i:Nat}(h:i < n.length):row n i=n[i].2:=by unfold row;rw [Ab h];rfl
theorem Xk{n:Net}(h:NE n)(h0:n≠[]):Full n:= .inr ⟨h0,λi hi=>by rw [jO hi];exact h _<|Cb hi⟩
theorem Full.ne{n:Net}(h:Full n):(∃ nm,n=[(nm,[])])\/NE n:=by
 rcases h with h | ⟨_,h⟩
 ·exact .inl h
 ·refine .inr λr hr=>?_;obtain⟨i,hi,rfl⟩:=Dm.mp hr;have:=h i hi;rwa [jO hi] at this
theorem M6:∀(n:Net) (k:Nat) (h:k < n.length),(af n).Perm<|n[k].2++af (n.eraseIdx k)
 | [],k,h=>by simp at h
 | a :: n,0,h=>by unfold af;simp
 | a :: n,k+1,h=>by
  have ih:=M6 n k (by simpa using h);unfold af at ih ⊢;simp only [Ep,List.getElem_cons_succ,RL];refine(ih.append_left a.2).trans ?_;rw [<- Ba,<- Ba];exact List.perm_append_comm.append_right _
theorem Xl(n:Net)(k:Nat)(h:k < n.length):(n.map (·.1)).Perm (n[k].1 :: (n.eraseIdx k).map (·.1)):=by
 have:=(bT.bu n k h).map (·.1);exact this.symm
theorem DL(zs:List Str)(i:Nat):(zs.drop i++zs.take i).Perm zs:=by
 refine Cn.trans ?_;rw [Cj]
theorem ah.upd{H:Hp}{R x:Addr}{as:List (Addr×Addr)}{n:Net}(h:ah H R as n){xs:List V}{o:HO}(hx:H x=some (.lst xs))(hR:R≠x)(ha:∀ a∈as,a.2≠x):ah (upd H x o) R as n:=by
 refine⟨h.len,by rw [aq hR];exact h.lst,λi a r h1 h2=>?_,h.inj⟩;have q:=h.tup i a r h1 h2;exact⟨by rw [aq<|bN q.1 hx λe=>nomatch e];exact q.1,by rw [aq<|ha a<|Aq h1];exact q.2⟩
theorem DM{α:Type}(l:List α)(k i:Nat):(l.eraseIdx k)[i]?=if i < k then l[i]? else l[i+1]?:=by
 rw [Ef]
theorem ah.erase{H:Hp}{R:Addr}{as:List (Addr×Addr)}{n:Net}(h:ah H R as n){k:Nat}(hk:k < n.length) :
  ah (L2.upd H R<|.lst<|(as.map λa=>V.ref a.1).eraseIdx k) R (as.eraseIdx k) (n.eraseIdx k):=by
 have hl:=h.len;refine⟨by rw [Do,Do,hl],?_,λi a r h1 h2=>?_,?_⟩
 ·rw [aw]
  congr 2
  refine De λi=>?_;rw [DM,Af,Af,Af,DM]
  split <;> rfl
 ·rw [DM] at h1 h2;have q:H a.1=some (.tup [.str r.1,.ref a.2])/\H a.2=some (Ls r.2):=by
   by_cases c:i < k
   ·rw [BR c] at h1 h2;exact h.tup i a r h1 h2
   ·rw [BK c] at h1 h2;exact h.tup (i+1) a r h1 h2
  have t2:a.2≠R:=by
   intro e;have h3:=h.lst;rw [<- e,q.2] at h3;have h4:=HO.lst.inj<|Option.some.inj h3;cases as with
   | nil=>simp at hl;simp [<- hl] at hk
   | cons b bs=>
    cases hm:r.2 with
    | nil=>rw [hm] at h4;simp at h4
    | cons y r=>rw [hm] at h4;simp at h4
  exact⟨by rw [aq<|bN q.1 h.lst λe=>nomatch e];exact q.1,by rw [aq t2];exact q.2⟩
 ·have:((as.eraseIdx k).map (·.2)).Sublist (as.map (·.2)):=(List.eraseIdx_sublist as k).map _;exact h.inj.sublist this
theorem Xm(zs:List Str)(i:Nat):fY (zs.map V.str) (some (i:Int)) none=(zs.drop i).map V.str:=by
 unfold fY;rw [HT.im,HT.fX,Aa];rw [Dp (by rw [Dd,Aa];omega),Go]
 rcases Nat.le_total i zs.length with h | h
 ·rw [RV h]
 ·rw [Nat.min_eq_right h,RZ (by simp),RZ<|by simpa using h]
theorem Xn(zs:List Str)(i:Nat):fY (zs.map V.str) none (some (i:Int))=(zs.take i).map V.str:=by
 unfold fY;rw [HT.im,HT.fX,Aa,List.drop_zero,Nat.sub_zero,Gn]
 rcases Nat.le_total i zs.length with h | h
 ·rw [RV h]
 ·rw [Nat.min_eq_right h,Dp (by simp),Dp<|by simpa using h]
end Nt
namespace L2
open PySem PySem.Spec PyProof.Rows
section
variable{X:Cx}{pins:List (Addr×Obj)}{σ:St}{H:Hp}{s:Shared}
end
section
variable{X:Cx}{elt tg:Expr}{ifs:List Expr}{scope:Scope}{σ:St}{H:Hp}{N':List Str}{A a d:Addr}{xs:List V}{kvs:List (Key×V)}{after:Hp->Prop}
theorem qT(Pv:Nat->St->Hp->Prop)(h0:Pv 0 σ H)(hl:∀ i σ' H',i<=xs.length->Pv i σ' H'->al X.K H' a xs)
  (hs : ∀ i x σ' H', xs[i]? = some x → Pv i σ' H' → AT X N' scope tg x σ' H' λσ2 H3 => AU X N' scope ifs σ2 H3 λb H4 =>
   if b=true then AQ X N' scope elt σ2 H4 λv H5=>∃ ys,H5 A=some (.lst ys)/\ys.length < sizeLine/\Pv (i+1) σ2 (upd H5 A<|.lst<|ys++[v]) else Pv (i+1) σ2 H4)
  (hd:∀ σ' H',Pv xs.length σ' H'->after H'):mG X N' scope tg ifs elt (qu X.K a) A after σ H:=by
 refine⟨λi m σ' H'=>m=xs.length - i/\i<=xs.length/\Pv i σ' H',⟨_,rfl,Bv _,h0⟩,?_⟩;rintro i m σ' H' ⟨rfl,hi,p⟩;have q:=hl i σ' H' hi p
 by_cases aO:i < xs.length
 ·refine .inr ⟨⟨xs,xs[i],q,by simp [aO]⟩,Pv<|i+1,λσ' H' p'=>⟨xs.length - (i+1),by omega,rfl,aO,p'⟩,λx H2 y=>?_⟩;obtain⟨e,y⟩:=y;subst e;exact hs i x σ' _ (y xs q) p
 ·have e:i=xs.length:=by omega
  subst e;exact .inl ⟨⟨xs,q,Ak _⟩,hd σ' H' p⟩
theorem M7(z:Str)(zs:List Str):qA (.str z) (zs.map V.str)=zs.contains z:=by
 unfold qA
 induction zs with
 | nil=>rfl
 | cons y r ih=>
  rw [Bb,Fi,ih,List.contains_cons]
  congr 1
  show cH (.str y) (.str z)=(z == y)
  by_cases h:y=z
  ·subst h;simp [cH]
  ·have h':z≠y:=λq=>h q.symm;show(y == z)=(z == y);rw [beq_eq_false_iff_ne.mpr h,beq_eq_false_iff_ne.mpr h']
theorem M8(zs:List Str):(zs.map V.str).all jA=true:=by
 rw [Cq];intro x hx;obtain⟨z,_,rfl⟩:=Al.mp hx;rfl
theorem kr{e1 e2:Expr}{k:Nat}{pos:Pos}{t:Addr}{x y:V}{R:St->Hp->Prop}(hc:X.calm=true)(ht:aK X.K H t [x,y])(h:Eg X e1 x σ H λσ1 H1=>Eg X e2 y σ1 H1 R)
  (hn:(assignEach [e1,e2] X.env).length=2:=by rfl) (cR:(assignEach [e1,e2] X.env).findIdx? (·.1)=none:=by rfl)
  (jm:(assignEach [e1,e2] X.env).map (·.2)=assign e1 X.env :: (assignEach [e2] X.env).map (·.2):=by rfl) (mW:(assignEach [e2] X.env).map (·.2)=assign e2 X.env :: (assignEach [] X.env).map (·.2):=by rfl) :
  Eg X (.Tuple [e1,e2] k pos) (.ref t) σ H R:=
 wy (Ka (t:=qp (λv σ H Q=>Eg X e1 v σ H Q)<|qp (λv σ H Q=>Eg X e2 v σ H Q) nO) hc (rY oj (rY oj J' mW) jm) hn cR) ⟨t,_,rfl,ht,rfl,_,_,rfl,h.mono λσ1 H1 h1=>⟨_,_,rfl,h1.mono λσ2 H2 q=>⟨rfl,q⟩⟩⟩
end
end L2
namespace PySem
theorem getAttr?_miss_list{prog:Program}{w:World}{A:Around}{E:Value->Shared->Prop}{s:Shared}{a:Addr}{o:Obj}{xs:Array Value}{k:Nat}{name:Str}{Q:Option Value->Shared->Prop}
  (hx:s.heap.get? a=some o) (hc:o.cls = .type "list") (iV:o.data = .seq xs k) (hd:o.dict=none) (tV:typeLookup (.type "list") name=pure none) (tW:(["__module__","__name__","__qualname__","__doc__","__annotations__"]:List Str).contains name=false) (hA:A.handled=none)
  (h:∀ h' tk e,Heap.NewExcOf s.heap h' e "AttributeError"->Q none {s with heap:=h',toks:=tk}) (hsz:name.length+100<=sizeLine:=by size_fits) :
  wpAny (model prog w) A (getAttr? (.ref a) name) Q E s:=by
 obtain⟨c,dct,dat,sl⟩:=o;simp only at hc iV hd;subst hc iV hd;obtain⟨hp,g,d,tk,os⟩:=s;have hT:∀ wJ,(⟨hp,g,d,wJ,os⟩:Shared).TypeIs (.ref a) "list":=λ_=>⟨_,hx,rfl⟩;have f1:=sub_AttributeError;have f3:=F.slot_list_getattribute.lookup;have f4:=F.slot_list_getattribute.bind<|.ref a;have f5:=am_list_getattr_none;unfold getAttr? getAttrBy? getAttrBy
 repeat (any_goals (first | assumption | exact hT _ | ((with_reducible show wpAny _ _ (call (Value.builtin "list.__getattribute__") _ _) _ _ _);refine PB F.slot_list_getattribute (hT _) am_entry_list_getattribute (F.args_list_getattribute_2 _ _) (meets_getattribute_miss_list a xs k sl name _ tV tW hsz) ⟨hx,hA,λh' wJ e lh=>?_⟩) | wp_step))
 obtain⟨t',u',he⟩:=lh.there;show wpAny _ _ (getattributeRaised _ _ _ _ _ _ _) _ _ _;unfold getattributeRaised
 repeat (any_goals (first | assumption | wp_step))
 exact h _ _ _ lh.of
namespace F
theorem bf:entryFor table "dict.update.loop" = some Builtin.«dict.update.loop»:=entryFor_of_tree<|by kernel_rfl
theorem aG:plainId "dict.update.loop" = true:=by decide +kernel
theorem fq:typeLookup (.type "list") "keys" = pure none:=by rw [RQ,MN];kernel_rfl
end F
section
variable{prog:Program}{w:World}{K:Type} [DecidableEq K] {knd:KeyKind prog w K} {A:Around} {R:Result->Shared->Prop}
def DS(knd:KeyKind prog w K)(h:Heap)(items:List Value)(gq:List<|K×Value):Prop:=
 items.length=gq.length/\∀(j:Nat) it,items[j]?=some it->∃ T key k v o n,it = .ref T/\gq[j]?=some (k,v)/\knd.is k key=true/\h.get? T=some o/\o.cls = .type "tuple"/\o.data = .seq #[key,v] n
theorem Xp(kvs:List<|K×Value)(k:K)(v:Value):(stored kvs k v).length<=kvs.length+1:=by
 unfold stored
 split
 ·rw [Aa];omega
 ·rw [Ae];simp
theorem Xq{hB:Heap}{d I l:Addr}{items:List Value}{gq:List (K×Value)}(hd:hB.objs.size<=d)(hI:hB.objs.size<=I)(DT:d≠I)(hl:hB.IsList l items.toArray)(hp:DS knd hB items gq)(hn:items.length < sizeLine)(hh:A.handled=none) :
  ∀(k i:Nat) (s:Shared) (acc:List<|K×Value),items.length - i=k->i<=items.length->(∀ b o,hB.get? b=some o->s.heap.get? b=some o)->s.heap.IsListIter I l i->s.heap.DictOf knd d acc->acc.length<=i ->
   (∀ h' tk,(∀ b o,b≠I->b≠d->s.heap.get? b=some o->h'.get? b=some o)->h'.DictOf knd d ((gq.drop i).foldl (λa p=>stored a p.1 p.2) acc)->R (.ok<|.ret .none) {s with heap:=h',toks:=tk}) ->
   codeAny (model prog w) A (.builtin "dict.update.loop" ⟨[.ref d,.ref I,rawInt i,.none],[]⟩) R s:=by
 have nb:∀ b o,hB.get? b=some o->b≠I/\b≠d:=λb o e=>⟨Bp<|Bg (As e) hI,Bp<|Bg (As e) hd⟩;intro k
 induction k with
 | zero=>
  intro i s acc hk hi gu cR hD bB hR;have sX:i=items.length:=by omega
  refine GK F.bf ?_;rw [FZ F.aG _];show wpAny _ A.in1 (pyNext (.ref I) >>= _) _ _ s;have iX:s.heap.IsList l items.toArray:=let ⟨o,ho,r⟩:=hl;⟨o,gu _ _ ho,r⟩
  refine BJ (wpAny_pyNext_list_end hh cR iX (by simp;omega) λh' eb=>?_);show wpAny _ A.in1 (Builtin.Dict.addKeywords d [] >>= _) _ _ _;refine BJ<|BL<|BL ?_;refine hR h' s.toks (λb o hb _ e=>eb b o hb e) ?_;rw [List.drop_eq_nil_of_le<|by have:=hp.1;omega];exact hD.extBut eb DT
 | succ k ih=>
  intro i s acc hk hi gu cR hD bB hR;have aO:i < items.length:=by omega
  have hx:items[i]?=some items[i]:=Ab aO;obtain⟨T,key,kk,v,o,n,e1,e2,e3,e4,e5,e6⟩:=hp.2 i _ hx;rw [e1] at hx;refine GK F.bf ?_;rw [FZ F.aG _];show wpAny _ A.in1 (pyNext (.ref I) >>= _) _ _ s;have iX:s.heap.IsList l items.toArray:=let ⟨o,ho,r⟩:=hl;⟨o,gu _ _ ho,r⟩
  refine BJ (wpAny_pyNext_list_item cR iX (x:= .ref T) (by simpa using hx) λh' cS sb=>?_);have eT:h'.get? T=some o:=(sb.2 T (nb T o e4).1).trans<|gu _ _ e4;refine BJ<|CK<|BJ<|wpAny_tryCatch ?_;unfold Builtin.Dict.pairItems;refine BJ<|KH (T:= "tuple") ⟨o,eT,e5⟩ ?_;rw [BR<|by decide];refine BJ<|KR (s:={s with heap:=h'}) eT e6<|BL ?_;show wpAny _ _ (holding [key,v]<|dictSet d key v) _ _ _;refine CK (wpAny_dictSet_pairs (knd:=knd) (s:={s with heap:=h'}) (k:=kk) e3 (hD.extBut sb.extBut DT) (λh2 D2 M9=>?_)<|by omega);refine BL ⟨JB F.aG _,?_⟩;have Nb:∀ b o,b≠I->b≠d->s.heap.get? b=some o->h2.get? b=some o:=λb o h1 h3 e=>(M9.2 b h3).trans<|(sb.2 b h1).trans e;refine ih (i+1) {s with heap:=h2,toks:=s.toks+1} (stored acc kk v) (by omega) aO (λb o e=>Nb b o (nb b o e).1 (nb b o e).2<|gu _ _ e) (cS.extBut M9.extBut<|CJ DT) D2 (by have:=Xp acc kk v;omega) λh3 tk k3 D3=>?_;refine hR h3 tk (λb o h1 jl e=>k3 b o h1 jl<|Nb b o h1 jl e) ?_;have e7:gq.drop i=(kk,v) :: gq.drop (i+1):=by
   obtain⟨hj,e8⟩:=Ac.mp e2;rw [RB hj,e8]
  rw [e7];exact D3
theorem Xr{E:Value->Shared->Prop}{s:Shared}{Q:Value->Shared->Prop}{l:Addr}{ol:Obj}{nl:Nat}{items:List Value}{gq:List (K×Value)}(ho:s.heap.get? l=some ol)(hc:ol.cls = .type "list")(xm:ol.dict=none)(DU:ol.data = .seq items.toArray nl)(hp:DS knd s.heap items gq)(hn:items.length < sizeLine)(hh:A.handled=none)
  (h:∀ h' tk,(∀ b o,s.heap.get? b=some o->h'.get? b=some o)->h'.DictOf knd s.heap.objs.size (gq.foldl (λa p=>stored a p.1 p.2) [])->Q (.ref s.heap.objs.size) {s with heap:=h',toks:=tk}) :
  wpAny (model prog w) A (call (.type "dict") [.ref l]) Q E s:=by
 refine callType_codes (Q₁:=λobj s₁=>obj = .ref s.heap.objs.size/\s₁={s with heap:=s.heap.push {cls:= .type "dict",data:= .dict #[]}}) F.kt_called_dict (F.kt_typeCall_dict_1 _) F.entry_dict_init (kt_code_dict_new _ ⟨rfl,rfl⟩) ?_;rintro obj s₁ ⟨rfl,rfl⟩;have jG:(s.heap.push {cls:= .type "dict",data:= .dict #[]}).DictOf knd s.heap.objs.size []:=Heap.DictOf.new s.heap;have gN:(s.heap.push {cls:= .type "dict",data:= .dict #[]}).get? l=some ol:=Ah _ ho;refine⟨jG.typeIs,F.args_dict_init_2 _ _,?_⟩;unfold Builtin.«dict.__init__»;refine BJ ?_;unfold Builtin.Dict.selfAndRest;refine BJ<|wpAny_notOrdered_dict jG.typeIs ?_;show wpAny _ _ (pure (s.heap.objs.size,[Value.ref l])) _ _ _;refine BL ?_;show wpAny _ _ (Builtin.Dict.updateFrom "dict.__init__" s.heap.objs.size (.ref l) [] .none) _ _ _;unfold Builtin.Dict.updateFrom;refine BJ<|KH (T:= "list") ⟨ol,gN,hc⟩ ?_;rw [BR<|by decide];refine BJ (getAttr?_miss_list gN hc DU xm F.fq (by decide) (by exact hh) λh' tk e ne=>?_);rw [BR (show(none:Option Value).isNone=true from rfl)];have kp:∀ b o,s.heap.get? b=some o->h'.get? b=some o:=λb o e=>ne.keeps b o<|Ah _ e;refine BJ<|JH ?_;have hL:h'.IsList l items.toArray:=⟨ol,kp _ _ ho,hc,nl,DU⟩;refine BJ<|KZ hL ?_;refine BL ⟨JB F.aG _,?_⟩;have Nc:h'.DictOf knd s.heap.objs.size []:=let ⟨o,es,ep,ho,r⟩:=jG;⟨o,es,ep,ne.keeps _ _ ho,r⟩
 have aO:s.heap.objs.size < h'.objs.size:=let ⟨o,es,ep,ho,r⟩:=Nc;As ho
 refine Xq (hB:=s.heap) (d:=s.heap.objs.size) (I:=h'.objs.size) (l:=l) (Ak _) (Bc aO) (Bp aO) ⟨ol,ho,hc,nl,DU⟩ hp hn (by exact hh) _ 0 _ [] rfl (Bv _) (λb o e=>Ah _<|kp b o e) ⟨_,Ar _ rfl,rfl,rfl⟩ (Nc.push _) (Bv _) λh2 DV k2 D2=>?_;refine⟨rfl,h h2 DV (λb o e=>k2 b o (Bp<|As<|kp b o e) (Bp<|As e)<|Ah _<|kp b o e) D2⟩
end
end PySem
namespace L2
open PySem PySem.Spec PyProof.Rows
section
variable{X:Cx}{pins:List (Addr×Obj)}{σ:St}{H:Hp}{s:Shared}
theorem Xs{kvs:List (Key×V)}:∀{ps:List (Key×V)} {acc:List (Key×Value)} {rs:List (Key×Value)},KV ps acc->KV kvs rs->KV (kvs.foldl (λa p=>putK a p.1 p.2) ps) (rs.foldl (λa p=>stored a p.1 p.2) acc):=by
 induction kvs with
 | nil=>intro ps acc rs h g;cases g;exact h
 | cons p r ih=>
  intro ps acc rs h g;cases g with
  | @cons _ q _ r' hq hr=>
   obtain⟨e1,e2⟩:=hq;rw [Db,Db];refine ih ?_ hr;rw [<- e1];exact h.put p.1 e2
theorem Nf{P:Program}{w:World}{h:Heap}:∀{kvs:List (Key×V)} {ts:List Addr},ts.length=kvs.length->(∀(j:Nat) t kv,ts[j]?=some t->kvs[j]?=some kv->∃ key v o m,(bR P w).is kv.1 key=true/\RelV kv.2 v/\h.get? t=some o/\o.cls = .type "tuple"/\o.data = .seq #[key,v] m) ->
  ∃ rs:List<|Key×Value,KV kvs rs/\∀(j:Nat) t,ts[j]?=some t->∃ key k v o m,rs[j]?=some (k,v)/\(bR P w).is k key=true/\h.get? t=some o/\o.cls = .type "tuple"/\o.data = .seq #[key,v] m
 | [],ts,hl,_=>by
  have:ts=[]:=Bf.mp hl;subst this;exact⟨[],.nil,λj t h=>by simp at h⟩
 | kv :: r,[],hl,_=>by simp at hl
 | kv :: r,t :: ts,hl,hp=>by
  obtain⟨key,v,o,m,q1,q2,q3,q4,q5⟩:=hp 0 t kv rfl rfl;obtain⟨rs,hk,hr⟩:=Nf (kvs:=r) (ts:=ts) (by simpa using hl) λj t kv h1 h2=>hp (j+1) t kv (by simpa using h1) (by simpa using h2);refine⟨(kv.1,v) :: rs,.cons ⟨rfl,q2⟩ hk,λj t' ht=>?_⟩;cases j with
  | zero=>
   cases ht;exact⟨key,kv.1,v,o,m,rfl,q1,q3,q4,q5⟩
  | succ j=>
   obtain⟨key,k,v,o,m,e,z⟩:=hr j t' (by simpa using ht);exact⟨key,k,v,o,m,by simpa using e,z⟩
theorem Xt(hc:X.calm=true):eI X (.type "dict") (λxs H Q=>∃(a:Addr) (ts:List Addr) (kvs:List<|Key×V),xs=[.ref a]/\H a=some (.lst<|ts.map V.ref)/\ts.length=kvs.length/\ts.length < sizeLine/\(∀(j:Nat) t kv,ts[j]?=some t->kvs[j]?=some kv->H t=some (.tup [kV kv.1,kv.2])) /\
  ∀ d,H d=none->Q (.ref d) (upd H d<|.dK<|kvs.foldl (λa p=>putK a p.1 p.2) [])):=by
 intro pins s σ H xs us Q I r h;obtain⟨a,ts,kvs,rfl,hH,hl,hz,ht,q⟩:=h;obtain⟨u,rfl,ru⟩:=vals1 r;cases (show u=Value.ref a from ru);obtain⟨z,its,n,rv,e⟩:=(show ax X.prog X.w H s.heap a (.lst<|ts.map V.ref) from I.aA a _ hH);have Mr:=rv.length;rw [Aa] at Mr;have o9:∀(j:Nat) t,ts[j]?=some t->its[j]?=some (.ref t):=λj t hj=>by
  obtain⟨u,hu,ru⟩:=rv.get (i:=j) (x:= .ref t) (by rw [Af,hj];rfl);cases (show u=Value.ref t from ru);exact hu
 have pair:∀(j:Nat) t kv,ts[j]?=some t->kvs[j]?=some kv->∃ key v o m,(bR X.prog X.w).is kv.1 key=true/\RelV kv.2 v/\s.heap.get? t=some o/\o.cls = .type "tuple"/\o.data = .seq #[key,v] m:=λj t kv h1 h2=>by
  obtain⟨z2,dJ,gI,o,eo,co,m,dm⟩:=(show ax X.prog X.w H s.heap t (.tup [kV kv.1,kv.2]) from I.aA t _<|ht j t kv h1 h2);obtain⟨key,v,e3,r1,r2⟩:=gI.two;refine⟨key,v,o,m,mD r1,r2,eo,co,?_⟩;rw [dm,e3]
 obtain⟨rs,hk,hr⟩:=Nf hl pair;have DZ:=hk.length;have hP:DS (bR X.prog X.w) s.heap its rs:=by
  refine⟨by omega,λj it hj=>?_⟩;have qU:j < ts.length:=by have:=(Ac.mp hj).1;omega
  have Ng:ts[j]?=some ts[j]:=Ab qU;have e2:=o9 j _ Ng;rw [hj] at e2;obtain⟨key,k,v,o,m,q1,q2,q3,q4,q5⟩:=hr j _ Ng;exact⟨ts[j],key,k,v,o,m,Option.some.inj e2,q1,q2,q3,q4,q5⟩
 refine Xr (knd:=bR X.prog X.w) e rfl rfl rfl hP (by omega) (I.ok.hd hc) λh' tk kp D=>?_;have hlen:∀(l:List<|Key×V) (a:List<|Key×V),(l.foldl (λa p=>putK a p.1 p.2) a).length<=a.length+l.length:=by
  intro l
  induction l with
  | nil=>intro a;exact Ak _
  | cons p r ih=>
   intro a;rw [Db,Ao];have h1:=ih<|putK a p.1 p.2;have h2:=jh a p.1 p.2;omega
 have hb:=I.big;refine⟨.ref s.heap.objs.size,_,I.laid (t':=tk) kp (Ak _) (show ax X.prog X.w _ h' _ (.dK<|kvs.foldl (λa p=>putK a p.1 p.2) []) from⟨?_,?_,_,Xs (kvs:=kvs) (ps:=[]) (acc:=[]) .nil hk,D⟩),rfl,q _<|I.aA.fresh<|Ak _⟩
 ·have:=hlen kvs [];rw [Eb] at this;omega
 ·exact beq_eq_false_iff_ne.mpr<|Cw hb
end
section
variable{X:Cx}{pins:List (Addr×Obj)}{σ:St}{H:Hp}{s:Shared}{h':Heap}
theorem Inv.cE{t':Nat}{ch:List Addr}(I:Inv X pins σ H s)(hf:∀ b∈ch,ci X pins H b)(k:∀ b o,b∉ch->s.heap.get? b=some o->h'.get? b=some o):Inv X pins σ H {s with heap:=h',toks:=t'}:=by
 have rT:∀ b u,H b=some u->b∉ch:=λb u e z=>by rw [(hf b z).1] at e;cases e
 refine I.step (g':=s.gens) (d':=s.drawn) (ch:=ch) (λb hb=>?_) (λb o _ _ hc e _=>k b o hc e) (λb o _ _ hc e _=>⟨o.slots,k b o hc e⟩) (λ_ _ _ _ n=>n)
  (λb o hc e=>⟨o,k b o hc e⟩) (λ_ _ e=>e) (λ_ _ _ e=>e) (λb ps e=>⟨#[],by rw [e];simp⟩) (λm hm=>?_) (λb u e=>?_) I.bare
 ·obtain⟨f0,f1,f2,f3,f4,f5⟩:=hf b hb;exact⟨f3,f1,f4,f5⟩
 ·obtain⟨o,es,ep,ho,r⟩:=hm;exact⟨o,es,ep,k _ o (λz=>(hf _ z).2.1 rfl) ho,r⟩
 ·refine(I.aA b u e).fb (λc v hc q=>k c v ?_ q) (λ_ q=>q) λ_ _ q=>q
  rcases hc with z | z
  ·rw [z];exact rT b u e
  ·exact rT c _ z
def D0(K:PySem.W.Frag)(a b:Addr):It:=
  ⟨λi H => ∃ xs ys x y, al K H a xs ∧ al K H b ys ∧ xs[i]? = some x ∧ ys[i]? = some y,
   λi H v H'=>∃ T x y,H T=none/\v = .ref T/\H'=upd H T (.tup [x,y])/\(∀ xs,al K H a xs->xs[i]?=some x)/\∀ ys,al K H b ys->ys[i]?=some y,
   λi H=>∃ xs ys,al K H a xs/\al K H b ys/\(xs.length<=i\/ys.length<=i)⟩
def Nh(m a b:Addr)(i:Nat)(h:Heap):Prop:=
 IsZip h (m+4) (m+2) (m+3) .none/\IsPair h (m+2) (.ref m) (.ref<|m+1)/\(∃ x y,IsPair h (m+3) x y)/\h.IsListIter m a i/\h.IsListIter (m+1) b i
theorem Ni{h:Heap}{m a b:Addr}{i:Nat}{xs ys:Array Value}(z:Nh m a b i h)(ha:h.IsList a xs)(hb:h.IsList b ys):ZipApart (m+4) (m+2) (m+3) m (m+1) a b:=by
  obtain⟨z1,z2,⟨x,y,z3⟩,⟨o4,e4,c4,_⟩,⟨o5,e5,c5,_⟩⟩:=z;have cls:∀{l:Addr} {vs:Array Value} {c:Addr} {o:Obj},h.IsList l vs->h.get? c=some o->o.cls ≠ .type "list"->l≠c:=λhl hc hn e=>by
    obtain⟨ol,tF,mL,_⟩:=hl;rw [e,hc] at tF;cases tF;exact hn mL
  exact { TIz := by simp, TOz := by simp, i1z := by simp, i2z := by simp, TITO := by simp, TIi1 := by simp, TIi2 := by simp, TOi1 := by simp, TOi2 := by simp, i12 := by simp
          l1z:=cls ha z1 (by show Value.type "zip"≠Value.type "list";decide),l1TO:=cls ha z3 (by show Value.type "tuple"≠Value.type "list";decide),l1i1:=cls ha e4 (by rw [c4];decide),l1i2:=cls ha e5<|by rw [c5];decide
          l2z:=cls hb z1 (by show Value.type "zip"≠Value.type "list";decide),l2TO:=cls hb z3 (by show Value.type "tuple"≠Value.type "list";decide),l2i1:=cls hb e4 (by rw [c4];decide),l2i2:=cls hb e5 (by rw [c5];decide)}
theorem Xu{P:Program}{w:World}{K:PySem.W.Frag}{elts:List Expr}{k:Nat}{tp:Pos}(m a b:Addr):Turn P w K (.Tuple elts k tp) (D0 K a b) [m,m+1,m+2,m+3,m+4] (m+4) (Nh m a b) where
 mem:=by simp
 obj:=λi h st c hc=>by
  obtain⟨z1,z2,⟨x,y,z3⟩,⟨o4,e4,c4,d4⟩,⟨o5,e5,c5,d5⟩⟩:=st;simp only [Ai,Bt,FQ] at hc
  rcases hc with rfl | rfl | rfl | rfl | rfl
  ·exact⟨_,e4,λv z=>by rw [d4] at z;cases z⟩
  ·exact⟨_,e5,λv z=>by rw [d5] at z;cases z⟩
  ·exact⟨_,z2,λv z=>by cases z⟩
  ·exact⟨_,z3,λv z=>by cases z⟩
  ·exact⟨_,z1,λv z=>by cases z⟩
 keep:=λi h h' st kp=>by
  obtain⟨z1,z2,⟨x,y,z3⟩,⟨o4,e4,r4⟩,⟨o5,e5,r5⟩⟩:=st;exact⟨kp _ (by simp) _ z1,kp _ (by simp) _ z2,⟨x,y,kp _ (by simp) _ z3⟩,⟨o4,kp _ (by simp) _ e4,r4⟩,⟨o5,kp _ (by simp) _ e5,r5⟩⟩
 item:=by
  intro X hP hw hK hc i pins s σ H E I hf st hg;subst hP hw hK;obtain⟨xs,ys,x,y,gJ,xn,hx,hy⟩:=hg;obtain⟨tX,xo,p1,xq⟩:=I.list gJ;obtain⟨dJ,gI,p2,xr⟩:=I.list xn;obtain⟨u1,lN,Xv⟩:=xo.get hx;obtain⟨u2,D1,Xw⟩:=gI.get hy;have D:=Ni st p1.isList p2.isList;obtain⟨z1,z2,⟨x0,y0,z3⟩,z4,z5⟩:=id st;refine wpAny_pyNext_zip_item D z1 z2 z3 z4 z5 p1.isList p2.isList (x:=u1) (y:=u2) (by simpa using lN) (by simpa using D1) λh' a1 a2 a3 a4 a5 a6 kp=>?_;have hT:H s.heap.objs.size=none:=I.aA.fresh<|Ak _;have nT:∀ c∈[m,m+1,m+2,m+3,m+4],c≠s.heap.objs.size:=λc bO=>by
   have:∃ o,s.heap.get? c=some o:=by
    obtain⟨o4,e4,_⟩:=z4;obtain⟨o5,e5,_⟩:=z5;simp only [Ai,Bt,FQ] at bO
    rcases bO with rfl | rfl | rfl | rfl | rfl
    ·exact⟨_,e4⟩
    ·exact⟨_,e5⟩
    ·exact⟨_,z2⟩
    ·exact⟨_,z3⟩
    ·exact⟨_,z1⟩
   obtain⟨o,e⟩:=this;exact Bp<|As e
  have I1:Inv X pins σ (upd H s.heap.objs.size<|.tup [x,y]) {s with heap:=s.heap.push {cls:= .type "tuple",data:= .seq #[u1,u2]}}:=
   I.laid (t':=s.toks) (λb o e=>Ah _ e) (Ak _) (show ax X.prog X.w _ _ _ (.tup [x,y]) from⟨Z2,[u1,u2],.cons Xv<|.cons Xw .nil,⟨_,Ar _ rfl,rfl,_,rfl⟩⟩)
  have f1:∀ c∈[m,m+1,m+2,m+3,m+4],ci X pins (upd H s.heap.objs.size<|.tup [x,y]) c:=λc bO=>⟨by rw [aq<|nT c bO];exact(hf c bO).1,(hf c bO).2⟩;have tJ:∀ c o,c∉[m,m+1,m+2,m+3,m+4]->(s.heap.push {cls:= .type "tuple",data:= .seq #[u1,u2]}).get? c=some o->h'.get? c=some o:=λc o bO e=>by
   rcases Heap.get?_push_cases e with ⟨ec,eo⟩ | e'
   ·rw [ec,eo];exact a5
   ·simp only [Ai,Bt,FQ,not_or] at bO;exact kp c o bO.2.2.2.2 bO.2.2.2.1 bO.1 bO.2.1 e'
  have I2:=Inv.cE (h':=h') (t':=s.toks) I1 f1 tJ;refine⟨_,rfl,wpAny_letOwnedTupleGo_zip (s:={s with heap:=h'}) a1 λh2 b1 sb=>?_⟩;have Xx:IsPair h' (m+2) (.ref m) (.ref<|m+1):=kp _ _ (by simp) (by simp) (by simp) (by simp) z2;have Xy:∀ c o,c∉[m+4]->h'.get? c=some o->h2.get? c=some o:=λc o bO e=>(sb.2 c<|by simpa using bO).trans e;have I3:=Inv.cE (h':=h2) (t':=s.toks) I2 (ch:=[m+4]) (λc bO=>f1 c<|by simp at bO;simp [bO]) Xy;refine⟨.ref s.heap.objs.size,_,I3,rfl,⟨_,x,y,hT,rfl,rfl,λzs hz=>by rw [I.dH hz gJ];exact hx,λzs hz=>by rw [I.dH hz xn];exact hy⟩,?_,λc bO=>(f1 c bO).1⟩;have sx:∀ c o,c≠m+4->h'.get? c=some o->h2.get? c=some o:=λc o bO e=>(sb.2 c bO).trans e;obtain⟨o3,e3,r3⟩:=a3;obtain⟨o4,e4,r4⟩:=a4;exact⟨b1,sx _ _ (by simp) Xx,⟨u1,u2,sx _ _ (by simp) a2⟩,⟨o3,sx _ _ (by simp) e3,r3⟩,⟨o4,sx _ _ (by simp) e4,r4⟩⟩
 done:=by
  intro X hP hw hK hc i pins s σ H E I hf st hg;subst hP hw hK;obtain⟨xs,ys,gJ,xn,D4⟩:=hg;obtain⟨tX,xo,p1,xq⟩:=I.list gJ;obtain⟨dJ,gI,p2,xr⟩:=I.list xn;have l1:=xo.length;have l2:=gI.length;have D:=Ni st p1.isList p2.isList;obtain⟨z1,z2,⟨x0,y0,z3⟩,z4,z5⟩:=id st;refine wpAny_pyNext_zip_end (I.ok.hd hc) D z1 z2 z3 z4 z5 p1.isList p2.isList ?_ λh' kp=>⟨rfl,I.cE (t':=s.toks) (ch:=[m,m+1,m+2,m+3,m+4]) hf λc o bO e=>?_⟩
  ·rcases D4 with h | h
   ·exact .inl<|by simp;omega
   ·exact .inr<|by simp;omega
  ·simp only [Ai,Bt,FQ,not_or] at bO;exact kp c o bO.2.2.2.2 bO.2.2.2.1 bO.1 bO.2.1 e
 self:=λ_ _ _ _ _ st h=>wpAny_pyIter_zip st.1 h
end
section
variable{X:Cx}
def D5(K:PySem.W.Frag)(ta:TA):TI:=λσ H R=>ta σ H λvs H1=>∃ a b,vs=[.ref a,.ref b]/\(∃ xs,al K H1 a xs)/\(∃ ys,al K H1 b ys)/\R (D0 K a b) H1
theorem Xz{elts:List Expr}{k:Nat}{tp:Pos}{a b:Expr}{ta:TA}{p pos:Pos}(hg:Gl X "zip")(hm:X.mg "zip" = none)(ha:PA X [a,b] ta)(hs:starEach [a,b] X.env=[(false,eval a X.env),(false,eval b X.env)]:=by rfl)(mW:starEach [b] X.env=[(false,eval b X.env)]:=by rfl) :
  PI X (.Tuple elts k tp) (.Call (.Name "zip" p) [a,b] [] pos) (D5 X.K ta):=by
 intro pins s σ H R I h;refine Call_ (nL I hg hm boot_zip<|JT (aE (ha pos pins s σ H _ I h) λus s1 ⟨vs,H1,I1,r1,q1⟩=>?_) (by rw [hs,mW])<|by rw [mW];rfl);obtain⟨x,y,e,⟨xs,hx⟩,⟨ys,hy⟩,q⟩:=q1;subst e;obtain⟨u,v,rfl,ru,rv⟩:=r1.two;cases (show u=Value.ref x from ru);cases (show v=Value.ref y from rv);obtain⟨tX,xo,p1,xq⟩:=I1.list hx;obtain⟨dJ,gI,p2,xr⟩:=I1.list hy;refine call_zip_2 p1.isList p2.isList λh' a1 a2 a3 a4 a5 a6 kp=>?_;refine wpAny_pyIter_zip (s:={s1 with heap:=h'}) a1 ?_;refine⟨s1.heap.objs.size+4,[s1.heap.objs.size,s1.heap.objs.size+1,s1.heap.objs.size+2,s1.heap.objs.size+3,s1.heap.objs.size+4],_,_,H1,rfl,I1.kept (t':=s1.toks) kp,Xu s1.heap.objs.size x y,⟨a1,a2,⟨_,_,a3⟩,a4,a5⟩,λb hb=>?_,q⟩;have hle:s1.heap.objs.size<=b:=by
  simp only [Ai,Bt,FQ] at hb
  rcases hb with rfl | rfl | rfl | rfl | rfl <;> omega
 exact I1.iP hle<|I1.aA.fresh hle
end
def qV(elt t1 i1:Expr)(f1:List Expr)(t2 i2:Expr)(f2:List Expr)(scope:Scope)(pos:Pos)(acc:Value)(env:Env):Sem Unit:=do
 let x <- eval i2 env
 standAt i2.pos
 let x <- foldedSetIterable i2 env x
 let _ <- runOwn (.compStart (.ListComp elt [⟨t1,i1,f1,0⟩,⟨t2,i2,f2,0⟩] scope pos) 1 (<- holding [x]<|pyIter x) acc env) env
section
variable{X:Cx}{elt t1 i1 t2 i2:Expr}{f1 f2:List Expr}{scope:Scope}{pos:Pos}{σ:St}{H:Hp}{acc:Value}{env:Env}
theorem XA:Clause (.ListComp elt [⟨t1,i1,f1,0⟩,⟨t2,i2,f2,0⟩] scope pos) 0 t1 i1 f1 acc env (qV elt t1 i1 f1 t2 i2 f2 scope pos acc env):=⟨rfl,λ_=>rfl,λ_ _ _=>rfl,λ_ _=>rfl,λ_ _ _=>rfl,λ_ _=>rfl,λit=>by
 unfold qV;simp only [bind_assoc,pure_bind];rfl⟩
theorem XB:Clause (.ListComp elt [⟨t1,i1,f1,0⟩,⟨t2,i2,f2,0⟩] scope pos) 1 t2 i2 f2 acc env (emit elt acc env):=⟨rfl,λ_=>rfl,λ_ _ _=>rfl,λ_ _=>rfl,λ_ _ _=>rfl,λ_ _=>rfl,λ_=>rfl⟩
theorem Nj{wi:TI}{Q:St->Hp->Prop}(oH:X.xe=λ_ _=>False)(hc:X.calm=true)(hi:PI X t2 i2 wi)(h:wi σ H λJ H1=>jF X t2 f2 (emit elt acc X.env) J Q σ H1)
  (hs:∀ x,foldedSetIterable i2 X.env x=pure x:=by intro _;rfl):mJ X (qV elt t1 i1 f1 t2 i2 f2 scope pos acc X.env) σ H Q:=by
 refine⟨λpins s I=>?_⟩;unfold qV;refine BJ<|aE (hi pins s σ H _ I h) λx s1 h1=>?_;refine BJ<|FJ<|BJ<|JM (hs x)<|BJ<|CK<|CW h1 (λkP s2 h2=>?_) λ_ _ e=>e;obtain⟨it,fp,tn,J,H2,e,I2,T,eV,lP,q⟩:=h2;subst e;refine BJ<|wpAny_runOwn (Q:=λ_ s'=>wpAny (model X.prog X.w) X.A (pure ()) (λ_ s'=>∃ σ' H',Inv X pins σ' H' s'/\Q σ' H') X.xe s') ?_;exact A3 oH hc XB I2 T eV lP q λσ' H' s' I' q'=>BL ⟨σ',H',I',q'⟩
theorem Nk{wi:TI}{Q:VK}(sc:Scope)(N N':List Str)(n:Nat)(hi:PI X t1 i1 wi)
  (h:wi σ H λJ H1=>∀ D,H1 D=none->∀ cl C s₀ H₀ ex,jF (gH X N' scope cl C s₀ H₀ ex) t1 f1 (qV elt t1 i1 f1 t2 i2 f2 scope pos (.ref D)<|compEnvC scope cl C X.env) J (λ_ H'=>Q (.ref D) H') (σ++List.replicate n none)<|upd H1 D<|.lst [])
  (hc:X.calm=true:=by rfl) (lj:X.env.scope=sc:=by rfl) (hN:X.N=N:=by rfl) (hk:oE sc scope N N'=true:=by decide +kernel) (hl:N'.length=N.length+n:=by rfl)
  (hs:∀ x,foldedSetIterable i1 X.env x=pure x:=by intro _;rfl):Ev X (.ListComp elt [⟨t1,i1,f1,0⟩,⟨t2,i2,f2,0⟩] scope pos) σ H Q:=by
 refine⟨λpins s I=>?_⟩;subst lj hN;have ck:=bS.of hk;rw [eval_ListComp];refine GR (use:=none) rfl hs (sS λx hx hf=>I.ok.has x.1<|ck.free x hx hf) ck.kind ck.names (aE (hi pins s σ H _ I h) λv s1 h1=>aE h1 λkP s2 h2=>?_);obtain⟨it,fp,tn,J,H2,e,I2,T,eV,lP,q⟩:=h2;subst e;refine wC (e:= .ListComp elt [⟨t1,i1,f1,0⟩,⟨t2,i2,f2,0⟩] scope pos) (newAcc:=newList []) (o0:={cls:= .type "list",dict:=none,data:= .seq ([]:List Value).toArray}) (u0:=λ_=> .lst []) (λ_ _ _ h=>DR h<|by show(0:Nat)<=sizeLine;exact Bv _) (λ_ _ _=>⟨Bv _,[],0,.nil,Ar _ rfl⟩) (Q:=Q) (RR:=λacc C=>compPost (model X.prog X.w) X.A X.xe none (EP X pins σ Q) acc C) hc ck hl (inner:=qV elt t1 i1 f1 t2 i2 f2 scope pos) (λ_ _=>XA) I2 T eV lP q ?_;intro D C H' s' m IX hn hC c1 c2 c3 c4 qq;exact⟨m,hn,λh' gR=>⟨.ref D,H',IX.turned (t':=s'.toks) (λb o hb e=>gR.extBut b o hb e) hC (CJ<|CJ c1) (.inr c2) c3 c4,rfl,qq⟩⟩
end
section
variable{X:Cx}{pins:List (Addr×Obj)}{σ:St}{H:Hp}{s:Shared}{a:Addr}{y v:V}{u r:Value}{A:Around}{E:Value->Shared->Prop}
theorem Nm{H':Hp}{Q:Unit->Shared->Prop}(hu:A.units+1 < cLine)(I:Inv X pins σ H s)(g:cw H a y v H')(ry:RelV y u)(rv:RelV v r)(h:∀ s',Inv X pins σ H' s'->Q () s') :
  wpAny (model X.prog X.w) A (dictSet a u r) Q E s:=by
 rcases g with ⟨kvs,k,e,ey,l,eH⟩ | ⟨kvs,k,b,e,ey,eb,l,eH⟩
 ·subst ey eH;obtain⟨z,hd,vs,rel,dd⟩:=zW I.aA e;have hz:vs.length<=sizeLine:=by rw [<- rel.length];exact z
  have hl:(putK kvs k v).length<=sizeLine:=by have:=jh kvs k v;omega
  refine wpAny_dictSet_pairs (hsz:=hz) (mD ry) dd λh' gQ hs=>h _ ?_;have he:∃ q,h'.get? a=some q:=let ⟨q,_,_,hq,_⟩:=gQ;⟨q,hq⟩
  exact kZ I (by rw [e];exact True.intro) hs he<|zY hl hd (rel.put k rv) gQ
 ·subst ey eH;cases (show u=Value.ref b from ry);obtain⟨z,hd,xs,rel,dd⟩:=K7 I.aA e;have hz:xs.length<=sizeLine:=by rw [<- Paired.length rel];exact z
  have hl:(putK kvs k v).length<=sizeLine:=by have:=jh kvs k v;omega
  have room:(tupleKind<|bR X.prog X.w).room A:=by first | exact hu | exact QV hu | exact Gb (Fc _) hu
  refine wpAny_dictSet_heap (hsz:=hz) room (ka I.aA eb) dd λh' gQ hs=>h _ ?_;obtain⟨q,es,ep,hq,h2,h3,h4,_,h5⟩:=gQ;refine kZ I (by rw [e];exact True.intro) hs ⟨q,hq⟩ ⟨hl,hd,_,(rel.put k eb rv).keeps λc ys ec=>?_,q,es,ep,hq,h2,h3,h4,h5⟩;rw [aq<|bN ec e λz=>nomatch z];exact ec
end
def qW(k v:Expr)(acc:Value)(env:Env):Sem Unit:=do
 let kv <- eval k env
 let vv <- holding [kv]<|eval v env
 match acc with
 | .ref d=>do
  standAt {k.pos with endLine:=v.pos.endLine,endCol:=v.pos.endCol}
  holding [kv,vv] (dictSet d kv vv)
 | _=>unsupported "internal:dictcomp"
section
variable{X:Cx}{k v t1 i1 t2 i2:Expr}{f1 f2:List Expr}{scope:Scope}{pos:Pos}{σ:St}{H:Hp}{acc:Value}{env:Env}
theorem XD:Clause (.DictComp k v [⟨t1,i1,f1,0⟩] scope pos) 0 t1 i1 f1 acc env (qW k v acc env):=⟨rfl,λ_=>rfl,λ_ _ _=>rfl,λ_ _=>rfl,λ_ _ _=>rfl,λ_ _=>rfl,λit=>by
 unfold qW;cases acc <;> first | rfl | (simp only [bind_assoc,pure_bind];rfl)⟩
theorem XE{D:Addr}{Q:St->Hp->Prop}(hu:X.A.units+1 < cLine)(h:Ev X k σ H λy H1=>Ev X v σ H1 λx H2=>∃ H3,cw H2 D y x H3/\Q σ H3):mJ X (qW k v (.ref D) X.env) σ H Q:=by
 refine⟨λpins s I=>?_⟩;unfold qW;refine BJ<|aE (h.run pins s I) λkv s1 ⟨y,H1,I1,r1,h1⟩=>?_;refine BJ<|CK<|aE (h1.run pins s1 I1) λvv s2 ⟨x,H2,I2,r2,H3,dp,q⟩=>?_;show wpAny _ _ (standAt _ >>= λ_=>holding [kv,vv]<|dictSet D kv vv) _ _ _;exact BJ<|FJ<|CK<|Nm hu I2 dp r1 r2 λs' I'=>⟨σ,H3,I',q⟩
theorem XG{wi:TI}{Q:VK}(sc:Scope)(N N':List Str)(n:Nat)(hi:PI X t1 i1 wi)
  (h:wi σ H λJ H1=>∀ D,H1 D=none->∀ cl C s₀ H₀ ex,jF (gH X N' scope cl C s₀ H₀ ex) t1 f1 (qW k v (.ref D)<|compEnvC scope cl C X.env) J (λ_ H'=>Q (.ref D) H') (σ++List.replicate n none)<|upd H1 D<|.dT [])
  (hc:X.calm=true:=by rfl) (lj:X.env.scope=sc:=by rfl) (hN:X.N=N:=by rfl) (hk:oE sc scope N N'=true:=by decide +kernel) (hl:N'.length=N.length+n:=by rfl)
  (hs:∀ x,foldedSetIterable i1 X.env x=pure x:=by intro _;rfl):Ev X (.DictComp k v [⟨t1,i1,f1,0⟩] scope pos) σ H Q:=by
 refine⟨λpins s I=>?_⟩;subst lj hN;have ck:=bS.of hk;show wpAny _ _ (comprehension (.DictComp k v [⟨t1,i1,f1,0⟩] scope pos) scope X.env (firstIterPos [⟨t1,i1,f1,0⟩] pos) newDict (firstAsync [⟨t1,i1,f1,0⟩])<|firstIter [⟨t1,i1,f1,0⟩] X.env) _ _ _;refine GR (use:=none) rfl hs (sS λx hx hf=>I.ok.has x.1<|ck.free x hx hf) ck.kind ck.names (aE (hi pins s σ H _ I h) λxv s1 h1=>aE h1 λkP s2 h2=>?_);obtain⟨it,fp,tn,J,H2,e,I2,T,eV,lP,q⟩:=h2;subst e;refine wC (e:= .DictComp k v [⟨t1,i1,f1,0⟩] scope pos) (newAcc:=newDict) (o0:={cls:= .type "dict",data:= .dict #[]}) (u0:=λ_=> .dT []) (λ_ _ _ h=>DR h) (λ_ h hb=>K8 h hb) (Q:=Q) (RR:=λacc C=>compPost (model X.prog X.w) X.A X.xe none (EP X pins σ Q) acc C) hc ck hl (inner:=qW k v) (λ_ _=>XD) I2 T eV lP q ?_;intro D C H' s' m IX hn hC c1 c2 c3 c4 qq;exact⟨m,hn,λh' gR=>⟨.ref D,H',IX.turned (t':=s'.toks) (λb o hb e=>gR.extBut b o hb e) hC (CJ<|CJ c1) (.inr c2) c3 c4,rfl,qq⟩⟩
end
open bT
theorem XH{prog:Program}{w:World}{A:Around}{E:Value->Shared->Prop}{s:Shared}{a:Addr}{zs:List Str}{z:Str}{tk:Tok}{Q:Value->Shared->Prop}(S:aY prog w s.heap a zs)(hb:zs.length+1 < 1000)
  (h:∀ h',Heap.SameBut a s.heap h'->aY prog w h' a (added zs z)->Q .none {s with heap:=h',toks:=s.toks+1}) :
  wpAny (model prog w) A (call (.builtin "set.add") [.ref a,.str z tk]) Q E s:=by
 have hT:s.TypeIs (.ref a) "set":=let ⟨o,_,_,_,ho,hx,_⟩:=S;⟨o,ho,hx.1⟩
 refine DQ F.slot_set_add hT F.entry_set_add ?_<|F.args_set_add_2 _ _;unfold Builtin.«set.add» Builtin.Frozenset.oneOther;simp only [Gk,bind_assoc];unfold Builtin.Frozenset.addrOf setAdd;refine BJ<|BL ?_
 try dsimp only
 refine BJ<|BL ?_
 try dsimp only
 refine BJ ?_;refine CK ?_;refine BJ ((PySem.strKind prog w).pyHash (k:=z) (v:= .str z tk) (by simp [PySem.strKind,Value.isStrOf]) ?_);refine Mb (s:={s with toks:=s.toks+1}) S hb λb h' sb S'=>?_;show wpAny _ _ (ret Value.none) _ _ _;exact BL ⟨_,rfl,h h' sb S'⟩
theorem XI{prog:Program}{w:World}{A:Around}{E:Value->Shared->Prop}{s:Shared}{Q:Value->Shared->Prop}(k:Q (.ref s.heap.objs.size) {s with heap:=s.heap.push (fG w)}):wpAny (model prog w) A (newSet<|.type "set") Q E s:=by
 unfold newSet;refine BJ<|wp_text ?_
 dsimp only
 simp only [newObj];exact BJ<|RX<|BL k
def tY(elt:Expr)(acc:Value)(env:Env):Sem Unit:=do let v <- eval elt env;standAt elt.pos;let _ <- call (.builtin "set.add") [acc,v]
def qX(elt t1 i1:Expr)(f1:List Expr)(t2 i2:Expr)(f2:List Expr)(scope:Scope)(pos:Pos)(acc:Value)(env:Env):Sem Unit:=do
 let x <- eval i2 env
 standAt i2.pos
 let x <- foldedSetIterable i2 env x
 let _ <- runOwn (.compStart (.SetComp elt [⟨t1,i1,f1,0⟩,⟨t2,i2,f2,0⟩] scope pos) 1 (<- holding [x]<|pyIter x) acc env) env
section
variable{X:Cx}{elt t1 i1 t2 i2:Expr}{f1 f2:List Expr}{scope:Scope}{pos:Pos}{σ:St}{H:Hp}{acc:Value}{env:Env}
theorem XJ:Clause (.SetComp elt [⟨t1,i1,f1,0⟩,⟨t2,i2,f2,0⟩] scope pos) 0 t1 i1 f1 acc env (qX elt t1 i1 f1 t2 i2 f2 scope pos acc env):=⟨rfl,λ_=>rfl,λ_ _ _=>rfl,λ_ _=>rfl,λ_ _ _=>rfl,λ_ _=>rfl,λit=>by
 unfold qX;simp only [bind_assoc,pure_bind];rfl⟩
theorem XM:Clause (.SetComp elt [⟨t1,i1,f1,0⟩,⟨t2,i2,f2,0⟩] scope pos) 1 t2 i2 f2 acc env (tY elt acc env):=⟨rfl,λ_=>rfl,λ_ _ _=>rfl,λ_ _=>rfl,λ_ _ _=>rfl,λ_ _=>rfl,λit=>by
 unfold tY
 first | rfl | (simp only [bind_assoc,pure_bind];rfl)⟩
theorem XN{D:Addr}{Q:St->Hp->Prop} (h:Ev X elt σ H λv H1=>∃ z zs,v = .str z/\H1 D=some (de X.prog X.w D zs)/\zs.length+1 < 1000/\Q σ (upd H1 D<|de X.prog X.w D<|added zs z)):mJ X (tY elt (.ref D) X.env) σ H Q:=by
 refine⟨λpins s I=>?_⟩;unfold tY;refine BJ<|aE (h.run pins s I) λv s1 ⟨x,H1,I1,r1,z,zs,e,hD,hl,q⟩=>?_;subst e;obtain⟨tk,rfl⟩:=r1;refine BJ (FJ<|BJ<|XH (I1.set hD) hl λh' sb S'=>BL ⟨σ,_,kZ (t':=s1.toks+1) I1 (by rw [hD];exact True.intro) sb ?_<|B1 S',q⟩);obtain⟨o,_,_,_,ho,_⟩:=S';exact⟨o,ho⟩
theorem XQ{wi:TI}{Q:St->Hp->Prop}(oH:X.xe=λ_ _=>False)(hc:X.calm=true)(hi:PI X t2 i2 wi)(h:wi σ H λJ H1=>jF X t2 f2 (tY elt acc X.env) J Q σ H1)
  (hs:∀ x,foldedSetIterable i2 X.env x=pure x:=by intro _;rfl):mJ X (qX elt t1 i1 f1 t2 i2 f2 scope pos acc X.env) σ H Q:=by
 refine⟨λpins s I=>?_⟩;unfold qX;refine BJ<|aE (hi pins s σ H _ I h) λx s1 h1=>?_;refine BJ<|FJ<|BJ<|JM (hs x)<|BJ<|CK<|CW h1 (λkP s2 h2=>?_) λ_ _ e=>e;obtain⟨it,fp,tn,J,H2,e,I2,T,eV,lP,q⟩:=h2;subst e;refine BJ<|wpAny_runOwn (Q:=λ_ s'=>wpAny (model X.prog X.w) X.A (pure ()) (λ_ s'=>∃ σ' H',Inv X pins σ' H' s'/\Q σ' H') X.xe s') ?_;exact A3 oH hc XM I2 T eV lP q λσ' H' s' I' q'=>BL ⟨σ',H',I',q'⟩
theorem XR{wi:TI}{Q:VK}(sc:Scope)(N N':List Str)(n:Nat)(hi:PI X t1 i1 wi)
  (h:wi σ H λJ H1=>∀ D,H1 D=none->∀ cl C s₀ H₀ ex,jF (gH X N' scope cl C s₀ H₀ ex) t1 f1 (qX elt t1 i1 f1 t2 i2 f2 scope pos (.ref D)<|compEnvC scope cl C X.env) J (λ_ H'=>Q (.ref D) H') (σ++List.replicate n none)<|upd H1 D<|de X.prog X.w D [])
  (hc:X.calm=true:=by rfl) (lj:X.env.scope=sc:=by rfl) (hN:X.N=N:=by rfl) (hk:oE sc scope N N'=true:=by decide +kernel) (hl:N'.length=N.length+n:=by rfl)
  (hs:∀ x,foldedSetIterable i1 X.env x=pure x:=by intro _;rfl):Ev X (.SetComp elt [⟨t1,i1,f1,0⟩,⟨t2,i2,f2,0⟩] scope pos) σ H Q:=by
 refine⟨λpins s I=>?_⟩;subst lj hN;have ck:=bS.of hk;show wpAny _ _ (comprehension (.SetComp elt [⟨t1,i1,f1,0⟩,⟨t2,i2,f2,0⟩] scope pos) scope X.env (firstIterPos [⟨t1,i1,f1,0⟩,⟨t2,i2,f2,0⟩] pos) (newSet<|.type "set") (firstAsync [⟨t1,i1,f1,0⟩,⟨t2,i2,f2,0⟩])<|firstIter [⟨t1,i1,f1,0⟩,⟨t2,i2,f2,0⟩] X.env) _ _ _;refine GR (use:=none) rfl hs (sS λx hx hf=>I.ok.has x.1<|ck.free x hx hf) ck.kind ck.names (aE (hi pins s σ H _ I h) λxv s1 h1=>aE h1 λkP s2 h2=>?_);obtain⟨it,fp,tn,J,H2,e,I2,T,eV,lP,q⟩:=h2;subst e;refine wC (e:= .SetComp elt [⟨t1,i1,f1,0⟩,⟨t2,i2,f2,0⟩] scope pos) (newAcc:=newSet<|.type "set") (o0:=fG X.w) (u0:=λD=>de X.prog X.w D []) (λ_ _ _ h=>XI h) (λ_ h _=>B1<|Mi<|Ar _ rfl) (Q:=Q) (RR:=λacc C=>compPost (model X.prog X.w) X.A X.xe none (EP X pins σ Q) acc C) hc ck hl (inner:=qX elt t1 i1 f1 t2 i2 f2 scope pos) (λ_ _=>XJ) I2 T eV lP q ?_;intro D C H' s' m IX hn hC c1 c2 c3 c4 qq;exact⟨m,hn,λh' gR=>⟨.ref D,H',IX.turned (t':=s'.toks) (λb o hb e=>gR.extBut b o hb e) hC (CJ<|CJ c1) (.inr c2) c3 c4,rfl,qq⟩⟩
end
end L2
namespace L2
open PySem PySem.Builtin PySem.Builtin.Str
section
variable{X:Cx}{σ:St}{H:Hp}{Q:VK}
end
end L2
namespace PySem
def Plain(h:Heap)(d:Addr)(es:Array DictEntry)(ep:Nat):Prop:=∃ o,h.get? d=some o/\o.ExactDict/\o.data = .dict es ep
section
variable{P:Program}{w:World}{A:Around}{E:Value->Shared->Prop}{s:Shared}
theorem XS(d:Addr)(hd:(d == sysModules)=false):MeetsIn P w (Builtin.«dict.items» ⟨[.ref d],[]⟩) (λ_ R u=>u.TypeIs (.ref d) "dict" /\
  R (.ok<|.ret<|.ref u.heap.objs.size) {u with heap:=u.heap.push {cls:= .type "dict_items",data:= .fields #[.ref d]}}):=by
 refine .of_wp λB R u ⟨hT,k⟩=>?_;unfold Builtin.«dict.items» Builtin.Dict.noArgs;refine BJ<|BJ<|wpAny_notOrdered_dict hT ?_;show wpAny _ _ (pure d) _ _ u;refine BL ?_;show wpAny _ _ (Builtin.Dict.showsAll d >>= _) _ _ u;unfold Builtin.Dict.showsAll;rw [BK<|by rw [hd];exact At];exact BJ<|BL<|BJ<|DR<|BL ⟨_,rfl,k⟩
theorem XT{v d:Addr}{es:Array DictEntry}{ep:Nat}{Q:Value->Shared->Prop}(hv:s.heap.IsItemsView v d)(hm:Plain s.heap d es ep)
  (k:Q (.ref s.heap.objs.size) {s with heap:=s.heap.push {cls:= .type "dict_itemiterator",data:= .fields #[.none,.bool false,.ref d,.int 0 0,.int es.size 0,.int ep 0,.none,.none]}}) :
  wpAny (model P w) A (pyIter<|.ref v) Q E s:=by
 obtain⟨vo,e1,e2,e3⟩:=id hv;obtain⟨o,f1,f2,f3⟩:=hm;refine LK hv.typeIs F.slot_dict_items_iter<|DQ F.slot_dict_items_iter hv.typeIs F.entry_dict_items_iter ?_<|F.args_dict_items_iter_1 _;unfold Builtin.«dict_items.__iter__» Builtin.Dict_items.dictOf Builtin.Dict_items.newIterator;refine BJ<|BL<|BJ<|BJ<|HX e1 e3 (x:= .ref d) rfl (BL ?_);refine BJ<|BJ<|QW f1 f3<|BJ<|RW f1 f3 ?_;have ow:Builtin.Dict_items.ownsTuple "dict_itemiterator" = true:=by decide
 simp only [ow,DP];refine DR (BL ⟨_,rfl,"dict_itemiterator",_,⟨_,Ar _ rfl,rfl⟩,F.slot_dict_itemiterator_next.lookup,?_⟩) ?_
 ·simpa [rawInt,Builtin.Dict_items.ownedTupleFields] using k
 ·simp only [sizeOk,Builtin.Dict_items.ownedTupleFields,Au,Ae,Ao,Eb,EY];omega
theorem XU{it d:Addr}{i ep:Nat}{es:Array DictEntry}{en:DictEntry}{y z:Value}{Q:Option Value->Shared->Prop}(hit:IsItemIter s.heap it d i es.size ep y z)(hm:Plain s.heap d es ep)(hx:es[i]?=some en)
  (k : ∀ h', IsItemIterOut h' it d (i + 1) es.size ep en.key en.val s.heap.objs.size → h'.get? s.heap.objs.size = some { cls := .type "tuple", data := .seq #[en.key, en.val] } →
   (∀ b o,b≠it->s.heap.get? b=some o->h'.get? b=some o)->Q (some<|.ref s.heap.objs.size) {s with heap:=h'}):wpAny (model P w) A (pyNext<|.ref it) Q E s:=by
 obtain⟨hp,g,dr,tk,os⟩:=s;obtain⟨o,f1,f2,f3⟩:=hm;have ty:Shared.TypeIs ⟨hp,g,dr,tk,os⟩ (.ref it) "dict_itemiterator":=⟨_,hit,rfl⟩;have lt:i < es.size:=by
  rcases Cy i es.size with h | h
  ·exact h
  ·rw [Dg h] at hx;cases hx
 have ow:Builtin.Dict_items.ownsTuple "dict_itemiterator" = true:=by decide
 unfold pyNext;refine BJ<|JF<|IV (name:=Str.ofString "__next__") ty GZ<|DQ GZ ty PX ?_<|OJ _;refine BJ<|BL<|BJ<|BJ ?_
 first | refine BJ (GX ty<|BL ?_) | refine BJ<|HW ty<|BL ?_
 refine BJ<|QD hit rfl ?_;simp only [ow,DP];show wpAny _ _ (if(Value.ref d == Value.none)=true then _ else _) _ _ _;rw [BK (show ¬((Value.ref d == Value.none)=true) from At)];refine BJ<|BL<|BJ<|QW f1 f3 ?_;rw [BK<|by simp];refine BJ<|BL<|BJ<|RW f1 f3 ?_;rw [BK<|by simp];refine BL ?_;have ee:es[i]=en:=Option.some.inj<|(Bz lt).symm.trans hx;simp only [show ¬((i:Int) < 0) from by omega,CQ,Az,hx];refine BJ ?_
 first | refine BJ (GX ty<|BL ?_) | refine BJ<|HW ty<|BL ?_
 refine BJ<|LR ty ?_;show wpAny _ _ (setField (.ref it) 3 (rawInt<|(i:Int)+1) >>= _) _ _ ⟨hp,g,dr,tk,os⟩;refine BJ (JK hit (by simp) λha ea sa=>?_);replace sa:Heap.SameBut it hp ha:=sa;replace ea:IsItemIter ha it d (i+1) es.size ep y z:=by
  have e:((i+1:Nat):Int)=(i:Int)+1:=by omega
  unfold IsItemIter;rw [e]
  simpa [rawInt] using ea
 have Nn:Shared.TypeIs ⟨ha,g,dr,tk,os⟩ (.ref it) "dict_itemiterator":=⟨_,ea,rfl⟩;refine BJ<|CK<|BJ<|LR Nn<|BJ<|LR Nn ?_;show wpAny _ _ (Builtin.Dict_items.pairFromOwner (.ref it) 6 en.key en.val) _ _ ⟨ha,g,dr,tk,os⟩;unfold Builtin.Dict_items.pairFromOwner Builtin.Dict_items.ownedTupleIsFree;refine BJ<|QF ?_;have eb:IsItemIter (ha.push {cls:= .type "tuple",data:= .seq #[en.key,en.val]}) it d (i+1) es.size ep y z:=Ah _ ea;have za:ha.objs.size=hp.objs.size:=sa.1;have il:it < hp.objs.size:=As hit;have tb:(ha.push {cls:= .type "tuple",data:= .seq #[en.key,en.val]}).get? hp.objs.size=some {cls:= .type "tuple",data:= .seq #[en.key,en.val]}:=by rw [<- za];exact Ar _ rfl
 have kb:∀ b u,b≠it->hp.get? b=some u->(ha.push {cls:= .type "tuple",data:= .seq #[en.key,en.val]}).get? b=some u:=λb u hb e=>Ah _<|sa.extBut b u hb e;rw [za];generalize ha.push {cls:= .type "tuple",data:= .seq #[en.key,en.val]}=hb at eb tb kb;refine BJ<|BJ<|HX (s:=⟨hb,g,dr,tk,os⟩) eb rfl (x:= .none) rfl (BL ?_);simp only [DP];refine BJ<|HX (s:=⟨hb,g,dr,tk,os⟩) eb rfl (x:=y) rfl (BJ<|HX (s:=⟨hb,g,dr,tk,os⟩) eb rfl (x:=z) rfl ?_);refine BJ (JK eb (by simp) λh3 e3 s3=>?_);replace s3:Heap.SameBut it hb h3:=s3;replace e3:IsItemIter h3 it d (i+1) es.size ep en.key z:=e3;refine BJ (JK e3 (by simp) λh4 e4 s4=>?_);replace s4:Heap.SameBut it h3 h4:=s4;replace e4:IsItemIter h4 it d (i+1) es.size ep en.key en.val:=e4;refine BJ (JK e4 (by simp) λh5 e5 s5=>?_);replace s5:Heap.SameBut it h4 h5:=s5;replace e5:IsItemIterOut h5 it d (i+1) es.size ep en.key en.val hp.objs.size:=e5;refine BJ (JK e5 (by simp) λh6 e6 s6=>?_);replace s6:Heap.SameBut it h5 h6:=s6;replace e6:IsItemIterOut h6 it d (i+1) es.size ep en.key en.val hp.objs.size:=e6;have all:=((s3.trans s4).trans s5).trans s6;exact BJ<|wpAny_letGo<|BL<|BL ⟨_,rfl,BL<|k h6 e6 (all.extBut _ _ (Cw il) tb) λb u qY e=>all.extBut b u qY<|kb b u qY e⟩
theorem XW{it d:Addr}{i ep:Nat}{es:Array DictEntry}{y z:Value}{Q:Option Value->Shared->Prop}(hh:A.handled=none)(hit:IsItemIter s.heap it d i es.size ep y z)(hm:Plain s.heap d es ep)(hx:es.size<=i)
  (k:∀ h',Heap.ExtBut it s.heap h'->Q none {s with heap:=h'}):wpAny (model P w) A (pyNext<|.ref it) Q E s:=by
 obtain⟨o,f1,f2,f3⟩:=hm;have ty:s.TypeIs (.ref it) "dict_itemiterator":=⟨_,hit,rfl⟩;have ow:Builtin.Dict_items.ownsTuple "dict_itemiterator" = true:=by decide
 unfold pyNext;refine BJ<|JF<|IV (name:=Str.ofString "__next__") ty GZ<|DQ GZ ty PX ?_<|OJ _;refine BJ<|BL<|BJ<|BJ ?_
 first | refine BJ (GX ty<|BL ?_) | refine BJ<|HW ty<|BL ?_
 refine BJ<|QD hit rfl ?_;simp only [ow,DP];show wpAny _ _ (if(Value.ref d == Value.none)=true then _ else _) _ _ s;rw [BK (show ¬((Value.ref d == Value.none)=true) from At)];refine BJ<|BL<|BJ<|QW f1 f3 ?_;rw [BK<|by simp];refine BJ<|BL<|BJ<|RW f1 f3 ?_;rw [BK<|by simp];refine BL ?_;simp only [show ¬((i:Int) < 0) from by omega,CQ,Az,Dg hx];refine BJ ?_
 first | refine BJ (GX ty<|BL ?_) | refine BJ<|HW ty<|BL ?_
 show wpAny _ _ (setField (.ref it) 2 .none >>= _) _ _ s;refine BJ (DW hit rfl (by simp) ?_);show wpAny _ _ (newExc (.type "StopIteration") [] >>= _) _ _ _;refine BJ ?_;simp only [newExc,newTuple];refine BJ (DR ?_<|by size_fits);refine BJ (m:=firstArgMember _ _) (JM (a:=Value.none) (by first | rfl | (simp only [firstArgMember];rfl)) ?_);refine DR ?_ (by size_fits);simp only [raiseNew];refine BJ<|wpAny_handled ?_;rw [show A.in1.handled=none from hh];refine BJ<|BL<|wpAny_throw ?_;exact BJ<|RG (T:= "StopIteration") (b:=true) ⟨_,Ar _ rfl,rfl⟩ isSubtype_stop<|BL<|k _<|((DN ..).extBut.push _).push _
theorem XX:entryFor table "dict_itemiterator.__iter__" = some Builtin.«dict_keyiterator.__iter__»:=
 entryFor_alias (id':= "dict_keyiterator.__iter__") (by kernel_rfl) rfl (by decide +kernel) (by kernel_rfl)
theorem XY{it d:Addr}{i n ep:Nat}{y z:Value}{Q:Value->Shared->Prop}(e:IsItemIter s.heap it d i n ep y z)(h:Q (.ref it) s):wpAny (model P w) A (pyIter<|.ref it) Q E s:=by
 have ty:s.TypeIs (.ref it) "dict_itemiterator":=⟨_,e,rfl⟩;refine LK ty QB<|DQ QB ty XX ?_<|F.args_dict_itemiterator_iter_1 _;show wpAny _ _ (ret<|.ref it) _ _ s;exact BL ⟨_,rfl,"dict_itemiterator",_,ty,F.slot_dict_itemiterator_next.lookup,h⟩
end
end PySem
namespace L2
open PySem PySem.Spec PyProof.Rows
section
variable{X:Cx}{pins:List (Addr×Obj)}{σ:St}{H:Hp}{s:Shared}
theorem XZ{d:Addr}{kvs:List (List Key×V)}(I:Inv X pins σ H s)(e:H d=some (.dT kvs)):∃ o,s.heap.get? d=some o/\Inv X pins σ (upd H d<|.cJ o<|.dT kvs) s:=by
 obtain⟨z,hd,xs,r,o,es,ep,ho,h2,h3,h4,h5⟩:=(show ax X.prog X.w H s.heap d (.dT kvs) from I.aA d _ e);refine⟨o,ho,?_⟩;have r':KT (upd H d<|.cJ o<|.dT kvs) kvs xs:=KT.keeps r λb ys q=>by
  rw [aq<|bN q e λz=>nomatch z];exact q
 exact kZ (t':=s.toks) I (by rw [e];exact True.intro) ⟨rfl,λ_ _=>rfl⟩ ⟨o,ho⟩ (show ax X.prog X.w _ s.heap d (.cJ o<|.dT kvs) from⟨ho,z,hd,xs,r',o,es,ep,ho,h2,h3,h4,h5⟩)
def Itm(d:Addr)(o:Obj)(kvs:List<|List Key×V):It:=
  ⟨λi H => H d = some (.cJ o<|.dT kvs) ∧ i < kvs.length,
   λi H v H'=>∃ T b k x,kvs[i]?=some (k,x)/\H b=some (.tup<|k.map kV)/\H T=none/\v = .ref T/\H'=upd H T (.tup [.ref b,x]),
   λi H=>H d=some (.cJ o<|.dT kvs)/\kvs.length<=i⟩
theorem Np{P:Program}{w:World}{h:Heap}{d:Addr}{o:Obj}{es:Array DictEntry}{ep:Nat}{kvs:List (List Key×V)}(aA:b7 P w H h)(e:H d=some (.cJ o<|.dT kvs))(hd:o.data = .dict es ep) :
  Plain h d es ep/\∃ xs,KT H kvs xs/\es.toList=xs.map (entryOfKey<|tupleKind<|bR P w):=by
 obtain⟨ho,z,_,xs,r,o',da,v9,gN,h2,h3,h4,h5⟩:=(show ax P w H h d (.cJ o<|.dT kvs) from aA d _ e);have:o=o':=Option.some.inj<|ho.symm.trans gN;subst this;rw [hd] at h3
 injection h3 with e1 e2
 subst e1;subst e2;exact⟨⟨o,ho,h2,hd⟩,xs,r,h4⟩
theorem kt_len{H:Hp}:∀{kvs:List (List Key×V)} {xs:List (List Key×Addr×Value)},KT H kvs xs->kvs.length=xs.length:=λr=>by
 induction r with
 | nil=>rfl
 | cons _ _ ih=>simp only [Ao,ih]
theorem kt_at{H:Hp}:∀{kvs:List (List Key×V)} {xs:List (List Key×Addr×Value)},KT H kvs xs->∀{i:Nat} {k:List Key} {x:V},kvs[i]?=some (k,x)->∃ b u,xs[i]?=some (k,b,u)/\H b=some (.tup<|k.map kV)/\RelV x u:=λr=>by
 induction r with
 | nil=>intro i k x h;simp at h
 | @cons p q ps qs hq t ih=>
  intro i k x h;cases i with
  | zero=>
   simp only [List.getElem?_cons_zero,Option.some.injEq] at h;subst h;obtain⟨a,b,c⟩:=q;obtain⟨q1,q2,q3⟩:=hq;have q1:k=a:=q1;subst q1;exact⟨b,c,rfl,q2,q3⟩
  | succ i=>exact ih<|by simpa using h
theorem X0{P:Program}{w:World}{K:PySem.W.Frag}{elts:List Expr}{kk:Nat}{tp:Pos}(d it:Addr)(o:Obj)(es:Array DictEntry)(ep:Nat)(kvs:List<|List Key×V)(xm:o.data = .dict es ep) :
  Turn P w K (.Tuple elts kk tp) (Itm d o kvs) [it] it (λi h=>∃ y z,IsItemIter h it d i es.size ep y z) where
 mem:=by simp
 obj:=λi h st b hb=>by
  have e:b=it:=by simpa using hb
  subst e;obtain⟨y,z,e⟩:=st;exact⟨_,e,λv z=>by cases z⟩
 keep:=λi h h' st k=>let ⟨y,z,e⟩:=st;⟨y,z,k it (by simp) _ e⟩
 item:=by
  intro X hP hw hK hc i pins s σ H E I hf st hg;subst hP hw hK;obtain⟨f0,f1,f2,f3,f4,f5⟩:=hf it (by simp);obtain⟨hd,hi⟩:=hg;obtain⟨pd,xs,r,D6⟩:=Np I.aA hd xm;obtain⟨y,z,st⟩:=st;have hx:kvs[i]?=some (kvs[i].1,kvs[i].2):=Ab hi;obtain⟨b,u,gJ,hb,ru⟩:=kt_at r hx;have Nq:=entry_at D6 i;rw [gJ] at Nq;refine XU st pd (en:=entryOfKey (tupleKind<|bR X.prog X.w) (kvs[i].1,b,u)) Nq λh' q1 q2 kp=>?_;have hT:H s.heap.objs.size=none:=I.aA.fresh<|Ak _;have nT:it≠s.heap.objs.size:=Bp<|As st;have I1:Inv X pins σ (upd H s.heap.objs.size<|.tup [.ref b,kvs[i].2]) {s with heap:=s.heap.push {cls:= .type "tuple",data:= .seq #[Value.ref b,u]}}:=
   I.laid (t':=s.toks) (λb o e=>Ah _ e) (Ak _) (show ax X.prog X.w _ _ _ (.tup [.ref b,kvs[i].2]) from⟨Z2,[Value.ref b,u],.cons rfl (.cons ru .nil),⟨_,Ar _ rfl,rfl,_,rfl⟩⟩)
  have fp:∀ c∈[it],ci X pins (upd H s.heap.objs.size<|.tup [.ref b,kvs[i].2]) c:=λc bO=>by
   have e:c=it:=by simpa using bO
   subst e;exact⟨by rw [aq nT];exact f0,f1,f2,f3,f4,f5⟩
  have I2:=Inv.cE (h':=h') (t':=s.toks) I1 fp λc v bO e=>by
   have nc:c≠it:=by simpa using bO
   rcases Heap.get?_push_cases e with ⟨ec,eo⟩ | e'
   ·rw [ec,eo];exact q2
   ·exact kp c v nc e'
  refine⟨_,rfl,wpAny_letOwnedTupleGo_items (s:={s with heap:=h'}) q1 λh2 b1 sb=>?_⟩;have I3:=Inv.cE (h':=h2) (t':=s.toks) I2 fp λc v bO e=>(sb.2 c<|by simpa using bO).trans e;exact⟨.ref s.heap.objs.size,_,I3,rfl,⟨_,b,kvs[i].1,kvs[i].2,hx,hb,hT,rfl,rfl⟩,⟨_,_,b1⟩,λc bO=>(fp c bO).1⟩
 done:=by
  intro X hP hw hK hc i pins s σ H E I hf st hg;subst hP hw hK;obtain⟨hd,hi⟩:=hg;obtain⟨pd,xs,r,D6⟩:=Np I.aA hd xm;obtain⟨y,z,st⟩:=st;have hl:es.size=kvs.length:=by rw [kt_len r,<- Bx,D6,Aa]
  exact XW (I.ok.hd hc) st pd (by omega) λh' eb=>⟨rfl,I.cE (t':=s.toks) hf λc v bO e=>eb c v (by simpa using bO) e⟩
 self:=λ_ _ _ _ _ st h=>let ⟨y,z,e⟩:=st;XY e h
end
section
variable{X:Cx}
def X1(to:TE):TI:=λσ H R=>to σ H λx H1=>∃ d kvs,x = .ref d/\H1 d=some (.dT kvs)/\∀ o,R (Itm d o kvs)<|upd H1 d<|.cJ o<|.dT kvs
theorem X2{elts:List Expr}{kk:Nat}{tp ap cp:Pos}{l:Expr}{to:TE}(ho:PE X l to)(bI:attributeBase l "items" X.env (eval l X.env)=eval l X.env:=by rfl)(hline:(ap.endLine == cp.line)=true:=by rfl) :
  PI X (.Tuple elts kk tp) (.Call (.Attribute l "items" ap) [] [] cp) (X1 to):=by
 intro pins s σ H R I h;refine wpAny_Call_method0_late bI hline<|aE (ho pins s σ H _ I h) λv s1 ⟨x,H1,I1,r1,q1⟩=>?_;obtain⟨d,kvs,e,hd,q⟩:=q1;subst e;cases (show v=Value.ref d from r1);obtain⟨_,X3,_,_,o,es,ep,e1,e2,e3,_⟩:=(show ax X.prog X.w H1 s1.heap d (.dT kvs) from I1.aA d _ hd);have ty:s1.TypeIs (.ref d) "dict":=⟨o,e1,e2.1⟩;refine⟨"dict","dict.items",F.plainAttrs_dict,F.slot_dict_items,F.type_dict_items,ty,λa ea=>?_,HD rfl (PySem.evalArgs_none ?_)⟩
 ·cases ea;exact⟨o,e1,e2.2.1⟩
 refine call_meetsIn F.slot_dict_items ty F.entry_dict_items (F.args_dict_items_1 _) (XS d X3) ⟨ty,?_⟩;obtain⟨o',eo,I2⟩:=XZ I1 hd;have:o=o':=Option.some.inj<|e1.symm.trans eo;subst this;have I3:=I2.kept (t':=s1.toks) (h':=s1.heap.push {cls:= .type "dict_items",data:= .fields #[.ref d]}) λb u e=>Ah _ e;refine XT (s:={s1 with heap:=s1.heap.push {cls:= .type "dict_items",data:= .fields #[.ref d]}}) (d:=d) (es:=es) (ep:=ep) ⟨_,Ar _ rfl,rfl,rfl⟩ ⟨o,Ah _ e1,e2,e3⟩ ?_;refine⟨_,[(s1.heap.push {cls:= .type "dict_items",data:= .fields #[.ref d]}).objs.size],_,_,_,rfl,I3.kept (t':=s1.toks) λb u e=>Ah _ e,X0 d _ o es ep kvs e3,⟨_,_,Ar _ rfl⟩,λb hb=>?_,q o⟩;have e:b=(s1.heap.push {cls:= .type "dict_items",data:= .fields #[.ref d]}).objs.size:=by simpa using hb
 subst e;exact I3.iP (Ak _)<|I3.aA.fresh<|Ak _
end
section
variable{X:Cx}{tg:Expr}{ifs:List Expr}{inner:Sem Unit}{σ:St}{H:Hp}{d:Addr}{o:Obj}{kvs:List (List Key×V)}{after:St->Hp->Prop}
theorem X4(Pv:Nat->St->Hp->Prop)(h0:Pv 0 σ H)(hl:∀ i σ' H',i<=kvs.length->Pv i σ' H'->H' d=some (.cJ o<|.dT kvs))
  (hs:∀ i k x b T σ' H',kvs[i]?=some (k,x)->Pv i σ' H'->H' b=some (.tup<|k.map kV)->H' T=none->Eg X tg (.ref T) σ' (upd H' T<|.tup [.ref b,x]) λσ2 H3=>Ei X ifs σ2 H3 λc H4=>if c=true then mJ X inner σ2 H4 (Pv<|i+1) else Pv (i+1) σ2 H4)
  (hd:∀ σ' H',Pv kvs.length σ' H'->after σ' H'):jF X tg ifs inner (Itm d o kvs) after σ H:=by
 refine⟨λi m σ' H'=>m=kvs.length - i/\i<=kvs.length/\Pv i σ' H',⟨_,rfl,Bv _,h0⟩,?_⟩;rintro i m σ' H' ⟨rfl,hi,p⟩;have q:=hl i σ' H' hi p
 by_cases aO:i < kvs.length
 ·refine .inr ⟨⟨q,aO⟩,Pv<|i+1,λσ' H' p'=>⟨kvs.length - (i+1),by omega,rfl,aO,p'⟩,λv H2 y=>?_⟩;obtain⟨T,b,k,x,hx,hb,hT,rfl,rfl⟩:=y;exact hs i k x b T σ' _ hx p hb hT
 ·have e:i=kvs.length:=by omega
  subst e;exact .inl ⟨⟨q,Ak _⟩,hd σ' H' p⟩
end
open bT
section
variable{X:Cx}{σ:St}{H:Hp}{Q:VK}
end
section
variable{prog:Program}{w:World}{A:Around}{E:Value->Shared->Prop}{s:Shared}
theorem X5{Q:Value->Shared->Prop}(k:Q (.ref s.heap.objs.size) {s with heap:=s.heap.push (fG w)}):codeAny (model prog w) A (.call (.builtin "set.__new__") ⟨[.type "set"],[]⟩) (wants Q E) s:=by
 refine JZ ?_;show wpAny _ A.in1 (checkBuiltinCall "set.__new__" ⟨[.type "set"],[]⟩ >>= λ_=>again<|.builtin "set.__new__" ⟨[.type "set"],[]⟩) _ _ s;refine BJ<|JM PySem.F.newCall_set_0<|BL ⟨JB TJ _,GK PySem.F.entry_set_new ?_⟩;rw [FZ TJ _];unfold Builtin.«set.__new__» Builtin.Frozenset.newClass
 dsimp only
 refine BJ<|BJ<|JM (show isType (.type "set")=pure true from rfl)<|BL ?_;simp only [Dv,Ax,CQ];unfold newSet;refine BJ<|BJ<|wp_text ?_
 dsimp only
 simp only [newObj];exact BJ<|RX<|BL<|BL k
theorem X6{Q:Value->Shared->Prop}(k:Q (.ref s.heap.objs.size) {s with heap:=s.heap.push (fG w)}):wpAny (model prog w) A (call (.type "set") []) Q E s:=by
 obtain⟨c,tl,oM⟩:=PySem.F.called_set.mro;have tE:=PySem.F.called_set.made;have lu:=PySem.F.called_set.sub;refine QZ<|JZ ?_;show wpAny _ _ (callAny (.type "set") _) _ _ _;refine BL ⟨Code.quiet_builtin _ (by decide +kernel),GK PySem.F.entry_type_call ?_⟩;rw [Around.under_plain (weight_type_call_type "set" [] []) rfl];have h1:=PySem.F.called_set.notType;have h2:=PySem.F.called_set.canCreate;have h3:=PySem.F.typeCall_set_0
 repeat (any_goals (first | assumption | wp_step))
 refine HY (X5 (E:=E) (Q:=λv u=>v = .ref s.heap.objs.size/\u={s with heap:=s.heap.push (fG w)}) ⟨rfl,rfl⟩) λr u hr=>?_;cases r with
 | error e=>exact hr
 | ok fl=>
  cases fl with
  | ret v=>
   obtain⟨rfl,rfl⟩:=hr;have hT:Shared.TypeIs {s with heap:=s.heap.push (fG w)} (.ref s.heap.objs.size) "set":=⟨_,Ar _ rfl,rfl⟩;have BO:=PySem.F.called_set.init.lookup;have BQ:=PySem.F.called_set.init.bind<|.ref s.heap.objs.size
   repeat (any_goals (first | assumption | wp_step))
   refine HY (PK (R:=wants (λr u=>r = .none/\Q (.ref s.heap.objs.size) u) E) PySem.F.called_set.init.plain PySem.F.entry_set_init<|check_set_init hT ?_) λr2 u2 oO=>?_
   ·unfold Builtin.«set.__init__» noKeywords
    wp_walk
    exact⟨rfl,k⟩
   ·cases r2 with
    | error e=>exact oO
    | ok f2=>
     cases f2 with
     | ret r=>
      obtain⟨rfl,hq⟩:=oO
      repeat (any_goals (first | assumption | wp_step))
     | _=>exact oO.elim
  | _=>exact hr.elim
end
section
variable{X:Cx}{σ:St}{H:Hp}{Q:VK}
end
end L2
namespace Nt
open PySem L2
def xt(c:Int)(n:Net)(e:End):End:=(e.1,(((e.2:Int)+c) % ((row n e.1).length:Int)).toNat)
theorem Nr{c:Int}{n:Net}{e:End}(h:e∈ends n):(((xt c n e).2:Nat):Int)=((e.2:Int)+c) % ((row n e.1).length:Int):=by
 obtain⟨z,hz⟩:=ag.mp h;have:=jK hz;exact Int.toNat_of_nonneg<|Bi _<|by omega
theorem X7{n:Net}{e:End}(h:e∈ends n):left n e=xt 1 n e:=by
 have h2:=Nr (c:=1) h;refine HS rfl ?_;show(e.2+1) % (row n e.1).length=(xt 1 n e).2;have:(((e.2+1) % (row n e.1).length:Nat):Int)=((e.2:Int)+1) % ((row n e.1).length:Int):=by simp
 omega
def go(c:Int)(n:Net)(e:End):End:=xt c n<|other n e
theorem X8{n:Net}(T:aC n){e:End}(h:e∈ends n):step n e=go 1 n e:=X7<|gX T h
structure fu(n:Net)(e:End)(k:Nat):Prop where
 pos:0 < k
 back:it (step n) k e=e
 first:∀ i,0 < i->i < k->it (step n) i e≠e
theorem fu.unique{n:Net}{e:End}{k l:Nat}(a:fu n e k)(b:fu n e l):k=l:=by
 rcases QX k l with h | h | h
 ·exact absurd a.back<|b.first k a.pos h
 ·exact h
 ·exact absurd b.back<|a.first l b.pos h
noncomputable def iY(n:Net)(e:End):Nat:=by classical exact if h:∃ k,fu n e k then h.choose else 0
theorem Nu{n:Net}{e:End}{k:Nat}(h:fu n e k):iY n e=k:=by
 have hx:∃ k,fu n e k:=⟨k,h⟩;unfold iY;rw [dif_pos hx];exact hx.choose_spec.unique h
theorem Nv{n:Net}(T:aC n){e:End}(h:e∈ends n):∃ k,fu n e k/\k<=(ends n).length:=by
 obtain⟨k,k0,k1,k2⟩:=MY (f:=step n) (S:=ends n) (λa ha=>lK T ha) (λa ha b hb=>wR T ha hb) h;have aux:∀ m,∀ k,k<=m->0 < k->it (step n) k e=e->∃ j,j<=k/\fu n e j:=by
  intro m
  induction m with
  | zero=>intro k h1 h2;omega
  | succ m ih=>
   intro k h1 h2 h3
   by_cases c:∃ i,0 < i/\i < k/\it (step n) i e=e
   ·obtain⟨i,i1,i2,i3⟩:=c;obtain⟨j,j1,j2⟩:=ih i (by omega) i1 i3;exact⟨j,by omega,j2⟩
   ·exact⟨k,Ak _,h2,h3,λi i1 i2 i3=>c ⟨i,i1,i2,i3⟩⟩
 obtain⟨j,j1,j2⟩:=aux k k (Ak _) k0 k2;exact⟨j,j2,by omega⟩
def fl(n:Net)(e:End)(k:Nat):List End:=(List.range k).map λi=>it (step n) i e
theorem Nw(n:Net)(e:End)(k:Nat):fl n e (k+1)=fl n e k++[it (step n) k e]:=by
 unfold fl;rw [Fy,Am];rfl
theorem pc(n:Net)(e:End)(k:Nat):(fl n e k).length=k:=by unfold fl;simp
theorem X9(n:Net)(e:End){k i:Nat}(h:i < k):(fl n e k)[i]?=some (it (step n) i e):=by
 unfold fl;rw [Af,Ee h];rfl
noncomputable def face(n:Net)(e:End):List End:=fl n e<|iY n e
theorem Ya{n:Net}{e:End}{k:Nat}(p:fu n e k)(hk:k<=(ends n).length):df n e (fl n e k):=
 ⟨by rw [pc];exact p.pos,by rw [pc];exact hk,λi hi=>X9 n e (by rw [pc] at hi;exact hi),by rw [pc];exact p.back,by rw [pc];exact p.first⟩
theorem pf{n:Net}(T:aC n){e:End}(h:e∈ends n):df n e (face n e):=by
 obtain⟨k,p,hk⟩:=Nv T h;unfold face;rw [Nu p];exact Ya p hk
theorem D7{n:Net}(T:aC n){e:End}(h:e∈ends n):∀ c∈face n e,c∈ends n:=(pf T h).ends T h
noncomputable def ku(n:Net):List End->List End->List (List End)
 | [],_=>[]
 | e :: r,told=>if e∈told then ku n r told else face n e :: ku n r (told++face n e)
noncomputable def jq(n:Net):List (List End):=if ends n=[] then [[]] else ku n (ends n) []
end Nt
namespace Nt
variable{α β:Type}
def eO(f:α->α):List α->α->α->Prop
 | [],a,b=>a=b
 | x :: l,a,b=>x=a/\eO f l (f x) b
theorem bG{f:α->α}:∀{l k:List α} {a b:α},eO f (l++k) a b↔∃ c,eO f l a c/\eO f k c b
 | [],k,a,b=>⟨λh=>⟨a,rfl,h⟩,λ⟨c,e,h⟩=>by cases e;exact h⟩
 | x :: l,k,a,b=>by
  show(x=a/\eO f (l++k) (f x) b)↔∃ c,(x=a/\eO f l (f x) c)/\eO f k c b;rw [bG];exact⟨λ⟨e,c,h1,h2⟩=>⟨c,⟨e,h1⟩,h2⟩,λ⟨c,⟨e,h1⟩,h2⟩=>⟨e,c,h1,h2⟩⟩
theorem D8{f:α->α}{f':β->β}{g:α->β}:∀{l:List α} {a b:α},(∀ x∈l,f' (g x)=g (f x))->eO f l a b->eO f' (l.map g) (g a) (g b)
 | [],_,_,_,h=>CG g h
 | x :: l,a,b,hg,h=>⟨CG g h.1,by rw [hg x Ad];exact D8 (λy hy=>hg y<|Aj _ hy) h.2⟩
theorem xu{f:α->α}:∀{l:List α} {x a b y:α},eO f (x :: l) a b->y∈x :: l->f y∈l\/f y=b
 | [],x,a,b,y,h,hy=>by
  rw [Ag] at hy;subst hy;exact .inr h.2
 | z :: l,x,a,b,y,h,hy=>by
  rcases Ai.mp hy with rfl | hy
  ·exact .inl<|by rw [<- h.2.1];exact Ad
  ·rcases xu h.2 hy with q | q
   ·exact .inl<|Aj _ q
   ·exact .inr q
theorem qZ{f:α->α}{l:List α}{a y:α}(h:eO f l a a)(ha:a∈l)(hy:y∈l):f y∈l:=by
 cases l with
 | nil=>cases hy
 | cons x l=>
  rcases xu h hy with q | q
  ·exact Aj _ q
  ·rw [q];exact ha
theorem xx{f:α->α}{f':β->β}{g:α->β}{c:α}{h:β}:∀{l:List α} {x:α},(∀ y∈x :: l,f y=c->f' (g y)=h)->(∀ y∈x :: l,f y≠c->f' (g y)=g (f y))->c∉l->eO f (x :: l) x c->eO f' ((x :: l).map g) (g x) h
 | [],x,h1,_,_,p=>⟨rfl,h1 x Ad p.2⟩
 | y :: l,x,h1,h2,hc,p=>by
  have e:y=f x:=p.2.1;have ne:f x≠c:=λq=>hc (by rw [<- q,<- e];exact Ad);refine⟨rfl,?_⟩;rw [h2 x Ad ne,<- e];refine xx (λz hz=>h1 z<|Aj _ hz) (λz hz=>h2 z<|Aj _ hz) (λq=>hc<|Aj _ q) ?_;exact⟨rfl,p.2.2⟩
structure Dec(f:α->α)(D:List α)(Ls:List<|List α):Prop where
 fK:∀ l∈Ls,∃ a,a∈l/\eO f l a a
 all:Ls.flatten.Perm D
 nd:D.Nodup
theorem Dec.sub{f:α->α}{D:List α}{Ls:List (List α)}(d:Dec f D Ls){l:List α}(hl:l∈Ls){x:α}(hx:x∈l):x∈D:=
 d.all.mem_iff.mp (Du.mpr ⟨l,hl,hx⟩)
theorem Dec.pick{f:α->α}{D:List α}{Ls:List (List α)}(d:Dec f D Ls){c:α}(hc:c∈D):∃ l Ms,Ls.length=Ms.length+1/\Dec f D ((c :: l) :: Ms):=by
 obtain⟨l,hl,mL⟩:=Du.mp<|d.all.mem_iff.mpr hc;obtain⟨A,B,rfl⟩:=Fd hl;obtain⟨p,q,rfl⟩:=Fd mL;obtain⟨a,ha,h⟩:=d.fK _ hl;obtain⟨m,h1,h2⟩:=bG.mp h;have e:c=m:=h2.1;subst e;refine⟨q++p,A++B,by simp [Nat.add_assoc],λk hk=>?_,?_,d.nd⟩
 ·rcases Ai.mp hk with rfl | hk
  ·exact⟨c,Ad,bG (l:=c :: q).mpr ⟨a,h2,h1⟩⟩
  ·refine d.fK k ?_
   rcases An.mp hk with q | q
   ·exact Aw _ q
   ·exact Ap _<|Aj _ q
 ·refine List.Perm.trans ?_ d.all;simp only [Cg,Fu,Fa];have e1:(c :: (q++p)).Perm (p++c :: q):=by
   rw [<- Fa];exact Cn
  refine((e1.append_right _).trans ?_);rw [<- Ba,<- Ba];exact(Cn).append_right _
theorem Dec.apart{f:α->α}{D:List α}{l:List α}{Ms:List (List α)}(d:Dec f D<|l :: Ms):l.Nodup/\∀ m∈Ms,∀ x∈l,x∉m:=by
 have h:=d.all.nodup_iff.mpr d.nd;rw [Cg,Cc] at h;exact⟨h.1,λm hm x hx Yb=>h.2.2 x hx x (Du.mpr ⟨m,hm,Yb⟩) rfl⟩
theorem xA{g:α->β}:∀(Ls:List<|List α),(Ls.map<|List.map g).flatten=Ls.flatten.map g
 | []=>rfl
 | l :: Ls=>by rw [Bb,Cg,xA Ls,Cg,Am]
theorem Dec.rest{f:α->α}{f':β->β}{g:α->β}{D:List α}{l:List α}{Ms:List (List α)}(d:Dec f D<|l :: Ms)(ho:∀ x∈D,f x∉l->f' (g x)=g (f x)):∀ m∈Ms.map (List.map g),∃ a,a∈m/\eO f' m a a:=by
 intro m hm;obtain⟨k,hk,rfl⟩:=Al.mp hm;obtain⟨a,ha,p⟩:=d.fK k<|Aj _ hk;refine⟨g a,Al.mpr ⟨a,ha,rfl⟩,D8 (λx hx=>ho x (d.sub (Aj _ hk) hx) λq=>?_) p⟩;exact d.apart.2 k hk _ q<|qZ p ha hx
theorem Dec.grow{f:α->α}{f':β->β}{g:α->β}{D:List α}{c:α}{l:List α}{Ms:List (List α)}(d:Dec f D<|(c :: l) :: Ms){new:List β}{h:β}(hn:eO f' new h<|g c)(hh:∀ x∈D,f x=c->f' (g x)=h)(ho:∀ x∈D,f x≠c->f' (g x)=g (f x))(nd:(D.map g++new).Nodup) :
  Dec f' (D.map g++new) (((c :: l).map g++new) :: Ms.map (List.map g)):=by
 have ap:=d.apart;have mL:c∉l:=(Bn.mp ap.1).1;refine⟨λk hk=>?_,?_,nd⟩
 ·rcases Ai.mp hk with rfl | hk
  ·obtain⟨a,ha,p⟩:=d.fK _ Ad;have e:c=a:=p.1;subst e;exact⟨g c,Aw _ Ad,bG.mpr ⟨h,xx (λy hy=>hh y<|d.sub Ad hy) (λy hy=>ho y<|d.sub Ad hy) mL p,hn⟩⟩
  ·exact d.rest (λx hx q=>ho x hx λe=>q<|by rw [e];exact Ad) k hk
 ·rw [Cg,xA];have:=d.all.map g;rw [Cg,Am] at this;refine List.Perm.trans ?_<|this.append_right new;rw [Ba,Ba];exact(Cn).append_left _
theorem Dec.split{f:α->α}{f':β->β}{g:α->β}{D:List α}{c d0:α}{l:List α}{Ms:List (List α)}(d:Dec f D<|(c :: l) :: Ms)(hd:d0∈l){e1 e2:β}(h1:f' e1=g d0)(h2:f' e2=g c)(hc:∀ x∈D,f x=c->f' (g x)=e1)(Yc:∀ x∈D,f x=d0->f' (g x)=e2)(ho:∀ x∈D,f x≠c->f x≠d0->f' (g x)=g (f x))(nd:(D.map g++[e1,e2]).Nodup) :
  ∃ Ls,Ls.length=Ms.length+2/\Dec f' (D.map g++[e1,e2]) Ls/\∃ l∈Ls,e2∈l/\e1∉l:=by
 have ap:=d.apart;obtain⟨p,q,rfl⟩:=Fd hd;have D9:=Bn.mp ap.1;have Nx:=Cc.mp D9.2;have Yd:=Bn.mp Nx.2.1;have Ye:d0∉p:=λx=>Nx.2.2 d0 x d0 Ad rfl;have Yf:c∉p:=λx=>D9.1<|Aw _ x;have Yg:c∉q:=λx=>D9.1<|Ap _<|Aj _ x;obtain⟨a,ha,pp⟩:=d.fK _ Ad;have e:c=a:=pp.1;subst e;obtain⟨m,p1,p2⟩:=(bG (l:=c :: p)).mp pp;have e:d0=m:=p2.1;subst e;have inD:∀ y∈c :: p,y∈D:=λy hy=>d.sub Ad (by
  rcases Ai.mp hy with rfl | hy
  ·exact Ad
  ·exact Aj _<|Aw _ hy)
 have tZ:∀ y∈d0 :: q,y∈D:=λy hy=>d.sub Ad<|Aj _<|Ap _ hy;have Ny:=Cc.mp nd;have Yh:e1≠e2:=λe=>by
  have:=Ny.2.1;rw [e] at this;simp at this
 refine⟨((c :: p).map g++[e2]) :: ((d0 :: q).map g++[e1]) :: Ms.map (List.map g),by simp,⟨λk hk=>?_,?_,nd⟩,_,Ad,Ap _<|Ag.mpr rfl,λh=>?_⟩
 ·rcases Ai.mp hk with rfl | hk
  ·refine⟨g c,Aw _ Ad,bG.mpr ⟨e2,xx (λy hy=>Yc y<|inD y hy) (λy hy ne=>ho y (inD y hy) (λec=>?_) ne) Ye p1,rfl,h2⟩⟩
   rcases xu p1 hy with z | z
   ·exact Yf<|by rw [<- ec];exact z
   ·exact ne z
  ·rcases Ai.mp hk with rfl | hk
   ·refine⟨g d0,Aw _ Ad,bG.mpr ⟨e1,xx (λy hy=>hc y<|tZ y hy) (λy hy ne=>ho y (tZ y hy) ne λec=>?_) Yg p2,rfl,h1⟩⟩
    rcases xu p2 hy with z | z
    ·exact Yd.1<|by rw [<- ec];exact z
    ·exact ne z
   ·exact d.rest (λx hx q=>ho x hx (λe=>q<|by rw [e];exact Ad) λe=>q<|by rw [e];exact Aj _<|Ap _ Ad) k hk
 ·simp only [Cg,xA];have:=d.all.map g;rw [Cg,Am,<- Fa,Am] at this;refine List.Perm.trans ?_<|this.append_right [e1,e2];generalize (c :: p).map g=A;generalize (d0 :: q).map g=B;generalize Ms.flatten.map g=C
  letI:DecidableEq β:=λa b=>Classical.propDecidable<|a=b
  rw [List.perm_iff_count];intro z;simp only [List.count_append,Ds,List.count_nil];omega
 ·rcases An.mp h with h | h
  ·obtain⟨y,hy,e⟩:=Al.mp h;exact Ny.2.2 e1 (Al.mpr ⟨y,inD y hy,e⟩) e1 Ad rfl
  ·exact Yh<|Ag.mp h
theorem Dec.more{f:β->β}{D:List β}{Ls:List (List β)}(d:Dec f D Ls){b:β}(hb:f b=b)(nd:(D++[b]).Nodup):Dec f (D++[b]) (Ls++[[b]]):=by
 refine⟨λl hl=>?_,?_,nd⟩
 ·rcases An.mp hl with h | h
  ·exact d.fK l h
  ·rw [Ag] at h;subst h;exact⟨b,Ad,rfl,hb⟩
 ·rw [Fu];exact d.all.append_right _
theorem Dec.carry{f:α->α}{f':β->β}{g:α->β}{D:List α}{D':List β}{Ls:List (List α)}(d:Dec f D Ls)(ho:∀ x∈D,f' (g x)=g (f x))(hD:(D.map g).Perm D')(nd:D'.Nodup):Dec f' D' (Ls.map<|List.map g):=by
 refine⟨λm hm=>?_,?_,nd⟩
 ·obtain⟨k,hk,rfl⟩:=Al.mp hm;obtain⟨a,ha,p⟩:=d.fK k hk;exact⟨g a,Al.mpr ⟨a,ha,rfl⟩,D8 (λx hx=>ho x<|d.sub hk hx) p⟩
 ·rw [xA];exact(d.all.map g).trans hD
open PySem
theorem mX{α:Type} [DecidableEq α]:∀{a b:List α},a.Nodup->(∀ z∈a,z∈b)->b.length<=a.length->a.Perm b
 | [],b,_,_,hl=>by
  have:b=[]:=Bf.mp<|Nat.le_zero.mp hl;rw [this]
 | x :: a,b,nd,sub,hl=>by
  have xB:=Bn.mp nd;have hx:=sub x Ad;have pb:=List.perm_cons_erase hx;refine List.Perm.trans ((mX xB.2 (λz hz=>?_) ?_).cons x) pb.symm
  ·exact(Es λe=>xB.1<|by rw [<- e];exact hz).mpr<|sub z<|Aj _ hz
  ·have:=pb.length_eq;rw [Ao] at this hl;omega
theorem gK{n:Net}(T:aC n){a b:End}{z:Str}(ha:aM n a=some z)(hb:aM n b=some z)(ne:a≠b):other n a=b:=by
 obtain⟨h1,_,h3⟩:=iB T ha;obtain⟨p,q,e,_,_⟩:=qL T ha;have m1:=aP.mpr ha;have m2:=aP.mpr hb;have m3:=aP.mpr h1;rw [e] at m1 m2 m3;simp only [Ai,Bt,FQ] at m1 m2 m3
 rcases m1 with rfl | rfl <;> rcases m2 with rfl | rfl <;> rcases m3 with m3 | m3 <;> first | exact m3 | exact absurd rfl ne | exact absurd m3 h3
def sh(c e:End):End:=if e.1=c.1/\c.2<=e.2 then(e.1,e.2+1) else e
theorem g6(c e:End):(sh c e).1=e.1:=by unfold sh;split <;> rfl
theorem dQ{c a b:End}(h:sh c a=sh c b):a=b:=by
 have h1:a.1=b.1:=by rw [<- g6 c a,h,g6]
 have h2:=CG Prod.snd h;unfold sh at h2;refine HS h1 ?_
 by_cases x:a.1=c.1/\c.2<=a.2
 ·rw [BR x] at h2
  by_cases y:b.1=c.1/\c.2<=b.2
  ·rw [BR y] at h2;exact Nat.succ.inj h2
  ·rw [BK y] at h2;have h2:a.2+1=b.2:=h2;exact absurd ⟨h1 ▸ x.1,by omega⟩ y
 ·rw [BK x] at h2
  by_cases y:b.1=c.1/\c.2<=b.2
  ·rw [BR y] at h2;have h2:a.2=b.2+1:=h2;exact absurd ⟨h1 ▸ y.1,by omega⟩ x
  ·rw [BK y] at h2;exact h2
theorem dv(c e:End):sh c e≠c:=by
 intro h;have h1:e.1=c.1:=by rw [<- g6 c e,h]
 have h2:=CG Prod.snd h;unfold sh at h2
 by_cases x:e.1=c.1/\c.2<=e.2
 ·rw [BR x] at h2;have h2:e.2+1=c.2:=h2;omega
 ·rw [BK x] at h2;exact x ⟨h1,by omega⟩
section
variable{n:Net}{c:End}{z:Str}
theorem kz(hc:c.1 < n.length)(hp:c.2<=(row n c.1).length)(i:Nat):(row (ins n c z) i).length=if c.1=i then(row n i).length+1 else(row n i).length:=by
 rw [qR n c z i hc]
 by_cases h:c.1=i
 ·subst h;rw [BR rfl,BR rfl,Ae,Ao,Be,Dd];omega
 ·rw [BK h,BK h]
theorem ph(hc:c.1 < n.length)(hp:c.2<=(row n c.1).length):aM (ins n c z) c=some z:=by
 unfold aM;rw [qR n c z c.1 hc,BR rfl,Bd (by rw [Be];omega),Be,show c.2 - min c.2 (row n c.1).length=0 by omega];rfl
theorem gL(hc:c.1 < n.length)(hp:c.2<=(row n c.1).length)(e:End):aM (ins n c z) (sh c e)=aM n e:=by
 unfold aM;rw [g6,qR n c z e.1 hc];unfold sh
 by_cases h:c.1=e.1
 ·rw [BR h]
  by_cases k:c.2<=e.2
  ·rw [BR ⟨h.symm,k⟩,Bd (by rw [Be];show _<=e.2+1;omega),Be];show(z :: (row n e.1).drop c.2)[e.2+1 - min c.2 (row n e.1).length]?=_;rw [<- h,show e.2+1 - min c.2 (row n c.1).length=(e.2 - c.2)+1 by omega,Fb,Gc,show c.2+(e.2 - c.2)=e.2 by omega]
  ·rw [BK λq=>k q.2,Ay (by rw [Be,<- h];omega),Dj<|by omega]
 ·rw [BK h,BK λq=>h q.1.symm]
theorem jr(hc:c.1 < n.length)(hp:c.2 < (row n c.1).length):left (ins n c z) c=sh c c:=by
 unfold left sh;rw [kz hc<|Bc hp,BR rfl,BR ⟨rfl,Ak _⟩,Cm<|by omega]
theorem dC(hc:c.1 < n.length)(hp:c.2 < (row n c.1).length){e:End}(he:e.2 < (row n e.1).length):left (ins n c z) (sh c e)=if left n e=c then c else sh c (left n e):=by
 by_cases h:c.1=e.1
 ·have e1:(left n e).1=e.1:=rfl;have e2:(left n e).2=(e.2+1) % (row n e.1).length:=rfl;have q:(left n e=c)↔(e.2+1) % (row n e.1).length=c.2:=⟨λx=>by rw [<- e2,x],λx=>HS h.symm x⟩;have L:(left (ins n c z) (sh c e))=(e.1,((sh c e).2+1) % ((row n e.1).length+1)):=by
   unfold left;rw [g6,kz hc<|Bc hp,BR h]
  rw [L];rw [h] at hp;have S:(sh c e).2=if c.2<=e.2 then e.2+1 else e.2:=by
   unfold sh
   by_cases k:c.2<=e.2
   ·rw [BR ⟨h.symm,k⟩,BR k]
   ·rw [BK λq=>k q.2,BK k]
  have S2:sh c (left n e)=(e.1,if c.2<=(e.2+1) % (row n e.1).length then(e.2+1) % (row n e.1).length+1 else(e.2+1) % (row n e.1).length):=by
   unfold sh
   by_cases k:c.2<=(e.2+1) % (row n e.1).length
   ·rw [BR ⟨h.symm,k⟩,BR k];rfl
   ·rw [BK λq=>k q.2,BK k];rfl
  rw [S,S2];generalize (row n e.1).length=m at *
  by_cases k:e.2+1 < m
  ·rw [Cm k] at q ⊢
   by_cases j:e.2+1=c.2
   ·rw [BR<|q.mpr j,BK (by omega),Cm<|by omega];exact HS h.symm j
   ·rw [BK λx=>j<|q.mp x]
    by_cases i:c.2<=e.2
    ·rw [BR i,BR (by omega),Cm<|by omega]
    ·rw [BK i,BK (by omega),Cm<|by omega]
  ·have em:e.2+1=m:=by omega
   rw [em,Er] at q ⊢;rw [BR (by omega),Er]
   by_cases j:0=c.2
   ·rw [BR<|q.mpr j];exact HS h.symm j
   ·rw [BK λx=>j<|q.mp x,BK<|by omega]
 ·have ne:left n e≠c:=λx=>h (by rw [<- x];rfl);rw [BK ne];have s1:sh c e=e:=by unfold sh;rw [BK λq=>h q.1.symm]
  have s2:sh c (left n e)=left n e:=by unfold sh;rw [BK λq=>h q.1.symm]
  rw [s1,s2];unfold left;rw [kz hc<|Bc hp,BK h]
end
def Pl(n:Net):Prop:=(af n=[]/\n.length=1)\/∃ Ls,Dec (step n) (ends n) Ls/\2 * (n.length+Ls.length)=(af n).length+4
structure eC(n m:Net)(g:End->End)(e1 e2:End)(z:Str):Prop where
 eQ:∀ e∈ends n,aM m (g e)=aM n e
 t1:aM m e1=some z
 t2:aM m e2=some z
 inj:∀ a b,g a=g b->a=b
 n1:∀ a∈ends n,g a≠e1
 n2:∀ a∈ends n,g a≠e2
 ne:e1≠e2
 len:(af m).length=(af n).length+2
section
variable{n m:Net}{g:End->End}{e1 e2:End}{z:Str}
theorem eC.nd(p:eC n m g e1 e2 z):((ends n).map g++[e1,e2]).Nodup:=by
 rw [Cc];refine⟨?_,?_,?_⟩
 ·exact(Eu.mpr<|(kn n).imp λ{a b} h e=>h<|p.inj a b e)
 ·simp [p.ne]
 ·rintro a ha b hb rfl;obtain⟨x,hx,rfl⟩:=Al.mp ha;simp only [Ai,Bt,FQ] at hb
  rcases hb with h | h
  ·exact p.n1 x hx h
  ·exact p.n2 x hx h
theorem eC.perm(p:eC n m g e1 e2 z):((ends n).map g++[e1,e2]).Perm (ends m):=by
 refine mX p.nd (λa ha=>?_)<|by rw [g5,p.len,Ae,Aa,g5];exact Ak _
 rcases An.mp ha with h | h
 ·obtain⟨x,hx,rfl⟩:=Al.mp h;obtain⟨y,hy⟩:=ag.mp hx;exact ag.mpr ⟨y,by rw [p.eQ x hx];exact hy⟩
 ·simp only [Ai,Bt,FQ] at h
  rcases h with rfl | rfl
  ·exact ag.mpr ⟨z,p.t1⟩
  ·exact ag.mpr ⟨z,p.t2⟩
theorem eC.gU(p:eC n m g e1 e2 z)(T:aC n)(T':aC m){e:End}(he:e∈ends n):other m (g e)=g (other n e):=by
 obtain⟨y,hy⟩:=ag.mp he;obtain⟨h1,_,h3⟩:=iB T hy;exact gK T' (by rw [p.eQ e he];exact hy) (by rw [p.eQ _<|ag.mpr ⟨y,h1⟩];exact h1) λh=>h3 (p.inj _ _ h).symm
theorem eC.o1(p:eC n m g e1 e2 z)(T':aC m):other m e1=e2:=gK T' p.t1 p.t2 p.ne
theorem eC.o2(p:eC n m g e1 e2 z)(T':aC m):other m e2=e1:=gK T' p.t2 p.t1 p.ne.symm
theorem Dec.perm{α:Type}{f:α->α}{D D':List α}{Ls:List (List α)}(d:Dec f D Ls)(h:D.Perm D'):Dec f D' Ls:=⟨d.fK,d.all.trans h,h.nodup_iff.mp d.nd⟩
theorem xC{α:Type}{f:α->α}{l:List α}(h:∀ x∈l,f x∈l){a:α}(ha:a∈l):∀ k,it f k a∈l:=λk=>jL h ha k
theorem Dec.one{α:Type}{f:α->α}{D:List α}{a b:α}{l:List α}{Ms:List (List α)}(d:Dec f D<|(a :: l) :: Ms)(hb:b∈D)(h:(∃ k,it f k a=b)\/∃ k,it f k b=a)(ne:b≠a):b∈l:=by
 have cl:∀ k∈(a :: l) :: Ms,∀ x∈k,f x∈k:=λk hk x hx=>by
  obtain⟨c,hc,p⟩:=d.fK k hk;exact qZ p hc hx
 have hm:b∈a :: l:=by
  rcases h with ⟨k,rfl⟩ | ⟨k,e⟩
  ·exact xC (cl _ Ad) Ad k
  ·obtain⟨j,hj,Nz⟩:=Du.mp<|d.all.mem_iff.mpr hb
   rcases Ai.mp hj with rfl | ra
   ·exact Nz
   ·have:=xC (cl j hj) Nz k;rw [e] at this;exact absurd this<|d.apart.2 j ra a Ad
 rcases Ai.mp hm with h | h
 ·exact absurd h ne
 ·exact h
theorem Yi(p:eC n m g e1 e2 z)(T:aC n)(T':aC m)(hl:m.length=n.length){k1 k2:End}(h1:k1∈ends n)(h2:k2∈ends n)(ne:k2≠k1)(same:(∃ k,it (step n) k k1=k2)\/∃ k,it (step n) k k2=k1)
  (l1:left m e1=g k1) (l2:left m e2=g k2) (lf:∀ e∈ends n,left m (g e)=if left n e=k1 then e1 else if left n e=k2 then e2 else g (left n e)) (P:Pl n):Pl m:=by
 have st:∀ x∈ends n,step m (g x)=if step n x=k1 then e1 else if step n x=k2 then e2 else g (step n x):=λx hx=>by
  unfold step;rw [p.gU T T' hx];exact lf _<|gX T hx
 rcases P with ⟨e,_⟩ | ⟨Ls,d,eu⟩
 ·obtain⟨y,hy⟩:=ag.mp h1;have:=fk hy;rw [e] at this;cases this
 ·obtain⟨l,Ms,hL,d⟩:=d.pick h1;have hk:=d.one h2 same ne;obtain⟨rg,Yj,d',_⟩:=d.split (f':=step m) (g:=g) hk (e1:=e1) (e2:=e2) (by unfold step;rw [p.o1 T'];exact l2) (by unfold step;rw [p.o2 T'];exact l1)
   (λx hx e=>by rw [st x hx,BR e]) (λx hx e=>by rw [st x hx,BK (by rw [e];exact ne),BR e]) (λx hx a b=>by rw [st x hx,BK a,BK b]) p.nd
  refine .inr ⟨rg,d'.perm p.perm,?_⟩;have:=p.len;omega
theorem Yk(p:eC n m g e1 e2 z)(T:aC n)(T':aC m)(hl:m.length=n.length){c:End}(h1:c∈ends n)
  (l1:left m e1=g c) (l2:left m e2=e1) (lf:∀ e∈ends n,left m (g e)=if left n e=c then e2 else g (left n e)) (P:Pl n):Pl m:=by
 have st:∀ x∈ends n,step m (g x)=if step n x=c then e2 else g (step n x):=λx hx=>by
  unfold step;rw [p.gU T T' hx];exact lf _<|gX T hx
 rcases P with ⟨e,_⟩ | ⟨Ls,d,eu⟩
 ·obtain⟨y,hy⟩:=ag.mp h1;have:=fk hy;rw [e] at this;cases this
 ·obtain⟨l,Ms,hL,d⟩:=d.pick h1;have nd:=p.nd;have pj:((ends n).map g++[e2]++[e1]).Nodup:=by
   rw [Ba];exact((List.Perm.swap e1 e2 []).append_left _).nodup_iff.mpr nd
  have d1:=d.grow (f':=step m) (g:=g) (new:=[e2]) (h:=e2) ⟨rfl,by unfold step;rw [p.o2 T'];exact l1⟩ (λx hx e=>by rw [st x hx,BR e]) (λx hx e=>by rw [st x hx,BK e]) (Cc.mp pj).1;have d2:=d1.more (b:=e1) (by unfold step;rw [p.o1 T'];exact l2) pj;have pm:((ends n).map g++[e2]++[e1]).Perm (ends m):=by
   refine List.Perm.trans ?_ p.perm;rw [Ba];exact(List.Perm.swap e1 e2 []).append_left _
  refine .inr ⟨_,d2.perm pm,?_⟩;have:=p.len;simp only [Ae,Ao,Aa,Eb];omega
theorem Yl(p:eC n m g e1 e2 z)(T:aC n)(T':aC m)(hl:m.length=n.length+1){c:End}(h1:c∈ends n)
  (l1:left m e1=g c) (l2:left m e2=e2) (lf:∀ e∈ends n,left m (g e)=if left n e=c then e1 else g (left n e)) (P:Pl n):Pl m:=by
 have st:∀ x∈ends n,step m (g x)=if step n x=c then e1 else g (step n x):=λx hx=>by
  unfold step;rw [p.gU T T' hx];exact lf _<|gX T hx
 rcases P with ⟨e,_⟩ | ⟨Ls,d,eu⟩
 ·obtain⟨y,hy⟩:=ag.mp h1;have:=fk hy;rw [e] at this;cases this
 ·obtain⟨l,Ms,hL,d⟩:=d.pick h1;have s1:step m e1=e2:=by unfold step;rw [p.o1 T'];exact l2
  have s2:step m e2=g c:=by unfold step;rw [p.o2 T'];exact l1
  have d1:=d.grow (f':=step m) (g:=g) (new:=[e1,e2]) (h:=e1) ⟨rfl,by rw [s1];exact⟨rfl,s2⟩⟩ (λx hx e=>by rw [st x hx,BR e]) (λx hx e=>by rw [st x hx,BK e]) p.nd;refine .inr ⟨_,d1.perm p.perm,?_⟩;have:=p.len;simp only [Ao,Aa];omega
end
theorem eF{n:Net}{e:End}(h:e∈ends n):e.1 < n.length/\e.2 < (row n e.1).length:=by
 obtain⟨z,hz⟩:=ag.mp h;exact⟨eW hz,jK hz⟩
section
variable{n:Net}{z:Str}
theorem NA{k1 k2:End}(h1:k1.1 < n.length/\k1.2<=(row n k1.1).length)(h2:k2.1 < n.length/\k2.2<=(row n k2.1).length):eC n (ins (ins n k1 z) k2 z) (λe=>sh k2<|sh k1 e) (sh k2 k1) k2 z:=by
 have c2:k2.1 < (ins n k1 z).length:=by rw [cD];exact h2.1
 have p2:k2.2<=(row (ins n k1 z) k2.1).length:=by
  rw [kz h1.1 h1.2]
  split
  ·have:=h2.2;omega
  ·exact h2.2
 refine⟨λe _=>?_,?_,ph c2 p2,λa b h=>dQ<|dQ h,λa _ h=>dv k1 a<|dQ h,λa _=>dv k2 _,dv k2 k1,?_⟩
 ·show aM _ (sh k2<|sh k1 e)=_;rw [gL c2 p2,gL h1.1 h1.2]
 ·rw [gL c2 p2];exact ph h1.1 h1.2
 ·rw [(gs _ k2 z c2).length_eq,Ao,(gs _ k1 z h1.1).length_eq,Ao]
theorem Ym{k1 k2:End}(T:aC n)(T':aC<|ins (ins n k1 z) k2 z)(h1:k1∈ends n)(h2:k2∈ends n)(ord:k2=k1\/sh k1 k2=k2)(same:(∃ k,it (step n) k k1=k2)\/∃ k,it (step n) k k2=k1)(P:Pl n):Pl (ins (ins n k1 z) k2 z):=by
 have r1:=eF h1;have r2:=eF h2;have p:=NA (z:=z) (k1:=k1) (k2:=k2) ⟨r1.1,Bc r1.2⟩ ⟨r2.1,Bc r2.2⟩;have c2:k2.1 < (ins n k1 z).length:=by rw [cD];exact r2.1
 have rl:∀ i,(row n i).length<=(row (ins n k1 z) i).length:=λi=>by
  rw [kz r1.1<|Bc r1.2]
  split <;> omega
 have p2:k2.2 < (row (ins n k1 z) k2.1).length:=Bg r2.2<|rl _;have p1:k1.2 < (row (ins n k1 z) k1.1).length:=Bg r1.2<|rl _;have hl:(ins (ins n k1 z) k2 z).length=n.length:=by rw [cD,cD]
 have sl:∀ e∈ends n,(sh k1 e).2 < (row (ins n k1 z) (sh k1 e).1).length:=λe he=>by
  obtain⟨y,hy⟩:=ag.mp he;exact jK (z:=y)<|by rw [gL r1.1<|Bc r1.2];exact hy
 have l0:left (ins n k1 z) k1=sh k1 k1:=jr r1.1 r1.2
 by_cases e:k2=k1
 ·subst e;refine Yk p T T' hl h1 ?_ (jr c2 p2) (λe he=>?_) P
  ·rw [dC c2 p2 p1,l0,BK<|dv _ _]
  ·show left _ (sh k2<|sh k2 e)=_;rw [dC c2 p2<|sl e he,dC r1.1 r1.2 (eF he).2]
   by_cases q:left n e=k2
   ·rw [BR q,BR rfl,BR q]
   ·rw [BK q,BK<|dv _ _,BK q]
 ·have hs:sh k1 k2=k2:=ord.resolve_left e;refine Yi p T T' hl h1 h2 e same ?_ ?_ (λe' he=>?_) P
  ·rw [dC c2 p2 p1,l0,BK λq=>e<|dQ (c:=k1)<|by rw [hs,q]]
  ·show left _ k2=sh k2 (sh k1 k2);rw [hs];exact jr c2 p2
  ·show left _ (sh k2<|sh k1 e')=if left n e'=k1 then sh k2 k1 else if left n e'=k2 then k2 else sh k2 (sh k1<|left n e');rw [dC c2 p2<|sl e' he,dC r1.1 r1.2 (eF he).2]
   by_cases q:left n e'=k1
   ·rw [BR q,BR q,BK λx=>e x.symm]
   ·rw [BK q,BK q]
    by_cases q2:left n e'=k2
    ·rw [BR q2,q2,hs,BR rfl]
    ·rw [BK q2,BK λx=>q2<|dQ (c:=k1)<|by rw [x,hs]]
theorem mY{a b:Net}{i:Nat}(h:i < a.length):row (a++b) i=row a i:=by
 unfold row;rw [Ay h]
theorem xD{a:Net}{x:Str×List Str}:row (a++[x]) a.length=x.2:=by
 unfold row;rw [Bd<|Ak _];simp
theorem ND{c:End}{pt:Str}(h1:c.1 < n.length/\c.2<=(row n c.1).length):eC n (ins n c z++[(pt,[z])]) (sh c) c (n.length,0) z:=by
 have la:∀ e:End,e.1 < n.length->aM (ins n c z++[(pt,[z])]) e=aM (ins n c z) e:=λe he=>by
  unfold aM;rw [mY<|by rw [cD];exact he]
 refine⟨λe he=>?_,?_,?_,λa b h=>dQ h,λa _=>dv c a,λa ha h=>?_,λh=>?_,?_⟩
 ·rw [la _ (by rw [g6];exact(eF he).1),gL h1.1 h1.2]
 ·rw [la _ h1.1,ph h1.1 h1.2]
 ·unfold aM;have:=xD (a:=ins n c z) (x:=(pt,[z]));rw [cD] at this;show(row _ n.length)[0]?=_;rw [this];rfl
 ·have:=(eF ha).1;rw [<- g6 c a,h] at this;exact absurd this<|Ct _
 ·have:=h1.1;rw [h] at this;exact absurd this<|Ct _
 ·unfold af;rw [Dh,Ae];have:=(gs _ c z h1.1).length_eq;unfold af at this;rw [this];rfl
theorem Yn{c:End}{pt:Str}(T:aC n)(T':aC<|ins n c z++[(pt,[z])])(h1:c∈ends n)(P:Pl n):Pl (ins n c z++[(pt,[z])]):=by
 have r1:=eF h1;have p:=ND (z:=z) (c:=c) (pt:=pt) ⟨r1.1,Bc r1.2⟩;have la:∀ e:End,e.1 < n.length->left (ins n c z++[(pt,[z])]) e=left (ins n c z) e:=λe he=>by
  unfold left;rw [mY<|by rw [cD];exact he]
 refine Yl p T T' (by rw [Ae,cD];rfl) h1 ?_ ?_ (λe he=>?_) P
 ·rw [la _ r1.1];exact jr r1.1 r1.2
 ·unfold left;have:=xD (a:=ins n c z) (x:=(pt,[z]));rw [cD] at this;show(n.length,(0+1) % (row _ n.length).length)=_;rw [this];exact CG (Prod.mk _)<|Er 1
 ·rw [la _<|by rw [g6];exact(eF he).1];exact dC r1.1 r1.2 (eF he).2
end
theorem NI{m:Net}{z:Str}{e1 e2:End}(T':aC m)(hE:ends m=[e1,e2])(t1:aM m e1=some z)(t2:aM m e2=some z)(ne:e1≠e2)
  (h:(m.length=2/\left m e1=e1/\left m e2=e2)\/(m.length=1/\left m e1=e2/\left m e2=e1)):Pl m:=by
 have o1:=gK T' t1 t2 ne;have o2:=gK T' t2 t1 ne.symm;have hl:(af m).length=2:=by rw [<- g5,hE];rfl
 have nd:[e1,e2].Nodup:=by simp [ne]
 rcases h with ⟨hm,l1,l2⟩ | ⟨hm,l1,l2⟩
 ·refine .inr ⟨[[e1,e2]],?_,by rw [hm,hl];rfl⟩;rw [hE];refine⟨λl hl=>?_,List.Perm.refl _,nd⟩;rw [Ag] at hl;subst hl;refine⟨e1,Ad,rfl,?_⟩;unfold step;rw [o1,l2];exact⟨rfl,by show left m (other m e2)=e1;rw [o2,l1]⟩
 ·refine .inr ⟨[[e1],[e2]],?_,by rw [hm,hl];rfl⟩;rw [hE];refine⟨λl hl=>?_,List.Perm.refl _,nd⟩;simp only [Ai,Bt,FQ] at hl
  rcases hl with rfl | rfl
  ·exact⟨e1,Ad,rfl,by show left m (other m e1)=e1;rw [o1,l2]⟩
  ·exact⟨e2,Ad,rfl,by show left m (other m e2)=e2;rw [o2,l1]⟩
theorem Yo{nm pt z:Str}(T':aC [(nm,[z]),(pt,[z])]):Pl [(nm,[z]),(pt,[z])]:=
 NI (e1:=(0,0)) (e2:=(1,0)) (z:=z) T' rfl rfl rfl (by decide) (.inl ⟨rfl,by simp [left,row],by simp [left,row]⟩)
theorem Yp{nm z:Str}(T':aC [(nm,[z,z])]):Pl [(nm,[z,z])]:=
 NI (e1:=(0,0)) (e2:=(0,1)) (z:=z) T' rfl rfl rfl (by decide) (.inr ⟨rfl,by simp [left,row],by simp [left,row]⟩)
theorem Yq{n m:Net}{g:End->End}(T:aC n)(T':aC m)(hl:m.length=n.length)(ht:(af m).length=(af n).length)(eQ:∀ e∈ends n,aM m (g e)=aM n e)(inj:∀ a∈ends n,∀ b∈ends n,g a=g b->a=b)
  (lf:∀ e∈ends n,left m (g e)=g (left n e)) (P:Pl n):Pl m:=by
 rcases P with ⟨e,h⟩ | ⟨Ls,d,eu⟩
 ·exact .inl ⟨Bf.mp (by rw [ht,e];rfl),by rw [hl,h]⟩
 ·have nd:((ends n).map g).Nodup:=by
   have:∀(l:List End),(∀ x∈l,x∈ends n)->l.Nodup->(l.map g).Nodup:=by
    intro l
    induction l with
    | nil=>intro _ _;exact Cd
    | cons x l ih=>
     intro hs h;have h:=Bn.mp h;rw [Bb];refine Bn.mpr ⟨λhx=>?_,ih (λy hy=>hs y<|Aj _ hy) h.2⟩;obtain⟨y,hy,e⟩:=Al.mp hx;have:=inj y (hs y<|Aj _ hy) x (hs x Ad) e;exact h.1<|this ▸ hy
   exact this _ (λx hx=>hx)<|kn n
  have pm:((ends n).map g).Perm (ends m):=by
   refine mX nd (λa ha=>?_) (by rw [Aa,g5,g5,ht];exact Ak _);obtain⟨x,hx,rfl⟩:=Al.mp ha;obtain⟨y,hy⟩:=ag.mp hx;exact ag.mpr ⟨y,by rw [eQ x hx];exact hy⟩
  refine .inr ⟨_,d.carry (f':=step m) (g:=g) (λx hx=>?_) pm<|kn m,by rw [Aa,hl,ht];exact eu⟩;obtain⟨y,hy⟩:=ag.mp hx;obtain⟨h1,_,h3⟩:=iB T hy;have ho:other n x∈ends n:=ag.mpr ⟨y,h1⟩;have:other m (g x)=g (other n x):=gK T' (by rw [eQ x hx];exact hy) (by rw [eQ _ ho];exact h1) λh=>h3 (inj _ hx _ ho h).symm;unfold step;rw [this];exact lf _ ho
def mZ(i len q:Nat):Nat:=if i<=q then q - i else q+len - i
def dR(N j i len:Nat)(e:End):End:=if e.1 < j then e else if e.1=j then(N - 1,mZ i len e.2) else(e.1 - 1,e.2)
theorem NM{a:Net}{j:Nat}{x:Str×List Str}(hj:j < a.length)(r:Nat)(hr:r < a.length):row (a.eraseIdx j++[x]) (if r < j then r else if r=j then a.length - 1 else r - 1)=if r=j then x.2 else row a r:=by
 have le:(a.eraseIdx j).length=a.length - 1:=by rw [Do,BR hj]
 by_cases h1:r < j
 ·rw [BR h1,BK (by omega),mY<|by rw [le];omega];unfold row;rw [Ef,BR h1]
 ·rw [BK h1]
  by_cases h2:r=j
  ·rw [BR h2,BR h2,<- le,xD]
  ·rw [BK h2,BK h2,mY<|by rw [le];omega];unfold row;rw [Ef,BK (by omega),show r - 1+1=r by omega]
theorem Yr{i len q:Nat}(hi:i < len)(hq:q < len):(mZ i len q+1) % len=mZ i len ((q+1) % len):=by
 unfold mZ
 by_cases k:q+1 < len
 ·rw [Cm k]
  by_cases h:i<=q
  ·rw [BR h,BR (by omega),Cm<|by omega];omega
  ·rw [BK h]
   by_cases h2:q+1=i
   ·rw [BR (by omega),show q+len - i+1=len by omega,Er];omega
   ·rw [BK (by omega),Cm<|by omega];omega
 ·have e:q+1=len:=by omega
  rw [e,Er,BR<|by omega]
  by_cases h:i=0
  ·rw [BR (by omega),show q - i+1=len by omega,Er];omega
  ·rw [BK (by omega),Cm<|by omega];omega
theorem Ys{l:List Str}{i q:Nat}(hi:i < l.length)(hq:q < l.length):(l.drop i++l.take i)[mZ i l.length q]?=l[q]?:=by
 unfold mZ
 by_cases h:i<=q
 ·rw [BR h,Ay (by rw [Dd];omega),Gc,show i+(q - i)=q by omega]
 ·rw [BK h,Bd (by rw [Dd];omega),Dd,Dj (by omega),show q+l.length - i - (l.length - i)=q by omega]
theorem NR{a:Net}{j i:Nat}{x:Str}(hj:j < a.length)(hi:i < max 1 (row a j).length):∃ g:End->End,(∀ e∈ends a,aM (a.eraseIdx j++[(x,(row a j).drop i++(row a j).take i)]) (g e)=aM a e)/\(∀ b∈ends a,∀ c∈ends a,g b=g c->b=c) /\
  ∀ e∈ends a,left (a.eraseIdx j++[(x,(row a j).drop i++(row a j).take i)]) (g e)=g (left a e):=by
 have fst:∀ e:End,(dR a.length j i (row a j).length e).1=if e.1 < j then e.1 else if e.1=j then a.length - 1 else e.1 - 1:=λe=>by
  unfold dR
  by_cases h:e.1 < j
  ·rw [BR h,BR h]
  ·rw [BK h,BK h]
   by_cases h2:e.1=j
   ·rw [BR h2,BR h2]
   ·rw [BK h2,BK h2]
 have snd:∀ e:End,(dR a.length j i (row a j).length e).2=if e.1=j then mZ i (row a j).length e.2 else e.2:=λe=>by
  unfold dR
  by_cases h:e.1 < j
  ·rw [BR h,BK<|by omega]
  ·rw [BK h]
   by_cases h2:e.1=j
   ·rw [BR h2,BR h2]
   ·rw [BK h2,BK h2]
 have NU:∀ e:End,e.1 < a.length->row (a.eraseIdx j++[(x,(row a j).drop i++(row a j).take i)]) (dR a.length j i (row a j).length e).1=if e.1=j then(row a j).drop i++(row a j).take i else row a e.1:=λe he=>by
  rw [fst,NM hj e.1 he]
 refine⟨dR a.length j i (row a j).length,λe he=>?_,λb hb c hc h=>?_,λe he=>?_⟩
 ·have r:=eF he;unfold aM;rw [NU e r.1,snd]
  by_cases h:e.1=j
  ·rw [BR h,BR h,<- h,Ys (by have:=hi;rw [<- h] at this;omega) r.2]
  ·rw [BK h,BK h]
 ·have rb:=eF hb;have rc:=eF hc;have h1:=CG Prod.fst h;have h2:=CG Prod.snd h;rw [fst,fst] at h1;rw [snd,snd] at h2
  by_cases p:b.1=j
  ·by_cases q:c.1=j
   ·rw [BR p,BR q] at h2;refine HS (by rw [p,q]) ?_;have rb:=rb.2;have rc:=rc.2;rw [p] at rb;rw [q] at rc;unfold mZ at h2
    by_cases u:i<=b.2
    ·rw [BR u] at h2
     by_cases v:i<=c.2
     ·rw [BR v] at h2;omega
     ·rw [BK v] at h2;omega
    ·rw [BK u] at h2
     by_cases v:i<=c.2
     ·rw [BR v] at h2;omega
     ·rw [BK v] at h2;omega
   ·exfalso
    rw [BK (by omega),BR p] at h1;have:=rc.1
    by_cases u:c.1 < j
    ·rw [BR u] at h1;omega
    ·rw [BK u,BK q] at h1;omega
  ·by_cases q:c.1=j
   ·exfalso
    have:=rb.1;rw [BK (show ¬ c.1 < j by omega),BR q] at h1
    by_cases u:b.1 < j
    ·rw [BR u] at h1;omega
    ·rw [BK u,BK p] at h1;omega
   ·rw [BK p,BK q] at h2;refine HS ?_ h2;rw [BK p,BK q] at h1
    by_cases u:b.1 < j
    ·rw [BR u] at h1
     by_cases v:c.1 < j
     ·rw [BR v] at h1;exact h1
     ·rw [BK v] at h1;omega
    ·rw [BK u] at h1
     by_cases v:c.1 < j
     ·rw [BR v] at h1;omega
     ·rw [BK v] at h1;omega
 ·have r:=eF he;have L1:(left a e).1=e.1:=rfl;have L2:(left a e).2=(e.2+1) % (row a e.1).length:=rfl;refine HS ?_ ?_
  ·show(dR a.length j i (row a j).length e).1=(dR a.length j i (row a j).length<|left a e).1;rw [fst,fst,L1]
  ·show((dR a.length j i (row a j).length e).2+1) % (row _ (dR a.length j i (row a j).length e).1).length=(dR a.length j i (row a j).length<|left a e).2;rw [NU e r.1,snd,snd,L1,L2]
   by_cases h:e.1=j
   ·rw [BR h,BR h,BR h,Ae,Dd,Be];have r2:=r.2;rw [h] at r2 ⊢;rw [show(row a j).length - i+min i (row a j).length=(row a j).length by omega];exact Yr (by omega) r2
   ·rw [BK h,BK h,BK h]
theorem Yu{a:Net}{j i:Nat}{x:Str}(hj:j < a.length)(hi:i < max 1 (row a j).length)(T:aC a) (T':aC<|a.eraseIdx j++[(x,(row a j).drop i++(row a j).take i)])
  (ht:(af<|a.eraseIdx j++[(x,(row a j).drop i++(row a j).take i)]).length=(af a).length) (P:Pl a):Pl (a.eraseIdx j++[(x,(row a j).drop i++(row a j).take i)]):=by
 obtain⟨g,h1,h2,h3⟩:=NR (x:=x) hj hi;exact Yq (g:=g) T T' (by rw [Ae,Do,BR hj,Cv];omega) ht h1 h2 h3 P
theorem NV{α:Type}(f:α->α)(a:α):∀ k,it f k (f a)=it f (k+1) a
 | 0=>rfl
 | k+1=>by show f (it f k<|f a)=f (it f (k+1) a);rw [NV f a k]
theorem EA{α:Type}{f:α->α}:∀{l:List α} {a b x:α},eO f l a b->x∈l->∃ k,it f k a=x
 | y :: l,a,b,x,h,hx=>by
  rcases Ai.mp hx with rfl | hx
  ·exact⟨0,h.1.symm⟩
  ·obtain⟨k,e⟩:=EA h.2 hx;refine⟨k+1,?_⟩;rw [<- NV,<- h.1];exact e
theorem Dec.unique{α:Type} [DecidableEq α] {f:α->α}:∀{Ls Ms:List (List α)} {D:List α},Dec f D Ls->Dec f D Ms->Ls.length=Ms.length
 | [],Ms,D,d,d'=>by
  have e:D=[]:=List.Perm.eq_nil d.all.symm;subst e;cases Ms with
  | nil=>rfl
  | cons m Ms=>
   obtain⟨a,ha,_⟩:=d'.fK m Ad;have:=d'.sub Ad ha;cases this
 | l :: Ls,Ms,D,d,d'=>by
  obtain⟨c,hc,p⟩:=d.fK l Ad;obtain⟨l',NW,hL,xE⟩:=d'.pick<|d.sub Ad hc;obtain⟨c',bO,p'⟩:=xE.fK _ Ad;have e:c=c':=p'.1;subst e;have s1:∀ x∈l,x∈c :: l':=λx hx=>by
   obtain⟨k,rfl⟩:=EA p hx;exact xC (λy hy=>qZ p' bO hy) bO k
  have s2:∀ x∈c :: l',x∈l:=λx hx=>by
   obtain⟨k,rfl⟩:=EA p' hx;exact xC (λy hy=>qZ p hc hy) hc k
  have pm:l.Perm (c :: l'):=mX d.apart.1 s1<|aF xE.apart.1 s2;have q:Ls.flatten.Perm NW.flatten:=by
   have h1:=d.all.trans xE.all.symm;rw [Cg,Cg] at h1;exact(List.perm_append_left_iff l).mp<|h1.trans<|pm.symm.append_right _
  have nd:=d.all.nodup_iff.mpr d.nd;rw [Cg,Cc] at nd;have:=Dec.unique (Ls:=Ls) (Ms:=NW) (D:=Ls.flatten) ⟨λk hk=>d.fK k<|Aj _ hk,List.Perm.refl _,nd.2.1⟩ ⟨λk hk=>xE.fK k<|Aj _ hk,q.symm,nd.2.1⟩;rw [Ao,this,hL]
theorem NX(n:Net)(e:End):∀ k,eO (step n) (fl n e k) e<|it (step n) k e
 | 0=>rfl
 | k+1=>by
  rw [Nw];exact bG.mpr ⟨_,NX n e k,rfl,rfl⟩
theorem xF{n:Net}(T:aC n){e:End}(h:e∈ends n):e∈face n e/\eO (step n) (face n e) e e:=by
 have f:=pf T h;have h0:=f.at' 0 f.pos;refine⟨Aq h0,?_⟩;have:=NX n e<|iY n e;have e2:face n e=fl n e (iY n e):=rfl;have hl:(face n e).length=iY n e:=by rw [e2,pc]
 rw [<- hl,f.back,hl] at this;exact this
theorem Yv{n:Net}(T:aC n){e:End}(h:e∈ends n):∀ i j,it (step n) i e=it (step n) (i+j) e->it (step n) j e=e:=by
 have hf:∀ a∈ends n,step n a∈ends n:=λa ha=>lK T ha;intro i
 induction i with
 | zero=>intro j e;rw [Ge] at e;exact e.symm
 | succ i ih=>
  intro j e;refine ih j ?_;rw [show i+1+j=(i+j)+1 by omega] at e;exact wR T (jL hf h i) (jL hf h<|i+j) e
theorem Yw{n:Net}(T:aC n){e:End}(h:e∈ends n):(face n e).Nodup:=by
 have f:=pf T h;unfold List.Nodup;rw [Bm];intro i j hi hj gY q;have a:=f.at' i hi;have b:=f.at' j hj;rw [Ab hi] at a;rw [Ab hj] at b;have a:=Option.some.inj a;have b:=Option.some.inj b;rw [q,b] at a;refine f.first (j - i) (by omega) (by omega) (Yv T h i (j - i) ?_);rw [show i+(j - i)=j by omega];exact a.symm
def lx(a b:End):Prop:=a.1 < b.1\/(a.1=b.1/\a.2 < b.2)
theorem NY(r:Nat):∀(ts:List Str) (p:Nat),((bL r ts p).map (·.2)).Pairwise lx
 | [],p=>List.Pairwise.nil
 | t :: ts,p=>by
  show(((r,p):End) :: (bL r ts<|p+1).map (·.2)).Pairwise lx;refine List.Pairwise.cons (λb hb=>?_)<|NY r ts<|p+1;obtain⟨⟨z,e⟩,hx,rfl⟩:=Al.mp hb;obtain⟨h1,h2,_⟩:=bd.mp hx;exact .inr ⟨h1.symm,by show p < e.2;omega⟩
theorem N0:∀(n:Net) (k:Nat),((fI k n).map (·.2)).Pairwise lx
 | [],k=>List.Pairwise.nil
 | a :: n,k=>by
  unfold fI;rw [Am,Gq];refine⟨NY k a.2 0,N0 n<|k+1,λx hx y hy=>?_⟩;obtain⟨⟨z,e⟩,h1,rfl⟩:=Al.mp hx;obtain⟨⟨z',e'⟩,h2,rfl⟩:=Al.mp hy;have q1:=(bd.mp h1).1;have q2:=(bA.mp h2).1;exact .inl<|by show e.1 < e'.1;omega
theorem Yx(n:Net):(ends n).Pairwise lx:=N0 n 0
theorem N2{a b:End}(h:lx a b):¬ lx b a:=by
 unfold lx at *;omega
def Told(n:Net)(told:List End):Prop:=∀ x∈told,step n x∈told
theorem Yy{n:Net}(T:aC n){told:List End}(hc:Told n told){e:End}(h:e∈ends n)(hn:e∉told):∀ c∈face n e,c∉told:=by
 intro c Yz YB;obtain⟨he,p⟩:=xF T h;obtain⟨A,B,q⟩:=Fd Yz;rw [q] at p;obtain⟨m,p1,p2⟩:=bG.mp p;have e1:c=m:=p2.1;subst e1;have:∀(l:List End) (a b:End),eO (step n) l a b->a∈told->b∈told:=by
  intro l
  induction l with
  | nil=>intro a b h ha;rw [<- (show a=b from h)];exact ha
  | cons x l ih=>intro a b h ha;exact ih _ _ h.2<|hc _<|h.1 ▸ ha
 exact hn<|this _ _ _ p2 YB
theorem YC{n:Net}(T:aC n){told:List End}(hc:Told n told){e:End}(h:e∈ends n):Told n (told++face n e):=by
 intro x hx
 rcases An.mp hx with q | q
 ·exact Aw _<|hc x q
 ·obtain⟨he,p⟩:=xF T h;exact Ap _<|qZ p he q
structure t6(n:Net)(es told:List End)(Fs:List<|List End):Prop where
 face:∀ w∈Fs,∃ e∈es,w=Nt.face n e/\e∈ends n/\∀ c∈w,¬ lx c e
 cov:∀ e∈es,e∈told\/∃ w∈Fs,e∈w
 nd:Fs.flatten.Nodup
 out:∀ w∈Fs,∀ c∈w,c∉told
 ord:Fs.Pairwise λv w=>∀ a b,v[0]?=some a->w[0]?=some b->lx a b
theorem EB{n:Net}(T:aC n):∀(es told pre:List End),ends n=pre++es->(∀ x∈pre,x∈told)->Told n told->t6 n es told (ku n es told)
 | [],told,pre,_,_,_=>by
  unfold ku;exact⟨λw hw=>(nomatch hw),λe he=>(nomatch he),Cd,λw hw=>(nomatch hw),List.Pairwise.nil⟩
 | e :: r,told,pre,hE,hp,hc=>by
  have N3:ends n=(pre++[e])++r:=by rw [hE,Ba];rfl
  have he:e∈ends n:=by rw [hE];exact Ap _ Ad
  have lQ:=Yx n;rw [hE,Gq] at lQ;have aO:=(List.pairwise_cons.mp lQ.2.1).1;unfold ku
  split
  ·rename_i ht;have I:=EB T r told (pre++[e]) N3 (λx hx=>by
    rcases An.mp hx with q | q
    ·exact hp x q
    ·rw [Ag] at q;rw [q];exact ht) hc
   exact⟨λw hw=>by obtain⟨a,h1,h2⟩:=I.face w hw;exact⟨a,Aj _ h1,h2⟩,λx hx=>by
    rcases Ai.mp hx with rfl | hx
    ·exact .inl ht
    ·exact I.cov x hx,I.nd,I.out,I.ord⟩
  ·rename_i ht;have fp:=xF T he;have ap:=Yy T hc he ht;have I:=EB T r (told++face n e) (pre++[e]) N3 (λx hx=>by
    rcases An.mp hx with q | q
    ·exact Aw _<|hp x q
    ·rw [Ag] at q;rw [q];exact Ap _ fp.1)<|YC T hc he
   refine⟨λw hw=>?_,λx hx=>?_,?_,λw hw c t7=>?_,?_⟩
   ·rcases Ai.mp hw with rfl | hw
    ·refine⟨e,Ad,rfl,he,λc t7 q=>?_⟩;have h1:=D7 T he c t7;rw [hE] at h1
     rcases An.mp h1 with h1 | h1
     ·exact ap c t7<|hp c h1
     ·rcases Ai.mp h1 with rfl | h1
      ·exact N2 q q
      ·exact N2 q<|aO c h1
    ·obtain⟨a,h1,h2⟩:=I.face w hw;exact⟨a,Aj _ h1,h2⟩
   ·rcases Ai.mp hx with rfl | hx
    ·exact .inr ⟨_,Ad,fp.1⟩
    ·rcases I.cov x hx with q | ⟨w,h1,h2⟩
     ·rcases An.mp q with q | q
      ·exact .inl q
      ·exact .inr ⟨_,Ad,q⟩
     ·exact .inr ⟨w,Aj _ h1,h2⟩
   ·rw [Cg,Cc];refine⟨Yw T he,I.nd,λa ha b hb q=>?_⟩;obtain⟨w,hw,YD⟩:=Du.mp hb;exact I.out w hw b YD<|Ap _<|q ▸ ha
   ·rcases Ai.mp hw with rfl | hw
    ·exact ap c t7
    ·exact λq=>I.out w hw c t7<|Aw _ q
   ·refine List.Pairwise.cons (λw hw a b ha hb=>?_) I.ord;obtain⟨e',h1,rfl,h2,_⟩:=I.face w hw;have f1:=(pf T he).at' 0 (pf T he).pos;have f2:=(pf T h2).at' 0 (pf T h2).pos;rw [ha] at f1;rw [hb] at f2;rw [Option.some.inj f1,Option.some.inj f2];exact aO e' h1
theorem YF{n:Net}(T:aC n)(h0:ends n≠[]):t6 n (ends n) [] (jq n):=by
 unfold jq;rw [BK h0];exact EB T (ends n) [] [] rfl (λx hx=>by cases hx) (λx hx=>by cases hx)
theorem N4{n:Net}(T:aC n)(h0:ends n≠[]):Dec (step n) (ends n) (jq n):=by
 have g:=YF T h0;refine⟨λl hl=>?_,?_,kn n⟩
 ·obtain⟨e,_,rfl,he,_⟩:=g.face l hl;exact⟨e,xF T he⟩
 ·refine mX g.nd (λz hz=>?_)<|aF (kn n) λz hz=>?_
  ·obtain⟨w,hw,YG⟩:=Du.mp hz;obtain⟨e,_,rfl,he,_⟩:=g.face w hw;exact D7 T he z YG
  ·rcases g.cov z hz with q | ⟨w,hw,q⟩
   ·cases q
   ·exact Du.mpr ⟨w,hw,q⟩
theorem YH{n:Net}(T:aC n)(F:Full n)(P:Pl n):2 * (n.length+(jq n).length)=(af n).length+4:=by
 rcases P with ⟨e,h⟩ | ⟨Ls,d,eu⟩
 ·have:ends n=[]:=Bf.mp (by rw [g5,e];rfl);unfold jq;rw [BR this,h,e];rfl
 ·by_cases h0:ends n=[]
  ·have t0:(af n).length=0:=by rw [<- g5,h0];rfl
   have:Ls=[]:=by
    cases Ls with
    | nil=>rfl
    | cons l Ls=>
     obtain⟨a,ha,_⟩:=d.fK l Ad;have:=d.sub Ad ha;rw [h0] at this;cases this
   subst this
   exfalso
   rcases F with ⟨nm,rfl⟩ | ⟨aX,h⟩
   ·rw [t0] at eu;exact absurd (show 2=4 from eu)<|by decide
   ·have hp:=Ck.mpr aX;have hr:=h 0 hp;have:((0,0):End)∈ends n:=ag.mpr (wQ<|by show 0 < (row n 0).length;exact Ck.mpr hr);rw [h0] at this;cases this
  ·rw [<- Dec.unique d<|N4 T h0];exact eu
theorem xG{n m:Net}{z:Str}(hp:(af m).Perm<|z :: z :: af n)(T:aC n)(hz:z∉af n):aC m:=by
 intro y hy;rw [hp.count_eq,Ds,Ds]
 by_cases e:z=y
 ·subst e;rw [Fe.mpr hz];simp
 ·have hy:=hp.mem_iff.mp hy
  rcases Ai.mp hy with h | hy
  ·exact absurd h.symm e
  ·rcases Ai.mp hy with h | hy
   ·exact absurd h.symm e
   ·rw [T y hy];have:(z == y)=false:=by simpa using e
    rw [this];rfl
theorem rh{nm:Str}{c:End}(h:du [(nm,[])] c):c=(0,0):=by
 obtain⟨h1,h2⟩:=h;have h1:c.1 < 1:=h1;have e:c.1=0:=by omega
 have h2:c.2 < max 1 (row [(nm,[])] c.1).length:=h2;rw [e] at h2;have h2:c.2 < 1:=h2;exact HS e<|by show c.2=0;omega
theorem xH{n:Net}(F:Full n):(∃ nm,n=[(nm,[])])\/row n 0≠[]:=by
 rcases F with h | ⟨h1,h2⟩
 ·exact .inl h
 ·exact .inr<|h2 0<|Ck.mpr h1
theorem YJ{n:Net}{c:End}{z pt:Str}(T:aC n)(F:Full n)(hz:z∉af n)(hc:du n c) (hp:(af<|ins n c z++[(pt,[z])]).Perm<|z :: z :: af n) (P:Pl n):Pl (ins n c z++[(pt,[z])]):=by
 have T':=xG hp T hz
 rcases xH F with ⟨nm,rfl⟩ | h0
 ·have:=rh hc;subst this;exact Yo T'
 ·exact Yn T T' (F.cz h0 hc) P
theorem YK{n:Net}{k1 k2:End}{z:Str}(T:aC n)(F:Full n)(hz:z∉af n)(h1:du n k1)(h2:du n k2) (hp:(af<|ins (ins n k1 z) k2 z).Perm<|z :: z :: af n) (ord:k2=k1\/sh k1 k2=k2) (same:(∃ k,it (step n) k k1=k2)\/∃ k,it (step n) k k2=k1) (P:Pl n):Pl (ins (ins n k1 z) k2 z):=by
 have T':=xG hp T hz
 rcases xH F with ⟨nm,rfl⟩ | h0
 ·have:=rh h1;subst this;have:=rh h2;subst this;exact Yp T'
 ·exact Ym T T' (F.cz h0 h1) (F.cz h0 h2) ord same P
theorem YL{a b:End}(h:bK.lexLt ((a.1:Int),(a.2:Int)) ((b.1:Int),(b.2:Int))=true):sh b a=a:=by
 unfold bK.lexLt at h;unfold sh;refine BK λq=>?_;rw [BR<|by rw [q.1]] at h;have:=BZ h;have q2:=q.2;omega
theorem YM{a b:End}(h:bK.lexLt ((a.1:Int),(a.2:Int)) ((b.1:Int),(b.2:Int))=false):b=a\/sh a b=b:=by
 unfold bK.lexLt at h
 by_cases e:(a.1:Int)=(b.1:Int)
 ·rw [BR e] at h;have h:=FP h
  by_cases e2:a.2=b.2
  ·exact .inl<|HS (by omega) e2.symm
  ·refine .inr<|BK λq=>?_;have q2:=q.2;have h:¬((a.2:Int) < (b.2:Int)):=h;omega
 ·exact .inr<|BK λq=>e<|by rw [q.1]
theorem N5(a b:Net):af (a++b)=af a++af b:=by
 unfold af;rw [Dh]
theorem YN{n n2 n0:Net}{j i:Nat}{x:Str}(hj:j < n.length)(hi:i < max 1 (row n j).length)(T0:aC n0)(pt:(af n++af n2).Perm<|af n0)
  (fM:(af (n.eraseIdx j)++af (n2++[(x,(row n j).drop i++(row n j).take i)])).Perm<|af n0) (P:Pl<|n++n2):Pl (n.eraseIdx j++(n2++[(x,(row n j).drop i++(row n j).take i)])):=by
 have tw:∀ m:Net,(af m).Perm (af n0)->aC m:=λm p y hy=>by rw [p.count_eq];exact T0 y<|p.mem_iff.mp hy
 rw [<- N5] at pt fM;have er:row (n++n2) j=row n j:=mY hj;have ee:n.eraseIdx j++(n2++[(x,(row n j).drop i++(row n j).take i)])=(n++n2).eraseIdx j++[(x,(row (n++n2) j).drop i++(row (n++n2) j).take i)]:=by
  rw [MF hj,Ba,er]
 rw [ee] at fM ⊢;exact Yu (by rw [Ae];omega) (by rw [er];exact hi) (tw _ pt) (tw _ fM) (by rw [fM.length_eq,pt.length_eq]) P
end Nt
namespace Nt
theorem YQ{n:Net}{e c:End}{fs:List End}(f:df n e fs)(h:c∈fs):∃ k,it (step n) k e=c:=by
 obtain⟨i,hi,e1⟩:=Dm.mp h;have:=f.at' i hi;rw [Ab hi,e1] at this;exact⟨i,(Option.some.inj this).symm⟩
open PySem
def aZ:List Bool->Bool
 | []=>false
 | b :: l=>b ^^ aZ l
theorem xI:∀(a b:List Bool),aZ (a++b)=(aZ a ^^ aZ b)
 | [],b=>by simp [aZ]
 | x :: a,b=>by
  show(x ^^ aZ (a++b))=((x ^^ aZ a) ^^ aZ b);rw [xI a b,Bool.xor_assoc]
theorem YR{a b:List Bool}(h:a.Perm b):aZ a=aZ b:=by
 induction h with
 | nil=>rfl
 | cons x _ ih=>show(x ^^ _)=(x ^^ _);rw [ih]
 | swap x y l=>show(y ^^ (x ^^ aZ l))=(x ^^ (y ^^ aZ l));cases x <;> cases y <;> simp
 | trans _ _ h1 h2=>exact h1.trans h2
theorem EC{α:Type}(f g:α->Bool):∀ l:List α,aZ (l.map λx=>f x ^^ g x)=(aZ (l.map f) ^^ aZ (l.map g))
 | []=>rfl
 | x :: l=>by
  show((f x ^^ g x) ^^ aZ (l.map λx=>f x ^^ g x))=((f x ^^ aZ (l.map f)) ^^ (g x ^^ aZ (l.map g)));rw [EC f g l];cases f x <;> cases g x <;> cases aZ (l.map f) <;> cases aZ (l.map g) <;> rfl
def fN(n:Net)(s:Str->Bool):Prop:=∀ r,aZ ((row n r).map s)=false
structure a8(n:Net)(s:Str->Bool)(χ:End->Bool):Prop where
 go:∀ e∈ends n,χ (step n e)=χ e
 eQ:∀ e z,aM n e=some z->s z=(χ e ^^ χ (other n e))
def RS(n:Net):Prop:=∀ s:Str->Bool,fN n s->∃ χ,a8 n s χ
theorem YS(n:Net)(r:Nat)(s:Str->Bool)(g:End->Bool)(h:∀ p z,(row n r)[p]?=some z->s z=g (r,p)):(row n r).map s=(List.range (row n r).length).map λp=>g (r,p):=by
 apply De;intro p;rw [Af,Af]
 by_cases hp:p < (row n r).length
 ·rw [Ab hp,Ee hp];exact CG some<|h p _<|Ab hp
 ·rw [Bw (by omega),Bw<|by simp;omega];rfl
theorem YT(f:Nat->Bool)(m:Nat):aZ ((List.range m).map λp=>f<|(p+1) % m)=aZ ((List.range m).map f):=by
 cases m with
 | zero=>rfl
 | succ k=>
  have e:(List.range<|k+1).map (λp=>f<|(p+1) % (k+1))=((List.range k).map λp=>f<|p+1)++[f 0]:=by
   rw [Fy,Am]
   congr 1
   ·refine Dr λp hp=>?_;have:=Bu.mp hp;show f ((p+1) % (k+1))=f (p+1);rw [Cm<|by omega]
   ·simp
  rw [e,List.range_succ_eq_map,Bb,Cf,xI];show _=(f 0 ^^ aZ ((List.range k).map<|f ∘ Nat.succ));show(aZ ((List.range k).map λp=>f<|p+1) ^^ (f 0 ^^ false))=(f 0 ^^ aZ ((List.range k).map λp=>f<|p+1));cases f 0 <;> cases aZ ((List.range k).map λp=>f<|p+1) <;> rfl
theorem a8.even{n:Net}(T:aC n){s:Str->Bool}{χ:End->Bool}(h:a8 n s χ):fN n s:=by
 intro r;rw [YS n r s (λe=>χ e ^^ χ (other n e)) λp z hz=>h.eQ (r,p) z hz];rw [EC (λp=>χ (r,p)) λp=>χ<|other n (r,p)];have e:((List.range (row n r).length).map λp=>χ<|other n (r,p))=(List.range (row n r).length).map λp=>χ (r,(p+1) % (row n r).length):=by
  refine Dr λp hp=>?_;have hp:=Bu.mp hp;obtain⟨z,hz⟩:=wQ (n:=n) (e:=(r,p)) hp;obtain⟨h1,h2,_⟩:=iB T hz;have:=h.go (other n (r,p))<|ag.mpr ⟨z,h1⟩;rw [<- this];show χ (left n (other n<|other n (r,p)))=_;rw [h2];rfl
 rw [e,YT λp=>χ (r,p)];cases aZ ((List.range (row n r).length).map λp=>χ (r,p)) <;> rfl
theorem a8.xor{n:Net}{s t:Str->Bool}{χ ψ:End->Bool}(h:a8 n s χ)(g:a8 n t ψ):a8 n (λz=>s z ^^ t z) (λe=>χ e ^^ ψ e):=by
 refine⟨λe he=>?_,λe z hz=>?_⟩
 ·rw [h.go e he,g.go e he]
 ·show(s z ^^ t z)=((χ e ^^ ψ e) ^^ (χ (other n e) ^^ ψ (other n e)));rw [h.eQ e z hz,g.eQ e z hz];cases χ e <;> cases ψ e <;> cases χ (other n e) <;> cases ψ (other n e) <;> rfl
theorem fN.xor{n:Net}{s t:Str->Bool}(h:fN n s)(g:fN n t):fN n (λz=>s z ^^ t z):=λr=>by
 rw [EC s t,h r,g r];rfl
section
variable{n m:Net}{g:End->End}{e1 e2:End}{z:Str}
theorem eC.mark(p:eC n m g e1 e2 z)(χ:End->Bool)(a:Bool):∃ χ':End->Bool,(∀ e∈ends n,χ' (g e)=χ e)/\χ' e1=a/\χ' e2=a:=by
 refine⟨λx=>if x=e1 then a else if x=e2 then a else match (ends n).find? (λe=>decide (g e=x)) with | some e=>χ e | none=>false,λe he=>?_,?_,?_⟩
 ·show(if g e=e1 then a else if g e=e2 then a else match (ends n).find? (λe'=>decide (g e'=g e)) with | some e=>χ e | none=>false)=χ e;rw [BK<|p.n1 e he,BK<|p.n2 e he];cases hf:(ends n).find? (λe'=>decide (g e'=g e)) with
  | none=>exact absurd (BW (rfl:g e=g e))<|by simpa using Eh.mp hf e he
  | some e'=>
   have h5:=Gs hf;have h5:g e'=g e:=BZ h5;rw [p.inj _ _ h5]
 ·simp
 ·simp
theorem eC.jP(p:eC n m g e1 e2 z)(T:aC n)(T':aC m){s:Str->Bool}{χ:End->Bool}(h:a8 n s χ)(hz:s z=false){a:Bool}
  (st:∀ x∈ends n,step m (g x)=g (step n x)\/((step m (g x)=e1\/step m (g x)=e2)/\χ (step n x)=a))
  (s1:step m e1=e1\/step m e1=e2\/∃ k∈ends n,step m e1=g k/\χ k=a) (s2:step m e2=e1\/step m e2=e2\/∃ k∈ends n,step m e2=g k/\χ k=a):∃ χ',a8 m s χ':=by
 obtain⟨χ',h1,h2,h3⟩:=p.mark χ a;have jQ:∀ x∈ends m,(∃ e∈ends n,x=g e)\/x=e1\/x=e2:=λx hx=>by
  have:=p.perm.mem_iff.mpr hx
  rcases An.mp this with q | q
  ·obtain⟨e,he,rfl⟩:=Al.mp q;exact .inl ⟨e,he,rfl⟩
  ·simp only [Ai,Bt,FQ] at q;exact .inr q
 refine⟨χ',λx hx=>?_,λx y hy=>?_⟩
 ·rcases jQ x hx with ⟨e,he,rfl⟩ | rfl | rfl
  ·rw [h1 e he]
   rcases st e he with q | ⟨q,qa⟩
   ·rw [q,h1 _<|lK T he,h.go e he]
   ·rw [h.go e he] at qa
    rcases q with q | q
    ·rw [q,h2,qa]
    ·rw [q,h3,qa]
  ·rcases s1 with q | q | ⟨k,hk,q,qa⟩
   ·rw [q]
   ·rw [q,h2,h3]
   ·rw [q,h1 k hk,h2,qa]
  ·rcases s2 with q | q | ⟨k,hk,q,qa⟩
   ·rw [q,h2,h3]
   ·rw [q]
   ·rw [q,h1 k hk,h3,qa]
 ·rcases jQ x (ag.mpr ⟨y,hy⟩) with ⟨e,he,rfl⟩ | rfl | rfl
  ·rw [p.eQ e he] at hy;obtain⟨o1,_,_⟩:=iB T hy;rw [p.gU T T' he,h1 e he,h1 _<|ag.mpr ⟨y,o1⟩];exact h.eQ e y hy
  ·rw [p.t1] at hy;cases hy;rw [p.o1 T',h2,h3,hz];cases a <;> rfl
  ·rw [p.t2] at hy;cases hy;rw [p.o2 T',h2,h3,hz];cases a <;> rfl
theorem N6(T':aC m){ψ:End->Bool}(hψ:∀ e∈ends m,ψ (step m e)=ψ e)(t1:aM m e1=some z)(ho:other m e1=e2)(ne:ψ e1≠ψ e2)(h0:∀ s,fN m s->s z=false->∃ χ,a8 m s χ):RS m:=by
 intro s hs
 by_cases hz:s z=false
 ·exact h0 s hs hz
 ·have hz:s z=true:=by cases h:s z with | true=>rfl | false=>exact absurd h hz
  let t:Str->Bool:=λy=>match (ends m).find? (λe=>decide (aM m e=some y)) with | some e=>ψ e ^^ ψ (other m e) | none=>false
  have ht:a8 m t ψ:=by
   refine⟨hψ,λe y hy=>?_⟩;show(match (ends m).find? (λe=>decide (aM m e=some y)) with | some e=>ψ e ^^ ψ (other m e) | none=>false)=_;cases hf:(ends m).find? (λe=>decide (aM m e=some y)) with
   | none=>exact absurd (BW hy)<|by simpa using Eh.mp hf e (ag.mpr ⟨y,hy⟩)
   | some e'=>
    have h5:=Gs hf;have h':aM m e'=some y:=BZ h5
    by_cases q:e'=e
    ·rw [q]
    ·have o1:=gK T' h' hy q;have o2:=gK T' hy h'<|CJ q;show(ψ e' ^^ ψ (other m e'))=_;rw [o1,o2];cases ψ e <;> cases ψ e' <;> rfl
  have tz:t z=true:=by
   rw [ht.eQ e1 z t1,ho];cases h1:ψ e1 <;> cases h2:ψ e2 <;> simp_all
  obtain⟨χ,hχ⟩:=h0 (λy=>s y ^^ t y) (hs.xor<|ht.even T') (by show(s z ^^ t z)=false;rw [hz,tz];rfl);have:=hχ.xor ht;refine⟨λe=>χ e ^^ ψ e,this.go,λe y hy=>?_⟩;rw [<- this.eQ e y hy];show s y=((s y ^^ t y) ^^ t y);cases s y <;> cases t y <;> rfl
theorem ED{n:Net}{c:End}{z:Str}(hc:c.1 < n.length){s:Str->Bool}(hz:s z=false)(r:Nat):aZ ((row (ins n c z) r).map s)=aZ ((row n r).map s):=by
 rw [qR n c z r hc]
 by_cases h:c.1=r
 ·rw [BR h,Am,Bb,xI];show(aZ (((row n r).take c.2).map s) ^^ (s z ^^ aZ (((row n r).drop c.2).map s)))=_;rw [hz,Bool.false_xor,<- xI,<- Am,Cj]
 ·rw [BK h]
theorem Dec.mark{α:Type} [DecidableEq α] {f:α->α} {D:List α} {Ls:List (List α)} (d:Dec f D Ls) {l:List α} (hl:l∈Ls):∀ x∈D,(f x∈l↔x∈l):=by
 intro x hx;obtain⟨A,B,rfl⟩:=Fd hl;have d':Dec f D (l :: (A++B)):=⟨λk hk=>d.fK k (by
  rcases Ai.mp hk with rfl | hk
  ·exact hl
  ·rcases An.mp hk with q | q
   ·exact Aw _ q
   ·exact Ap _<|Aj _ q),by
  refine List.Perm.trans ?_ d.all;rw [Cg,Fu,Fu,Cg,<- Ba,<- Ba];exact(Cn).append_right _,d.nd⟩
 have cl:∀ k∈l :: (A++B),∀ x∈k,f x∈k:=λk hk x hx=>by
  obtain⟨c,hc,p⟩:=d'.fK k hk;exact qZ p hc hx
 by_cases h:x∈l
 ·exact⟨λ_=>h,λ_=>cl l Ad x h⟩
 ·refine⟨λq=>?_,λq=>absurd q h⟩
  exfalso
  obtain⟨k,hk,N7⟩:=Du.mp<|d'.all.mem_iff.mpr hx
  rcases Ai.mp hk with rfl | jE
  ·exact h N7
  ·exact d'.apart.2 k jE _ q<|cl k hk x N7
theorem EE{s:Str->Bool}{χ:End->Bool}(T:aC n)(h:a8 n s χ){a:End}(ha:a∈ends n):∀ k,χ (it (step n) k a)=χ a
 | 0=>rfl
 | k+1=>by
  show χ (step n<|it (step n) k a)=_;rw [h.go _<|jL (λx hx=>lK T hx) ha k,EE T h ha k]
theorem YV(p:eC n m g e1 e2 z)(T:aC n)(T':aC m){k1 k2:End}(h1:k1∈ends n)(h2:k2∈ends n)(ne:k2≠k1)(same:(∃ k,it (step n) k k1=k2)\/∃ k,it (step n) k k2=k1)
  (l1:left m e1=g k1) (l2:left m e2=g k2) (lf:∀ e∈ends n,left m (g e)=if left n e=k1 then e1 else if left n e=k2 then e2 else g (left n e))
  {Ls:List (List End)} (d:Dec (step n) (ends n) Ls) (ev:∀ s,fN m s->s z=false->fN n s) (R:RS n):RS m:=by
 have st:∀ x∈ends n,step m (g x)=if step n x=k1 then e1 else if step n x=k2 then e2 else g (step n x):=λx hx=>by
  unfold step;rw [p.gU T T' hx];exact lf _<|gX T hx
 have s1:step m e1=g k2:=by unfold step;rw [p.o1 T'];exact l2
 have s2:step m e2=g k1:=by unfold step;rw [p.o2 T'];exact l1
 obtain⟨l,Ms,hL,d⟩:=d.pick h1;have hk:=d.one h2 same ne;obtain⟨rg,Yj,d',w,hw,w2,w1⟩:=d.split (f':=step m) (g:=g) hk (e1:=e1) (e2:=e2) s1 s2
  (λx hx e=>by rw [st x hx,BR e]) (λx hx e=>by rw [st x hx,BK (by rw [e];exact ne),BR e]) (λx hx a b=>by rw [st x hx,BK a,BK b]) p.nd
 have dm:=d'.perm p.perm;refine N6 T' (ψ:=λx=>decide (x∈w)) (λx hx=>decide_eq_decide.mpr<|dm.mark hw x hx) p.t1 (p.o1 T') (by show decide (e1∈w)≠decide (e2∈w);rw [BX w1,BW w2];decide) λs hs hz=>?_;obtain⟨χ,hχ⟩:=R s<|ev s hs hz;have ek:χ k2=χ k1:=by
  rcases same with ⟨k,e⟩ | ⟨k,e⟩
  ·rw [<- e];exact EE T hχ h1 k
  ·rw [<- e];exact(EE T hχ h2 k).symm
 refine p.jP T T' hχ hz (a:=χ k1) (λx hx=>?_) (.inr<|.inr ⟨k2,h2,s1,ek⟩)<|.inr<|.inr ⟨k1,h1,s2,rfl⟩;rw [st x hx]
 by_cases c1:step n x=k1
 ·rw [BR c1];exact .inr ⟨.inl rfl,by rw [c1]⟩
 ·rw [BK c1]
  by_cases c2:step n x=k2
  ·rw [BR c2];exact .inr ⟨.inr rfl,by rw [c2,ek]⟩
  ·rw [BK c2];exact .inl rfl
theorem YW(p:eC n m g e1 e2 z)(T:aC n)(T':aC m){c:End}(h1:c∈ends n)(l1:left m e1=g c)(l2:left m e2=e1)(lf:∀ e∈ends n,left m (g e)=if left n e=c then e2 else g (left n e))
  (ev:∀ s,fN m s->s z=false->fN n s) (R:RS n):RS m:=by
 have st:∀ x∈ends n,step m (g x)=if step n x=c then e2 else g (step n x):=λx hx=>by
  unfold step;rw [p.gU T T' hx];exact lf _<|gX T hx
 have s1:step m e1=e1:=by unfold step;rw [p.o1 T'];exact l2
 have s2:step m e2=g c:=by unfold step;rw [p.o2 T'];exact l1
 have xJ:e1∈ends m:=ag.mpr ⟨z,p.t1⟩;refine N6 T' (ψ:=λx=>decide (x=e1)) (λx hx=>?_) p.t1 (p.o1 T') (by show decide (e1=e1)≠decide (e2=e1);rw [BW rfl,BX p.ne.symm];decide) λs hs hz=>?_
 ·by_cases q:x=e1
  ·rw [q,s1]
  ·show decide (step m x=e1)=decide (x=e1);rw [BX q];exact BX λe=>q<|wR T' hx xJ<|by rw [e,s1]
 obtain⟨χ,hχ⟩:=R s<|ev s hs hz;refine p.jP T T' hχ hz (a:=χ c) (λx hx=>?_) (.inl s1)<|.inr<|.inr ⟨c,h1,s2,rfl⟩;rw [st x hx]
 by_cases c1:step n x=c
 ·rw [BR c1];exact .inr ⟨.inr rfl,by rw [c1]⟩
 ·rw [BK c1];exact .inl rfl
theorem YX(p:eC n m g e1 e2 z)(T:aC n)(T':aC m){c:End}(h1:c∈ends n)(l1:left m e1=g c)(l2:left m e2=e2)(lf:∀ e∈ends n,left m (g e)=if left n e=c then e1 else g (left n e))
  (hz:∀ s,fN m s->s z=false) (ev:∀ s,fN m s->s z=false->fN n s) (R:RS n):RS m:=by
 have st:∀ x∈ends n,step m (g x)=if step n x=c then e1 else g (step n x):=λx hx=>by
  unfold step;rw [p.gU T T' hx];exact lf _<|gX T hx
 have s1:step m e1=e2:=by unfold step;rw [p.o1 T'];exact l2
 have s2:step m e2=g c:=by unfold step;rw [p.o2 T'];exact l1
 intro s hs;have hz:=hz s hs;obtain⟨χ,hχ⟩:=R s<|ev s hs hz;refine p.jP T T' hχ hz (a:=χ c) (λx hx=>?_) (.inr<|.inl s1)<|.inr<|.inr ⟨c,h1,s2,rfl⟩;rw [st x hx]
 by_cases c1:step n x=c
 ·rw [BR c1];exact .inr ⟨.inl rfl,by rw [c1]⟩
 ·rw [BK c1];exact .inl rfl
end
section
variable{n:Net}{z:Str}
theorem YY{k1 k2:End}(T:aC n)(T':aC<|ins (ins n k1 z) k2 z)(h1:k1∈ends n)(h2:k2∈ends n)(ord:k2=k1\/sh k1 k2=k2)(same:(∃ k,it (step n) k k1=k2)\/∃ k,it (step n) k k2=k1)(P:Pl n)(R:RS n):RS (ins (ins n k1 z) k2 z):=by
 have r1:=eF h1;have r2:=eF h2;have p:=NA (z:=z) (k1:=k1) (k2:=k2) ⟨r1.1,Bc r1.2⟩ ⟨r2.1,Bc r2.2⟩;have c2:k2.1 < (ins n k1 z).length:=by rw [cD];exact r2.1
 have rl:∀ i,(row n i).length<=(row (ins n k1 z) i).length:=λi=>by
  rw [kz r1.1<|Bc r1.2]
  split <;> omega
 have p2:k2.2 < (row (ins n k1 z) k2.1).length:=Bg r2.2<|rl _;have p1:k1.2 < (row (ins n k1 z) k1.1).length:=Bg r1.2<|rl _;have sl:∀ e∈ends n,(sh k1 e).2 < (row (ins n k1 z) (sh k1 e).1).length:=λe he=>by
  obtain⟨y,hy⟩:=ag.mp he;exact jK (z:=y)<|by rw [gL r1.1<|Bc r1.2];exact hy
 have l0:left (ins n k1 z) k1=sh k1 k1:=jr r1.1 r1.2;have ev:∀ s,fN (ins (ins n k1 z) k2 z) s->s z=false->fN n s:=λs hs hz r=>by
  rw [<- ED r1.1 hz r,<- ED c2 hz r];exact hs r
 by_cases e:k2=k1
 ·subst e;refine YW p T T' h1 ?_ (jr c2 p2) (λe he=>?_) ev R
  ·rw [dC c2 p2 p1,l0,BK<|dv _ _]
  ·show left _ (sh k2<|sh k2 e)=_;rw [dC c2 p2<|sl e he,dC r1.1 r1.2 (eF he).2]
   by_cases q:left n e=k2
   ·rw [BR q,BR rfl,BR q]
   ·rw [BK q,BK<|dv _ _,BK q]
 ·have hs:sh k1 k2=k2:=ord.resolve_left e
  rcases P with ⟨t0,_⟩ | ⟨Ls,d,_⟩
  ·obtain⟨y,hy⟩:=ag.mp h1;have:=fk hy;rw [t0] at this;cases this
  refine YV p T T' h1 h2 e same ?_ ?_ (λe' he=>?_) d ev R
  ·rw [dC c2 p2 p1,l0,BK λq=>e<|dQ (c:=k1)<|by rw [hs,q]]
  ·show left _ k2=sh k2 (sh k1 k2);rw [hs];exact jr c2 p2
  ·show left _ (sh k2<|sh k1 e')=if left n e'=k1 then sh k2 k1 else if left n e'=k2 then k2 else sh k2 (sh k1<|left n e');rw [dC c2 p2<|sl e' he,dC r1.1 r1.2 (eF he).2]
   by_cases q:left n e'=k1
   ·rw [BR q,BR q,BK λx=>e x.symm]
   ·rw [BK q,BK q]
    by_cases q2:left n e'=k2
    ·rw [BR q2,q2,hs,BR rfl]
    ·rw [BK q2,BK λx=>q2<|dQ (c:=k1)<|by rw [x,hs]]
theorem YZ{c:End}{pt:Str}(T:aC n)(T':aC<|ins n c z++[(pt,[z])])(h1:c∈ends n)(R:RS n):RS (ins n c z++[(pt,[z])]):=by
 have r1:=eF h1;have p:=ND (z:=z) (c:=c) (pt:=pt) ⟨r1.1,Bc r1.2⟩;have la:∀ e:End,e.1 < n.length->left (ins n c z++[(pt,[z])]) e=left (ins n c z) e:=λe he=>by
  unfold left;rw [mY<|by rw [cD];exact he]
 have jR:=xD (a:=ins n c z) (x:=(pt,[z]));rw [cD] at jR;refine YX p T T' h1 ?_ ?_ (λe he=>?_) (λs hs=>?_) (λs hs hz r=>?_) R
 ·rw [la _ r1.1];exact jr r1.1 r1.2
 ·unfold left;show(n.length,(0+1) % (row _ n.length).length)=_;rw [jR];exact CG (Prod.mk _)<|Er 1
 ·rw [la _<|by rw [g6];exact(eF he).1];exact dC r1.1 r1.2 (eF he).2
 ·have:=hs n.length;rw [jR] at this;have:(s z ^^ false)=false:=this
  simpa using this
 ·by_cases h:r < n.length
  ·have:=hs r;rw [mY (by rw [cD];exact h),ED r1.1 hz r] at this;exact this
  ·have:row n r=[]:=by
    unfold row;rw [Bw<|by omega];rfl
   rw [this];rfl
end
theorem Y1{nm:Str}:RS [(nm,[])]:=λs _=>⟨λ_=>false,λe he=>rfl,λe y hy=>by
 have:=fk hy;cases this⟩
theorem Y6{nm pt z:Str}(T':aC [(nm,[z]),(pt,[z])]):RS [(nm,[z]),(pt,[z])]:=λs hs=>⟨λ_=>false,λe he=>rfl,λe y hy=>by
 have h:=fk hy;have:y=z:=by simpa [af] using h
 rw [this];have:=hs 0;have:(s z ^^ false)=false:=this
 simpa using this⟩
theorem Y7{nm z:Str}(T':aC [(nm,[z,z])]):RS [(nm,[z,z])]:=λs _=>by
 have t1:aM [(nm,[z,z])] (0,0)=some z:=rfl;have t2:aM [(nm,[z,z])] (0,1)=some z:=rfl;have o1:=gK T' t1 t2 (by decide);have o2:=gK T' t2 t1 (by decide);have hE:ends [(nm,[z,z])]=[(0,0),(0,1)]:=rfl;refine⟨λe=>decide (e=(0,0)) && s z,λe he=>?_,λe y hy=>?_⟩
 ·rw [hE] at he;simp only [Ai,Bt,FQ] at he
  rcases he with rfl | rfl
  ·show(decide (left [(nm,[z,z])] (other [(nm,[z,z])] (0,0))=(0,0)) && s z)=_;rw [o1];simp [left,row]
  ·show(decide (left [(nm,[z,z])] (other [(nm,[z,z])] (0,1))=(0,0)) && s z)=_;rw [o2];simp [left,row]
 ·have h:=fk hy;have e1:y=z:=by simpa [af] using h
  have he:=ag.mpr ⟨y,hy⟩;rw [hE] at he;simp only [Ai,Bt,FQ] at he;rw [e1]
  rcases he with rfl | rfl
  ·rw [o1];simp
  ·rw [o2];simp
def Fl(n:Net):Prop:=Pl n/\RS n
theorem Y8{nm:Str}:Fl [(nm,[])]:=⟨.inl ⟨rfl,rfl⟩,Y1⟩
theorem Y9{n:Net}{c:End}{z pt:Str}(T:aC n)(F:Full n)(hz:z∉af n)(hc:du n c) (hp:(af<|ins n c z++[(pt,[z])]).Perm<|z :: z :: af n) (P:Fl n):Fl (ins n c z++[(pt,[z])]):=by
 refine⟨YJ T F hz hc hp P.1,?_⟩;have T':=xG hp T hz
 rcases xH F with ⟨nm,rfl⟩ | h0
 ·have:=rh hc;subst this;exact Y6 T'
 ·exact YZ T T' (F.cz h0 hc) P.2
theorem Za{n:Net}{k1 k2:End}{z:Str}(T:aC n)(F:Full n)(hz:z∉af n)(h1:du n k1)(h2:du n k2) (hp:(af<|ins (ins n k1 z) k2 z).Perm<|z :: z :: af n) (ord:k2=k1\/sh k1 k2=k2) (same:(∃ k,it (step n) k k1=k2)\/∃ k,it (step n) k k2=k1) (P:Fl n):Fl (ins (ins n k1 z) k2 z):=by
 refine⟨YK T F hz h1 h2 hp ord same P.1,?_⟩;have T':=xG hp T hz
 rcases xH F with ⟨nm,rfl⟩ | h0
 ·have:=rh h1;subst this;have:=rh h2;subst this;exact Y7 T'
 ·exact YY T T' (F.cz h0 h1) (F.cz h0 h2) ord same P.1 P.2
theorem Zb{n m:Net}{g:End->End}(T:aC n)(T':aC m)(ht:(af m).length=(af n).length)(eQ:∀ e∈ends n,aM m (g e)=aM n e)(inj:∀ a∈ends n,∀ b∈ends n,g a=g b->a=b)
  (lf:∀ e∈ends n,left m (g e)=g (left n e)) (ev:∀ s,fN m s->fN n s) (R:RS n):RS m:=by
 have t8:∀ x∈ends m,∃ e∈ends n,x=g e:=by
  have nd:((ends n).map g).Nodup:=by
   have:∀(l:List End),(∀ x∈l,x∈ends n)->l.Nodup->(l.map g).Nodup:=by
    intro l
    induction l with
    | nil=>intro _ _;exact Cd
    | cons x l ih=>
     intro hs h;have h:=Bn.mp h;rw [Bb];refine Bn.mpr ⟨λhx=>?_,ih (λy hy=>hs y<|Aj _ hy) h.2⟩;obtain⟨y,hy,e⟩:=Al.mp hx;have:=inj y (hs y<|Aj _ hy) x (hs x Ad) e;exact h.1<|this ▸ hy
   exact this _ (λx hx=>hx)<|kn n
  have pm:((ends n).map g).Perm (ends m):=by
   refine mX nd (λa ha=>?_) (by rw [Aa,g5,g5,ht];exact Ak _);obtain⟨x,hx,rfl⟩:=Al.mp ha;obtain⟨y,hy⟩:=ag.mp hx;exact ag.mpr ⟨y,by rw [eQ x hx];exact hy⟩
  intro x hx;obtain⟨e,he,q⟩:=Al.mp<|pm.mem_iff.mpr hx;exact⟨e,he,q.symm⟩
 intro s hs;obtain⟨χ,hχ⟩:=R s<|ev s hs
 let χ':End->Bool:=λx=>match (ends n).find? (λe=>decide (g e=x)) with | some e=>χ e | none=>false
 have h1:∀ e∈ends n,χ' (g e)=χ e:=λe he=>by
  show(match (ends n).find? (λe'=>decide (g e'=g e)) with | some e=>χ e | none=>false)=χ e;cases hf:(ends n).find? (λe'=>decide (g e'=g e)) with
  | none=>exact absurd (BW (rfl:g e=g e))<|by simpa using Eh.mp hf e he
  | some e'=>
   have h5:=Gs hf;have h5:g e'=g e:=BZ h5;rw [inj _ (List.mem_of_find?_eq_some hf) _ he h5]
 have gU:∀ e∈ends n,other m (g e)=g (other n e):=λe he=>by
  obtain⟨y,hy⟩:=ag.mp he;obtain⟨h1,_,h3⟩:=iB T hy;have ho:other n e∈ends n:=ag.mpr ⟨y,h1⟩;exact gK T' (by rw [eQ e he];exact hy) (by rw [eQ _ ho];exact h1) λh=>h3 (inj _ he _ ho h).symm
 refine⟨χ',λx hx=>?_,λx y hy=>?_⟩
 ·obtain⟨e,he,rfl⟩:=t8 x hx;have:step m (g e)=g (step n e):=by
   unfold step;rw [gU e he];exact lf _<|gX T he
  rw [this,h1 _<|lK T he,h1 e he,hχ.go e he]
 ·obtain⟨e,he,rfl⟩:=t8 x<|ag.mpr ⟨y,hy⟩;rw [eQ e he] at hy;rw [gU e he,h1 e he,h1 _<|gX T he];exact hχ.eQ e y hy
theorem Zc{a:Net}{j i:Nat}{x:Str}(hj:j < a.length)(hi:i < max 1 (row a j).length)(T:aC a) (T':aC<|a.eraseIdx j++[(x,(row a j).drop i++(row a j).take i)])
  (ht:(af<|a.eraseIdx j++[(x,(row a j).drop i++(row a j).take i)]).length=(af a).length) (R:RS a):RS (a.eraseIdx j++[(x,(row a j).drop i++(row a j).take i)]):=by
 obtain⟨g,h1,h2,h3⟩:=NR (x:=x) hj hi;refine Zb T T' ht h1 h2 h3 (λs hs r=>?_) R
 by_cases hr:r < a.length
 ·have:=hs (if r < j then r else if r=j then a.length - 1 else r - 1);rw [NM hj r hr] at this
  by_cases e:r=j
  ·rw [BR e] at this;rw [<- this,e];refine YR<|List.Perm.map s ?_;show(row a j).Perm ((row a j).drop i++(row a j).take i);refine List.Perm.trans ?_ Cn;rw [Cj]
  ·rw [BK e] at this;exact this
 ·have:row a r=[]:=by
   unfold row;rw [Bw<|by omega];rfl
  rw [this];rfl
theorem Zd{n n2 n0:Net}{j i:Nat}{x:Str}(hj:j < n.length)(hi:i < max 1 (row n j).length)(T0:aC n0)(pt:(af n++af n2).Perm<|af n0)
  (fM:(af (n.eraseIdx j)++af (n2++[(x,(row n j).drop i++(row n j).take i)])).Perm<|af n0) (P:Fl<|n++n2):Fl (n.eraseIdx j++(n2++[(x,(row n j).drop i++(row n j).take i)])):=by
 refine⟨YN hj hi T0 pt fM P.1,?_⟩;have tw:∀ m:Net,(af m).Perm (af n0)->aC m:=λm p y hy=>by rw [p.count_eq];exact T0 y<|p.mem_iff.mp hy
 rw [<- N5] at pt fM;have er:row (n++n2) j=row n j:=mY hj;have ee:n.eraseIdx j++(n2++[(x,(row n j).drop i++(row n j).take i)])=(n++n2).eraseIdx j++[(x,(row (n++n2) j).drop i++(row (n++n2) j).take i)]:=by
  rw [MF hj,Ba,er]
 rw [ee] at fM ⊢;exact Zc (by rw [Ae];omega) (by rw [er];exact hi) (tw _ pt) (tw _ fM) (by rw [fM.length_eq,pt.length_eq]) P.2
open L2
def bh(n:Net)(r:Nat):Str:=((n[r]?).map (·.1)).getD ⟨#[]⟩
theorem pq{n:Net}{r:Nat}(h:r < n.length):bh n r=n[r].1:=by unfold bh;rw [Ab h];rfl
abbrev Lk:=Str×Str×Str
def pv(n:Net)(x:Lk):Prop:=∃ a b,pos n x.1=[a,b]/\x.2.1=bh n a.1/\x.2.2=bh n b.1
structure iG(n:Net)(done:List<|Str×End)(kM:List<|Key×V)(ls:List Lk):Prop where
 m0:∀ z,b9 done z=[]->aB kM (Sum.inr z)=none
 m1:∀ z a rest,b9 done z=a :: rest->aB kM (Sum.inr z)=some (.str<|bh n a.1)
 mem:∀ x:Lk,x∈ls↔∃ a b rest,b9 done x.1=a :: b :: rest/\x.2.1=bh n a.1/\x.2.2=bh n b.1
 gy:(ls.map (·.1)).Nodup
 dS:kM.length<=done.length
 lR:ls.length<=done.length
theorem iG.start(n:Net):iG n [] [] []:=⟨λ_ _=>rfl,λz a rest h=>(by cases h),λx=>⟨λh=>(by cases h),λ⟨a,b,rest,h,_⟩=>(by cases h)⟩,Cd,Ak _,Ak _⟩
theorem iG.new{n:Net}{done:List (Str×End)}{kM:List (Key×V)}{ls:List Lk}(I:iG n done kM ls){z:Str}{e:End}(h0:b9 done z=[]):iG n (done++[(z,e)]) (putK kM (Sum.inr z)<|.str<|bh n e.1) ls:=by
 refine⟨λy hy=>?_,λy a rest hy=>?_,λx=>?_,I.gy,?_,?_⟩
 ·rw [di] at hy;obtain⟨h1,h2⟩:=Ff.mp hy;have aX:¬ z=y:=λq=>by rw [BR q] at h2;cases h2
  rw [d8,BK λq=>aX (Sum.inr.inj q).symm];exact I.m0 y h1
 ·rw [di] at hy
  by_cases q:z=y
  ·subst q;rw [h0,BR rfl] at hy;cases hy;rw [d8,BR rfl]
  ·rw [BK q,Bj] at hy;rw [d8,BK λp=>q (Sum.inr.inj p).symm];exact I.m1 y a rest hy
 ·rw [I.mem x]
  by_cases q:z=x.1
  ·constructor
   ·rintro ⟨a,b,rest,h,_⟩;rw [<- q,h0] at h;cases h
   ·rintro ⟨a,b,rest,h,_⟩;rw [di,<- q,h0,BR rfl] at h;cases h
  ·constructor
   ·rintro ⟨a,b,rest,h,r⟩;exact⟨a,b,rest,by rw [di,BK q,Bj];exact h,r⟩
   ·rintro ⟨a,b,rest,h,r⟩;rw [di,BK q,Bj] at h;exact⟨a,b,rest,h,r⟩
 ·have:=jh kM (Sum.inr z)<|.str<|bh n e.1;have:=I.dS;rw [Ae,Cv];omega
 ·have:=I.lR;rw [Ae,Cv];omega
theorem iG.old{n:Net}{done:List (Str×End)}{kM:List (Key×V)}{ls:List Lk}(I:iG n done kM ls){z:Str}{a e:End}(h1:b9 done z=[a]):iG n (done++[(z,e)]) kM (ls++[(z,bh n a.1,bh n e.1)]):=by
 have hz:b9 (done++[(z,e)]) z=[a,e]:=by rw [di,h1,BR rfl];rfl
 have Zf:z∉ls.map (·.1):=λh=>by
  obtain⟨x,hx,ex⟩:=Al.mp h;obtain⟨b,c,rest,hp,_⟩:=(I.mem x).mp hx;have ex:x.1=z:=ex;rw [ex,h1] at hp;cases hp
 refine⟨λy hy=>?_,λy b rest hy=>?_,λx=>?_,?_,?_,?_⟩
 ·rw [di] at hy;exact I.m0 y (Ff.mp hy).1
 ·by_cases q:z=y
  ·subst q;rw [hz] at hy;cases hy;exact I.m1 z a [] h1
  ·rw [di,BK q,Bj] at hy;exact I.m1 y b rest hy
 ·rw [An,Ag,I.mem x]
  by_cases q:z=x.1
  ·constructor
   ·rintro (⟨b,c,rest,h,_⟩ | h)
    ·rw [<- q,h1] at h;cases h
    ·subst h;exact⟨a,e,[],hz,rfl,rfl⟩
   ·rintro ⟨b,c,rest,h,r1,r2⟩;rw [<- q,hz] at h;cases h;obtain⟨x1,x2,x3⟩:=x;have q:z=x1:=q;have r1:x2=bh n a.1:=r1;have r2:x3=bh n e.1:=r2;subst q r1 r2;exact .inr rfl
  ·constructor
   ·rintro (⟨b,c,rest,h,r⟩ | h)
    ·exact⟨b,c,rest,by rw [di,BK q,Bj];exact h,r⟩
    ·subst h;exact absurd rfl q
   ·rintro ⟨b,c,rest,h,r⟩;rw [di,BK q,Bj] at h;exact .inl ⟨b,c,rest,h,r⟩
 ·rw [Am];exact kd I.gy Zf
 ·have:=I.dS;rw [Ae,Cv];omega
 ·have:=I.lR;rw [Ae,Ae];show _+1<=_+1;omega
theorem iG.whole{n:Net}(T:aC n){kM:List (Key×V)}{ls:List Lk}(I:iG n (bw n) kM ls)(x:Lk):x∈ls↔pv n x:=by
 rw [I.mem x]
 constructor
 ·rintro ⟨a,b,rest,h,r⟩;have hp:pos n x.1=a :: b :: rest:=h;have ha:aM n a=some x.1:=aP.mp (by rw [hp];exact Ad ..);have hl:=tM n x.1;rw [hp,T x.1<|fk ha] at hl;have:rest=[]:=by
   have:rest.length+1+1=2:=hl;exact Bf.mp<|by omega
  rw [this] at hp;exact⟨a,b,hp,r⟩
 ·rintro ⟨a,b,h,r⟩;exact⟨a,b,[],h,r⟩
inductive Way (ls:List<|Str×Str×Bool) (f:Str):Str->Bool->Prop where
 | here:Way ls f f false
 | there {x y:Str} {b o:Bool}:Way ls f x b->(x,y,o)∈ls->Way ls f y (b != o)
 | back {x y:Str} {b o:Bool}:Way ls f x b->(y,x,o)∈ls->Way ls f y (b != o)
theorem rj{n:Net}(T:aC n){e x:End}{z:Str}(h:aM n e=some z):aM n x=some z↔x=e\/x=other n e:=by
 obtain⟨o1,o2,o3⟩:=iB T h;refine⟨λhx=>?_,λhx=>?_⟩
 ·obtain⟨a,b,hp,gm,he⟩:=qL T h;have mx:x∈pos n z:=aP.mpr hx;have mo:other n e∈pos n z:=aP.mpr o1;rw [hp] at mx mo;simp only [Ai,Bt,FQ] at mx mo
  rcases he with he | he
  ·rcases mx with m | m
   ·exact .inl<|m.trans he.symm
   ·rcases mo with m2 | m2
    ·exact absurd (m2.trans he.symm) o3
    ·exact .inr<|m.trans m2.symm
  ·rcases mx with m | m
   ·rcases mo with m2 | m2
    ·exact .inr<|m.trans m2.symm
    ·exact absurd (m2.trans he.symm) o3
   ·exact .inl<|m.trans he.symm
 ·rcases hx with rfl | rfl
  ·exact h
  ·exact o1
abbrev Bl:=Str×Str×Bool
def has(kvs:List<|Key×V)(x:Str):Prop:=∃ v,aB kvs (Sum.inr x)=some v
def rk(ls:List Bl)(x y:Str)(o:Bool):Prop:=(x,y,o)∈ls\/(y,x,o)∈ls
def t9(ls:List Bl):List Str:=ls.flatMap λl=>[l.1,l.2.1]
theorem N8:∀ ls:List Bl,(t9 ls).length=2 * ls.length
 | []=>rfl
 | l :: r=>by
  show(t9 r).length+1+1=2 * (r.length+1);rw [N8 r];omega
theorem Zg{ls:List Bl}{x y:Str}{o:Bool}(h:rk ls x y o):y∈t9 ls:=by
 rcases h with h | h
 ·exact Gm.mpr ⟨_,h,by simp⟩
 ·exact Gm.mpr ⟨_,h,by simp⟩
theorem EF{κ:Type} [DecidableEq κ] (kvs:List<|κ×V) (k:κ) (v:V):(putK kvs k v).map (·.1)=if k∈kvs.map (·.1) then kvs.map (·.1) else kvs.map (·.1)++[k]:=by
 have e:(kvs.any λkv=>decide (kv.1=k))=decide (k∈kvs.map (·.1)):=by
  rw [Cp,List.any_eq_true,CN,Al];exact⟨λ⟨p,h1,h2⟩=>⟨p,h1,BZ h2⟩,λ⟨p,h1,h2⟩=>⟨p,h1,BW h2⟩⟩
 unfold putK;rw [e]
 by_cases h:k∈kvs.map (·.1)
 ·rw [BR<|BW h,BR h,Cf];refine Dr λp _=>?_;show(if p.1=k then(p.1,v) else p).1=p.1
  split <;> rfl
 ·rw [BK (by simpa using h),BK h,Am];rfl
structure dj(ls:List Bl)(f:Str)(hr:Option Str)(kvs:List<|Key×V)(wt:List Str):Prop where
 gy:(kvs.map (·.1)).Nodup
 txt:∀ k∈kvs.map (·.1),∃ x,k=Sum.inr x/\x∈f :: t9 ls
 val:∀ x v,aB kvs (Sum.inr x)=some v->∃ b,v = .bl b/\Way ls f x b
 fst:has kvs f
 xK:∀ x∈wt,has kvs x
 N9:∀ x,some x=hr->has kvs x
 cls:∀ x,has kvs x->x∈wt\/some x=hr\/∀ y o,rk ls x y o->has kvs y
theorem dj.len{ls:List Bl}{f:Str}{hr:Option Str}{kvs:List (Key×V)}{wt:List Str}(I:dj ls f hr kvs wt):kvs.length<=1+2 * ls.length:=by
 have:=aF I.gy (b:=(f :: t9 ls).map Sum.inr) λk hk=>by
  obtain⟨x,e,hx⟩:=I.txt k hk;rw [e];exact Al.mpr ⟨x,hx,rfl⟩
 rw [Aa,Aa,Ao,N8] at this;omega
theorem ua{kvs:List (Key×V)}{k:Key}{v:V}{x:Str}(h:has kvs x):has (putK kvs k v) x:=by
 obtain⟨u,hu⟩:=h;unfold has;rw [d8]
 split
 ·exact⟨_,rfl⟩
 ·exact⟨u,hu⟩
theorem dj.start(ls:List Bl)(f:Str):dj ls f none (putK [] (Sum.inr f)<|.bl false) [f]:=by
 have e:putK ([]:List<|Key×V) (Sum.inr f) (.bl false)=[(Sum.inr f,.bl false)]:=rfl;have hv:∀ x,aB ([(Sum.inr f,.bl false)]:List<|Key×V) (Sum.inr x)=if x=f then some (.bl false) else none:=λx=>by
  rw [<- e,d8]
  by_cases h:x=f
  ·rw [BR h,BR<|by rw [h]]
  ·rw [BK h,BK λq=>h<|Sum.inr.inj q];rfl
 rw [e];refine⟨by simp,λk hk=>⟨f,by simpa using hk,Ad ..⟩,λx v h=>?_,⟨.bl false,by rw [hv f,BR rfl]⟩,λx hx=>?_,λx hx=>by(cases hx),λx hx=>?_⟩
 ·rw [hv x] at h
  by_cases c:x=f
  ·rw [BR c] at h;cases h;subst c;exact⟨false,rfl,.here⟩
  ·rw [BK c] at h;cases h
 ·rw [Ag.mp hx];exact⟨.bl false,by rw [hv f,BR rfl]⟩
 ·obtain⟨v,h⟩:=hx;rw [hv x] at h
  by_cases c:x=f
  ·exact .inl<|Ag.mpr c
  ·rw [BK c] at h;cases h
theorem dj.pop{ls:List Bl}{f h:Str}{kvs:List (Key×V)}{wt:List Str}(I:dj ls f none kvs<|wt++[h]):dj ls f (some h) kvs wt:=by
 refine⟨I.gy,I.txt,I.val,I.fst,λx hx=>I.xK x<|Aw _ hx,λx hx=>(by cases hx;exact I.xK h<|Ap _<|Ag.mpr rfl),λx hx=>?_⟩
 rcases I.cls x hx with c | c | c
 ·rcases An.mp c with c | c
  ·exact .inl c
  ·exact .inr<|.inl<|by rw [Ag.mp c]
 ·cases c
 ·exact .inr<|.inr c
theorem dj.close{ls:List Bl}{f h:Str}{kvs:List (Key×V)}{wt:List Str}(I:dj ls f (some h) kvs wt)(c:∀ y o,rk ls h y o->has kvs y):dj ls f none kvs wt:=by
 refine⟨I.gy,I.txt,I.val,I.fst,I.xK,λx hx=>(by cases hx),λx hx=>?_⟩
 rcases I.cls x hx with d | d | d
 ·exact .inl d
 ·cases d;exact .inr<|.inr c
 ·exact .inr<|.inr d
theorem dj.jS{ls:List Bl}{f:Str}{hr:Option Str}{kvs:List (Key×V)}{wt:List Str}(I:dj ls f hr kvs wt){g:Str}(hg:aB kvs (Sum.inr g)=none):Sum.inr g∉kvs.map (·.1):=by
 intro hm;obtain⟨p,hp,e⟩:=Al.mp hm;have:∃ i:Nat,kvs[i]?=some p:=Br hp;obtain⟨i,hi⟩:=this;have:∀{l:List (Key×V)},(∃ q∈l,q.1=Sum.inr g)->aB l (Sum.inr g)≠none:=λ{l}=>by
  induction l with
  | nil=>rintro ⟨q,hq,_⟩;cases hq
  | cons c r ih=>
   rintro ⟨q,hq,e⟩ hn
   by_cases hc:c.1=Sum.inr g
   ·rw [iu hc] at hn;cases hn
   ·rw [gP hc] at hn
    rcases Ai.mp hq with rfl | hq
    ·exact hc e
    ·exact ih ⟨q,hq,e⟩ hn
 exact this ⟨p,hp,e⟩ hg
theorem dj.Zh{ls:List Bl}{f h:Str}{kvs:List (Key×V)}{wt:List Str}(I:dj ls f (some h) kvs wt):has kvs h:=I.N9 h rfl
theorem dj.add{ls:List Bl}{f h g:Str}{kvs:List (Key×V)}{wt:List Str}{b o:Bool}(I:dj ls f (some h) kvs wt)(hg:aB kvs (Sum.inr g)=none)(hh:aB kvs (Sum.inr h)=some (.bl b))(t:rk ls h g o) :
  dj ls f (some h) (putK kvs (Sum.inr g)<|.bl<|b != o) (wt++[g]):=by
 have ub:=I.jS hg;have hw:Way ls f g (b != o):=by
  obtain⟨b',e,hw⟩:=I.val h _ hh;cases e
  rcases t with t | t
  ·exact .there hw t
  ·exact .back hw t
 refine⟨?_,λk hk=>?_,λx v hv=>?_,ua I.fst,λx hx=>?_,λx hx=>ua<|I.N9 x hx,λx hx=>?_⟩
 ·rw [EF,BK ub];exact kd I.gy ub
 ·rw [EF,BK ub] at hk
  rcases An.mp hk with hk | hk
  ·exact I.txt k hk
  ·exact⟨g,Ag.mp hk,Aj _<|Zg t⟩
 ·rw [d8] at hv
  by_cases c:Sum.inr x=(Sum.inr g:Key)
  ·rw [BR c] at hv;cases hv;rw [Sum.inr.inj c];exact⟨_,rfl,hw⟩
  ·rw [BK c] at hv;exact I.val x v hv
 ·rcases An.mp hx with hx | hx
  ·exact ua<|I.xK x hx
  ·rw [Ag.mp hx];exact⟨_,by rw [d8,BR rfl]⟩
 ·obtain⟨v,hv⟩:=hx;rw [d8] at hv
  by_cases c:Sum.inr x=(Sum.inr g:Key)
  ·exact .inl<|Ap _<|Ag.mpr<|Sum.inr.inj c
  ·rw [BK c] at hv
   rcases I.cls x ⟨v,hv⟩ with d | d | d
   ·exact .inl<|Aw _ d
   ·exact .inr<|.inl d
   ·exact .inr<|.inr λy o' ht=>ua<|d y o' ht
theorem dj.whole{ls:List Bl}{f:Str}{kvs:List (Key×V)}(I:dj ls f none kvs []):∀ x b,Way ls f x b->∃ b',aB kvs (Sum.inr x)=some (.bl b'):=by
 have fh:∀ x b,Way ls f x b->has kvs x:=λx b w=>by
  induction w with
  | here=>exact I.fst
  | there w hm ih=>
   rcases I.cls _ ih with d | d | d
   ·cases d
   ·cases d
   ·exact d _ _<|.inl hm
  | back w hm ih=>
   rcases I.cls _ ih with d | d | d
   ·cases d
   ·cases d
   ·exact d _ _<|.inr hm
 intro x b w;obtain⟨v,hv⟩:=fh x b w;obtain⟨b',e,_⟩:=I.val x v hv;exact⟨b',by rw [hv,e]⟩
open PyProof.Rows (sortedS)
def fw(n:Net):Prop:=∀ P:Str->Prop,(∃ r∈n,P r.1)->(∀ r∈n,∀ s∈n,∀ t,t∈r.2->t∈s.2->P r.1->P s.1)->∀ r∈n,P r.1
theorem Oa{n m:Net}(h1:∀ r∈n,∃ s∈m,s.1=r.1/\∀ t∈r.2,t∈s.2)(h2:∀ s∈m,∃ r∈n,r.1=s.1)(h:fw n):fw m:=by
 rintro P ⟨s,hs,ps⟩ cl s' gR;obtain⟨r,hr,er⟩:=h2 s hs;obtain⟨r',px,Ob⟩:=h2 s' gR;rw [<- Ob];refine h P ⟨r,hr,by rw [er];exact ps⟩ (λa ha b hb t ta tb pa=>?_) r' px;obtain⟨a',Zi,ea,sa⟩:=h1 a ha;obtain⟨b',qY,eb,sb⟩:=h1 b hb;rw [<- eb];exact cl a' Zi b' qY t (sa t ta) (sb t tb)<|by rw [ea];exact pa
theorem Zj(r:Str×List Str):fw [r]:=by
 rintro P ⟨s,hs,ps⟩ _ x hx;rw [Ag] at hs hx;rw [hx,<- hs];exact ps
theorem EG(n:Net)(c:End)(z:Str)(i:Nat):(ins n c z)[i]?=(n[i]?).map λr=>if c.1=i then(r.1,r.2.take c.2++z :: r.2.drop c.2) else r:=by
 unfold ins;rw [Fn]
 by_cases h:c.1=i
 ·simp [h]
 ·simp [h]
theorem EH{n:Net}{c:End}{z:Str}(h:fw n):fw (ins n c z):=by
 refine Oa (λr hr=>?_) (λs hs=>?_) h
 ·obtain⟨i,hi⟩:=Br hr;have e:=EG n c z i;rw [hi] at e;refine⟨_,Aq e,?_,λt ht=>?_⟩
  ·split <;> rfl
  ·split
   ·show t∈r.2.take c.2++z :: r.2.drop c.2;rw [<- Cj c.2 r.2] at ht
    rcases An.mp ht with q | q
    ·exact Aw _ q
    ·exact Ap _<|Aj _ q
   ·exact ht
 ·obtain⟨i,hi⟩:=Br hs;rw [EG,Av] at hi;obtain⟨r,hr,e⟩:=hi;refine⟨r,Aq hr,?_⟩;rw [<- e]
  split <;> rfl
theorem Zk{n:Net}{c:End}{z:Str}(hc:c.1 < n.length):∃ r∈ins n c z,z∈r.2:=by
 have e:=EG n c z c.1;rw [Ab hc] at e;refine⟨_,Aq e,?_⟩;show z∈(if c.1=c.1 then((n[c.1].1,n[c.1].2.take c.2++z :: n[c.1].2.drop c.2):Str×List Str) else n[c.1]).2;rw [BR rfl];exact Ap _<|Ad ..
theorem Zm{n:Net}{z pt:Str}(h:fw n)(hz:∃ r∈n,z∈r.2):fw (n++[(pt,[z])]):=by
 obtain⟨r,hr,zr⟩:=hz;rintro P ⟨s,hs,ps⟩ cl x hx;have mn:((pt,[z]):Str×List Str)∈n++[(pt,[z])]:=Ap _<|Ag.mpr rfl;have ml:∀{y},y∈n->y∈n++[(pt,[z])]:=λhy=>Aw _ hy;have all:∀ y∈n,P y.1:=by
  refine h P ?_ λa ha b hb t ta tb pa=>cl a (ml ha) b (ml hb) t ta tb pa
  rcases An.mp hs with q | q
  ·exact⟨s,q,ps⟩
  ·rw [Ag] at q;subst q;exact⟨r,hr,cl _ mn r (ml hr) z (Ag.mpr rfl) zr ps⟩
 rcases An.mp hx with q | q
 ·exact all x q
 ·rw [Ag] at q;subst q;exact cl r (ml hr) _ mn z zr (Ag.mpr rfl)<|all r hr
theorem Zn{n:Net}(T:aC n){x:Lk}(h:pv n x):∃ e,aM n e=some x.1/\x.2.1=bh n e.1/\x.2.2=bh n (other n e).1:=by
 obtain⟨a,b,hp,h1,h2⟩:=h;have ha:aM n a=some x.1:=aP.mp (by rw [hp];exact Ad ..);have hb:aM n b=some x.1:=aP.mp (by rw [hp];simp);have gT:=MX n x.1;rw [hp] at gT;have gm:b≠a:=λq=>by rw [q] at gT;simp at gT
 rcases (rj T ha).mp hb with q | q
 ·exact absurd q gm
 ·exact⟨a,ha,h1,by rw [h2,q]⟩
theorem Zo{n:Net}(T:aC n){e:End}{z:Str}(h:aM n e=some z):pv n (z,bh n e.1,bh n (other n e).1)\/pv n (z,bh n (other n e).1,bh n e.1):=by
 obtain⟨a,b,hp,gm,hh⟩:=qL T h;have ha:aM n a=some z:=aP.mp (by rw [hp];exact Ad ..);have hb:aM n b=some z:=aP.mp<|by rw [hp];simp
 rcases hh with q | q
 ·subst q;refine .inl ⟨e,b,hp,rfl,?_⟩
  rcases (rj T h).mp hb with q | q
  ·exact absurd q.symm gm
  ·show bh n (other n e).1=bh n b.1;rw [q]
 ·subst q;refine .inr ⟨a,e,hp,?_,rfl⟩
  rcases (rj T h).mp ha with q | q
  ·exact absurd q gm
  ·show bh n (other n e).1=bh n a.1;rw [q]
def eR(n:Net):Str:=bh n 0
theorem rp{n:Net}{i:Nat}(h:i < n.length):bh n i∈n.map (·.1):=by
 rw [pq h];exact Al.mpr ⟨_,Cb h,rfl⟩
theorem Zq{n:Net}(T:aC n){e:End}{z:Str}(h:aM n e=some z):(other n e).1 < n.length:=eW (iB T h).1
theorem xL{X:Cx}{H:Hp}{k:Nat}(z:Str):iA X H k (.str z) (.str z) true:=by
 have:=oR (X:=X) (H:=H) (k:=k) (x:= .str z) (y:= .str z) rfl rfl;have e:cH (.str z) (.str z)=true:=by show(z == z)=true;simp
 rw [e] at this;exact this
theorem Zr{X:Cx}{H:Hp}{a b:Addr}{zs:List Str}(ha:H a=some (Ls zs))(hb:H b=some (Ls zs)):jo X H 1 (.ref a) (.ref b) true:=by
 have q:=B2 (X:=X) (k:=0) (λ_=>true) (al.of (K:=X.K) ha) (al.of (K:=X.K) hb) rfl λj x y hx hy=>by
  rw [hx] at hy;cases hy;rw [Af,Av] at hx;obtain⟨z,_,rfl⟩:=hx;exact xL z
 rw [wM] at q;exact q
theorem Oc{X:Cx}{H:Hp}{k:Nat}{a b:Addr}(h:jo X H k (.ref a) (.ref b) true):iA X H k (.ref a) (.ref b) true:=by
 by_cases e:a=b
 ·subst e;exact MH
 ·exact MI e h
theorem Zt{X:Cx}{H:Hp}{R R':Addr}{as bs:List (Addr×Addr)}{n:Net}(h:ah H R as n)(g:ah H R' bs n):lG X H 3 (.ref R) (.ref R') true:=by
 have q:=wL (X:=X) (k:=2) (λ_=>true) (al.of (K:=X.K) h.lst) (al.of (K:=X.K) g.lst) (by rw [Aa,Aa,h.len,g.len]) λj x y hx hy=>by
  rw [Af,Av] at hx hy;obtain⟨a,ea,rfl⟩:=hx;obtain⟨b,eb,rfl⟩:=hy;have hj:j < n.length:=by
   have:=(Ac.mp ea).1;have:=h.len;omega
  obtain⟨q1,q2⟩:=h.tup j a n[j] ea<|Ab hj;obtain⟨q3,q4⟩:=g.tup j b n[j] eb<|Ab hj;have t:=B5 (X:=X) (k:=1) (λ_=>true) (aK.of (K:=X.K) q1) (aK.of (K:=X.K) q3) rfl λi x y hx hy=>by
   match i with
   | 0=>cases hx;cases hy;exact xL _
   | 1=>cases hx;cases hy;exact Oc<|Zr q2 q4
   | i+2=>simp at hx
  rw [wM] at t;exact Oc t
 rw [wM] at q;exact q
theorem Od{X:Cx}{H:Hp}{k:Nat}(y z:Str):iA X H k (.str y) (.str z) (decide (y=z)):=by
 have:=oR (X:=X) (H:=H) (k:=k) (x:= .str y) (y:= .str z) rfl rfl;have e:cH (.str y) (.str z)=decide (y=z):=by
  show(y == z)=_;rw [Cp,CN];simp
 rw [e] at this;exact this
theorem Zu(ys zs:List Str)(h:ys.length=zs.length):(List.range ys.length).all (λj=>decide (ys[j]?=zs[j]?))=decide (ys=zs):=by
 rw [Cp,Cq,CN]
 constructor
 ·intro q;refine De λj=>?_
  by_cases hj:j < ys.length
  ·exact BZ<|q j<|Bu.mpr hj
  ·rw [Bw (by omega),Bw<|by omega]
 ·rintro rfl j _;exact BW rfl
theorem Zv{X:Cx}{H:Hp}{a b:Addr}{ys zs:List Str}(ha:H a=some (Ls ys))(hb:H b=some (Ls zs)):jo X H 1 (.ref a) (.ref b) (decide (ys=zs)):=by
 by_cases hl:ys.length=zs.length
 ·have q:=B2 (X:=X) (k:=0) (λj=>decide (ys[j]?=zs[j]?)) (al.of (K:=X.K) ha) (al.of (K:=X.K) hb) (by rw [Aa,Aa,hl]) λj x y hx hy=>by
   rw [Af,Av] at hx hy;obtain⟨u,hu,rfl⟩:=hx;obtain⟨v,hv,rfl⟩:=hy;have:=Od (X:=X) (H:=H) (k:=0) u v;have e:decide (ys[j]?=zs[j]?)=decide (u=v):=by
    rw [hu,hv,Cp,CN,CN];exact⟨Option.some.inj,λh=>by rw [h]⟩
   rw [e];exact this
  rw [Aa,Zu ys zs hl] at q;exact q
 ·have e:decide (ys=zs)=false:=BX λq=>hl (by rw [q]);rw [e];exact ML (al.of ha) (al.of hb)<|by rw [Aa,Aa];exact hl
open PyProof.Rows (sortedS)
theorem Zw{kvs:List (Key×V)}{k:Key}{v:V}(hg:aB kvs k=some v):k∈kvs.map (·.1):=by
 refine CV λhn=>?_
 induction kvs with
 | nil=>cases hg
 | cons c r ih=>
  rw [Bb,Ai] at hn;rw [gP λq=>hn<|.inl q.symm] at hg;exact ih hg λq=>hn<|.inr q
open PyProof.Rows (sortedS)
theorem Zx(a b c:List Str)(h:∀ z,z∈c↔(if z∈a then z∉b else z∈b)):∀ zs:List Str,(zs.filter λz=>c.contains z).length % 2=((zs.filter λz=>a.contains z).length+(zs.filter λz=>b.contains z).length) % 2
 | []=>rfl
 | z :: r=>by
  have ih:=Zx a b c h r;have hz:=h z;have ca:=λ(l:List Str)=>(Ci (as:=l) (a:=z));simp only [FrQ]
  by_cases ha:z∈a <;> by_cases hb:z∈b
  ·have hc:z∉c:=λq=>by have:=hz.mp q;rw [BR ha] at this;exact this hb
   rw [BR<|(ca a).mpr ha,BR<|(ca b).mpr hb,BK λq=>hc<|(ca c).mp q,Ao,Ao];omega
  ·have hc:z∈c:=hz.mpr (by rw [BR ha];exact hb);rw [BR<|(ca a).mpr ha,BK λq=>hb<|(ca b).mp q,BR<|(ca c).mpr hc,Ao,Ao];omega
  ·have hc:z∈c:=hz.mpr (by rw [BK ha];exact hb);rw [BK λq=>ha<|(ca a).mp q,BR<|(ca b).mpr hb,BR<|(ca c).mpr hc,Ao,Ao];omega
  ·have hc:z∉c:=λq=>by have:=hz.mp q;rw [BK ha] at this;exact hb this
   rw [BK λq=>ha<|(ca a).mp q,BK λq=>hb<|(ca b).mp q,BK λq=>hc<|(ca c).mp q];exact ih
theorem xM{a:List Str}(hn:a.Nodup):∀ l:List Str,(l.filter λz=>a.contains z).length=(a.map λz=>l.count z).sum
 | []=>by
  have:∀ a:List Str,(a.map λz=>([]:List Str).count z).sum=0:=λa=>by
   induction a with
   | nil=>rfl
   | cons x r ih=>rw [Bb,Hc,ih];rfl
  rw [this];rfl
 | y :: l=>by
  have ih:=xM hn l;have key:∀ a:List Str,(a.map λz=>(y :: l).count z).sum=(a.map λz=>l.count z).sum+a.count y:=λa=>by
   induction a with
   | nil=>rfl
   | cons x r ih=>
    rw [Bb,Hc,ih,Bb,Hc,Ds,Ds]
    by_cases h:y=x
    ·rw [BR (by simp [h]),BR<|by simp [h]];omega
    ·rw [BK (by simpa using h),BK<|by simpa using λq=>h<|Eq.symm q];omega
  rw [key,FrQ,<- ih,hn.count]
  by_cases h:y∈a
  ·rw [BR<|Ci.mpr h,BR h,Ao]
  ·rw [BK λq=>h<|Ci.mp q,BK h];rfl
theorem Zy{n:Net}(T:aC n){ss:List Str}(hn:ss.Nodup)(hm:∀ z∈ss,z∈af n):2 * ss.length<=(af n).length:=by
 have h:=xM hn<|af n;have e:∀ l:List Str,(∀ z∈l,z∈af n)->(l.map λz=>(af n).count z).sum=2 * l.length:=λl=>by
  induction l with
  | nil=>intro _;rfl
  | cons x r ih=>
   intro hl;rw [Bb,Hc,ih λz hz=>hl z<|Aj _ hz,T x<|hl x<|Ad ..,Ao];omega
 rw [e ss hm] at h;rw [<- h];exact SX _ _
def HF(n:Net):Prop:=fw n/\Fl n
theorem Zz{nm:Str}:HF [(nm,[])]:=⟨Zj _,Y8⟩
theorem ZA{n:Net}{c:End}{z pt:Str}(T:aC n)(F:Full n)(hz:z∉af n)(hc:du n c) (hp:(af<|ins n c z++[(pt,[z])]).Perm<|z :: z :: af n) (P:HF n):HF (ins n c z++[(pt,[z])]):=
 ⟨Zm (EH P.1)<|Zk hc.1,Y9 T F hz hc hp P.2⟩
theorem ZC{n:Net}{k1 k2:End}{z:Str}(T:aC n)(F:Full n)(hz:z∉af n)(h1:du n k1)(h2:du n k2) (hp:(af<|ins (ins n k1 z) k2 z).Perm<|z :: z :: af n) (ord:k2=k1\/sh k1 k2=k2) (same:(∃ k,it (step n) k k1=k2)\/∃ k,it (step n) k k2=k1) (P:HF n):HF (ins (ins n k1 z) k2 z):=
 ⟨EH<|EH P.1,Za T F hz h1 h2 hp ord same P.2⟩
theorem ZD{n n2 n0:Net}{j i:Nat}(hj:j < n.length)(hi:i < max 1 (row n j).length)(T0:aC n0)(pt:(af n++af n2).Perm<|af n0)
  (fM:(af (n.eraseIdx j)++af (n2++[(n[j].1,(row n j).drop i++(row n j).take i)])).Perm<|af n0) (P:HF<|n++n2):HF (n.eraseIdx j++(n2++[(n[j].1,(row n j).drop i++(row n j).take i)])):=by
 refine⟨Oa (λr hr=>?_) (λx hx=>?_) P.1,Zd hj hi T0 pt fM P.2⟩
 ·rcases An.mp hr with hx | hx
  ·rcases (bT.bu n j hj).symm.mem_iff.mp hx |> Ai.mp with q | q
   ·refine⟨(n[j].1,(row n j).drop i++(row n j).take i),Ap _<|Ap _<|Ag.mpr rfl,by rw [q],λt ht=>?_⟩;refine(DL (row n j) i).mem_iff.mpr ?_;rw [jO hj,<- q];exact ht
   ·exact⟨r,Aw _ q,rfl,λt h=>h⟩
  ·exact⟨r,Ap _<|Aw _ hx,rfl,λt h=>h⟩
 ·rcases An.mp hx with hx | hx
  ·exact⟨x,Aw _<|Fw hx,rfl⟩
  ·rcases An.mp hx with hx | hx
   ·exact⟨x,Ap _ hx,rfl⟩
   ·rw [Ag] at hx;exact⟨n[j],Aw _<|Cb hj,by rw [hx]⟩
end Nt
namespace B4
open PySem L2 Nt bK
def EI:Sp:=λvs H Q _=>∃(R:Addr) (as:List<|Addr×Addr) (n:Net) (b:Int) (z pt:Str),vs=[.ref R,.int b,.str z,.str pt]/\ah H R as n/\aC n/\Full n/\z∉af n/\n.length<=100/\(af n).length<=100 /\
 ∀ i pz n' H',ah H' R pz n'->o8 H H' (R :: as.map (·.2))->(∀ a∈pz,a∈as\/H a.2=none)->(af n').Perm (z :: z :: af n)->(n'.map (·.1)=n.map (·.1)\/n'.map (·.1)=n.map (·.1)++[pt])->Full n'->(HF n->HF n')->Q (.int i) H'
section
variable{P:Program}{w:World}{K:PySem.W.Frag}{mg:Str->Option Value}{base:Heap}
abbrev NP:List Str:=["_law_rows","_law_big_here","_law_tie","_law_point","_law_corners","_law_r","_law_place","_law_one","_law_kind","_law_face_here","_law_other_here","_law_spot"]
theorem m4:ao NP ["_law_rows","_law_big_here","_law_tie","_law_point"] (aW oY):=⟨rfl,rfl,rfl,by decide +kernel,rfl,by decide +kernel,by decide +kernel⟩
theorem Oe{ts:List Addr}{j:Nat}{t:Addr}(h:ts[j]?=some t):dI (ts.map V.ref) (j:Int)=some (.ref t):=nW<|by rw [Af,h];rfl
theorem ZE{f:Addr}{fd:FuncData}(F:bM K "_law_put" "_law_put" oY f fd)(T:Txt mg)
  (GS:aV P w K mg base 3 "_law_seats" ["_law_rows"] C9)
  (GF:aV P w K mg base 3 "_law_face" ["_law_rows","_law_seats_here","_law_end"] DE) :
  aD P w K mg base bP 4 f fd ["_law_rows","_law_big_here","_law_tie","_law_point"] EI:=by
 refine F.gb m4 (λvs H Q E h=>?_) λb0 H vs Q E hr h=>?_
 ·obtain⟨R,as,n,b,z,pt,rfl,_⟩:=h;rfl
 obtain⟨R,as,n,b,z,pt,rfl,hR,hT,hF,hz,hn,htn,q⟩:=h;have nd:=m4.nd;have hu:=hr.gg;have bB:=hR.len;show Run _ _ _ [some<|.ref R,some<|.int b,some<|.str z,some<|.str pt,none,none,none,none,none,none,none,none] H;refine aN 4 nd<|cO<|au ⟨Z0,λlc Og=>?_⟩;have g0:=aJ Og<|.lst [];refine k4 T.range (bJ cZ T.len CZ<|ai<|ae 0<|au ⟨R,_,rfl,.inl<|al.of<|g0 _ _ hR.lst,_,rfl,by omega,by rw [Aa];omega,?_⟩);rw [Aa,bB,Az];refine k8 (λr σ H3=>∃(ts:List Addr) (cs:List Nt.End) (u1 u2:Option V),aj H H3/\H3 lc=some (.lst<|ts.map V.ref)/\Pd H3 ts cs/\(∀ c∈cs,du n c)/\(0 < r->cs≠[])/\cs.length<=101 * r/\σ=[some<|.ref R,some<|.int b,some<|.str z,some<|.str pt,some<|.ref lc,u1,u2,none,none,none,none,none]) ⟨[],[],_,_,g0,aw,.nil,λc hc=>(nomatch hc),λh=>absurd h (by decide),Ak _,rfl⟩ ?_ ?_
 ·rintro r σ H3 hi ⟨ts,cs,u1,u2,sH,el,ep,hc,aX,hlen,rfl⟩;rw [Dw];refine bx 5 nd ?_;obtain⟨a,ea,dP,et,ZF,er⟩:=(hR.same sH).at hi;have lS:=gZ n r;refine k4 T.range<|bJ (zt rfl) T.max MP<|ai<|ay<|ai<|bJ cZ T.len CZ<|ai<|aS cC<|aS cf<|ae 0<|ae 5 ⟨R,_,_,.ref a.1,rfl,rfl,al.of<|sH _ _ hR.lst,dP,ay ⟨a.1,_,_,.ref a.2,rfl,rfl,aK.of et,rfl,au ⟨a.2,_,rfl,.inl<|al.of ZF,?_⟩⟩⟩;rw [Aa];have em:(if((row n r).length:Int) > 1 then((row n r).length:Int) else 1)=((max 1 (row n r).length:Nat):Int):=by
   split <;> omega
  refine au ⟨1,_,rfl,((max 1 (row n r).length:Nat):Int),by rw [em],by omega,by omega,?_⟩;rw [Az];refine k8 (λp σ H4=>∃(ts:List Addr) (cs:List Nt.End) (u2:Option V),aj H H4/\H4 lc=some (.lst<|ts.map V.ref)/\Pd H4 ts cs/\(∀ c∈cs,du n c)/\(0 < r+p->cs≠[])/\cs.length<=101 * r+p/\σ=[some<|.ref R,some<|.int b,some<|.str z,some<|.str pt,some<|.ref lc,some<|.int (r:Int),u2,none,none,none,none,none]) ⟨ts,cs,_,sH,el,ep,hc,aX,hlen,rfl⟩ ?_ ?_
  ·rintro p σ H4 hp ⟨ts,cs,u2,sH,el,ep,hc,aX,hlen,rfl⟩;rw [Dw];refine bx 6 nd ?_;refine eB<|jn<|ae 4 ⟨lc,rfl,⟨_,el⟩,cM<|ai<|ae 5<|ai<|ae 6<|au ⟨Z2,λt ht=>?_⟩⟩;have mS:lc≠t:=bC el ht;have s2:=aJ ht<|Tp (r,p);have EJ:=ep.length;refine⟨ts.map V.ref,by rw [aq mS];exact el,by rw [Aa];exact cb (by omega),?_⟩;refine aH ⟨ts++[t],cs++[(r,p)],_,dN (sH.trans s2) Og,by rw [aw,Am];rfl,?_,λc h=>?_,λ_=>by simp,by rw [Ae];simp;omega,rfl⟩
   ·refine Pd.append (ep.keep λx e h=>?_)<|.cons ?_ .nil
    ·rw [aq<|tN h el];exact s2 _ _ h
    ·rw [aq mS.symm,aw]
   ·rcases An.mp h with h | h
    ·exact hc c h
    ·rw [Ag] at h;subst h;exact⟨hi,hp⟩
  ·rintro σ H4 ⟨ts,cs,u2,sH,el,ep,hc,aX,hlen,rfl⟩;refine aH ⟨ts,cs,_,_,sH,el,ep,hc,λ_=>aX (by omega),by omega,rfl⟩
 rintro σ H3 ⟨ts,cs,u1,u2,sH,el,ep,hc,aX,hlen,rfl⟩;have AY:0 < n.length:=Ck.mpr hF.some;have jy:=aX AY;have cI:0 < cs.length:=Ck.mpr jy;have EJ:=ep.length;have m0:0<=b % (cs.length:Int):=Bi _ (by omega);have m1:b % (cs.length:Int) < cs.length:=Bo _ (by omega);obtain⟨j,hj⟩:∃ j:Nat,b % (cs.length:Int)=j:=⟨(b % (cs.length:Int)).toNat,by omega⟩;have qU:j < cs.length:=by omega
 have EK:cs[j]?=some cs[j]:=Ab qU;obtain⟨t1,pA,e1⟩:=ep.at EK;have ig:du n cs[j]:=hc _<|Cb qU;generalize cs[j]=c1 at e1 ig;refine aN 7 nd<|aS cf<|ae 4<|aI cr<|ae 1<|bJ cZ T.len CZ<|ai<|ae 4<|au ⟨lc,_,rfl,.inl<|al.of el,?_⟩;rw [Aa,EJ];refine⟨_,_,rfl,rfl,by omega,lc,_,_,.ref t1,rfl,rfl,al.of el,by rw [hj];exact Oe pA,?_⟩;refine aN 1 nd<|aI dz<|ae 1<|bJ cZ T.len CZ<|ai<|ae 4<|au ⟨lc,_,rfl,.inl<|al.of el,?_⟩;rw [Aa,EJ];refine⟨_,_,rfl,rfl,⟨by omega,by omega⟩,?_⟩;show Run _ _ _ [some<|.ref R,some<|.int<|b / (cs.length:Int),some<|.str z,some<|.str pt,some<|.ref lc,u1,u2,some<|.ref t1,none,none,none,none] H3;generalize b / (cs.length:Int)=b2;refine aN 8 nd (aI cr<|ae 1<|ay ⟨_,_,rfl,rfl,(by show(0:Int) < 3;decide),?_⟩);refine aN 1 nd (aI dz<|ae 1<|ay ⟨_,_,rfl,rfl,⟨by decide,by decide⟩,?_⟩);show Run _ _ _ [some<|.ref R,some<|.int<|b2 / 3,some<|.str z,some<|.str pt,some<|.ref lc,u1,u2,some<|.ref t1,some<|.int<|b2 % 3,none,none,none] H3;generalize b2 / 3=b3;have lT:=hR.same sH;obtain⟨a,ea,dP,eta,Oh,era⟩:=lT.at ig.1;have Oi:∀(m:Net),(af m).length<=200->∀ i,(row m i).length<=200:=λm h i=>Cr (gZ m i) h;have cin:c1.2<=(row n c1.1).length:=by
  have:=ig.2;omega
 refine d9<|bX dA<|ae 8<|ay ⟨rfl,_,rfl,?_⟩;refine iS (λ_=>?_) λ_=>aH ?_
 ·
  have rl:=gZ n c1.1;refine eB<|lI CP DX DY mQ<|aS cC<|aS cf<|ae 0<|aS cC<|ae 7<|ay ⟨t1,_,_,.int (c1.1:Int),rfl,rfl,aK.of e1,rfl,R,_,_,.ref a.1,rfl,rfl,al.of lT.lst,dP,ay ⟨a.1,_,_,.ref a.2,rfl,rfl,aK.of eta,rfl,Or.inl ⟨rfl,_,al.of Oh⟩,?_⟩⟩;refine aS cC (ae 7<|ay ⟨t1,_,_,.int (c1.2:Int),rfl,rfl,aK.of e1,rfl,ae 2 ⟨a.2,_,_,_,rfl,rfl,Oh,by omega,by rw [Az,Aa];exact cin,by rw [Aa];exact cb (by omega),?_⟩⟩);rw [Az,qS];have R4:=lT.ins (z:=z) ea ig.1;refine eB<|jn<|ae 0 ⟨R,rfl,⟨_,R4.lst⟩,cM<|ai<|ae 3<|ai<|cO<|ai<|ae 2<|au ⟨Z1,λl1 dh=>?_⟩⟩;refine au ⟨Z2,λt2 fH=>?_⟩;have s5:=aJ dh<|Ls [z];have s6:=aJ fH<|.tup [.str pt,.ref l1];have R6:=(R4.same s5).same s6;refine⟨_,R6.lst,by rw [Aa];exact cb (by omega),?_⟩;have ZG:H3 l1=none:=by
   by_cases q1:l1=a.2
   ·rw [q1,aw] at dh;cases dh
   ·rwa [aq q1] at dh
  have ZH:l1∉as.map (·.2):=λhm=>by
   obtain⟨x,hx,e⟩:=Al.mp hm;exact R4.fresh dh hx e.symm
  have ZI:l1≠R:=λe=>by rw [e,R4.lst] at dh;cases dh
  have R7:=R6.more (t:=t2) (l:=l1) (pt:=pt) (zs:=[z]) aw (s6 _ _ aw) ZH ZI;have tp:(af<|ins n c1 z++[(pt,[z])]).Perm (z :: z :: af n):=by
   unfold af;rw [Dh];show(af (ins n c1 z)++[z]).Perm _;exact(Cn).trans<|(gs n c1 z ig.1).cons z
  refine bY<|ae 1<|q _ _ _ _ R7 (λx o hx fz=>?_) (λx hx=>?_) tp (.inr ?_) ?_ λhP=>ZA hT hF hz ig tp hP
  ·have x1:x≠R:=λe=>fz (by rw [e];exact Ad);have x2:x≠a.2:=λe=>fz (Aj _<|by rw [e];exact Al.mpr ⟨a,Aq ea,rfl⟩);rw [aq x1];refine s6 _ _<|s5 _ _ ?_;rw [aq x2];exact sH _ _ hx
  ·rcases An.mp hx with hx | hx
   ·exact .inl hx
   ·rw [Ag] at hx;subst hx;exact .inr<|sH.free ZG
  ·rw [Am,kq];rfl
  ·refine .inr ⟨by simp,λi hi=>?_⟩;have ZJ:=(DF (z:=z) hF ig.1 hF.either).1;rw [Ae] at hi;simp at hi
   rcases Cy i (ins n c1 z).length with h | h
   ·have:=ZJ i h;unfold row at this ⊢;rw [Ay h];exact this
   ·unfold row;rw [Bd h,show i - (ins n c1 z).length=0 by omega];simp
 ·
  refine aN 9 nd<|cO<|ai<|ae 7<|au ⟨Z1,λlf Oj=>?_⟩;have s4:=aJ Oj<|.lst [.ref t1];have sH4:=sH.trans s4;have kA:=lT.same s4;obtain⟨a0,ZK,pB,xN,EL,ZL⟩:=kA.at AY;have ZM:∀ x∈as,lf≠x.2:=λx hx=>lT.fresh Oj hx;show Run _ _ _ [some<|.ref R,some<|.int b3,some<|.str z,some<|.str pt,some<|.ref lc,u1,u2,some<|.ref t1,some<|.int<|b2 % 3,some<|.ref lf,none,none] (upd H3 lf<|.lst [.ref t1]);refine oU (λk H'=>aj (upd H3 lf<|.lst [.ref t1]) H'/\(k=true->row n 0≠[])) (λσ' H'=>∃(lf:Addr) (ko:List Addr) (fs:List Nt.End),aj H3 H'/\(∀ x∈as,lf≠x.2)/\H' lf=some (.lst<|ko.map V.ref)/\Pd H' ko fs/\0 < fs.length/\fs.length<=1000/\(∀ c∈fs,du n c/\∃ k,it (step n) k c1=c) /\
   σ'=[some<|.ref R,some<|.int b3,some<|.str z,some<|.str pt,some<|.ref lc,u1,u2,some<|.ref t1,some<|.int<|b2 % 3,some<|.ref lf,none,none]) ?_ ?_ (λH5 ⟨s5,_⟩=>aH ⟨lf,[t1],[c1],s4.trans s5,ZM,s5 _ _ aw,.cons (s5 _ _<|s4 _ _ e1) .nil,Gy,by show 1<=1000;decide,λc uc=>by rw [Ag] at uc;rw [uc];exact⟨ig,0,rfl⟩,rfl⟩) ?_
  ·refine bX (lH hu)<|aS cC<|aS cf<|ae 0<|ay ⟨R,_,_,.ref a0.1,rfl,rfl,al.of kA.lst,pB,ay ⟨a0.1,_,_,.ref a0.2,rfl,rfl,aK.of xN,rfl,cO<|au ⟨Z0,λp hp=>?_⟩⟩⟩;have s5:=aJ hp<|.lst []
   by_cases h0:row n 0=[]
   ·refine⟨1,_,by decide,wL (k:=0) (xs:=[]) (ys:=[]) (λ_=>true) (al.of<|by rw [s5 _ _ EL,h0];rfl) (al.of aw) rfl (λj x y hx _=>by simp at hx),_,rfl,s5,λh=>by cases h⟩
   ·refine⟨1,_,by decide,B3 (k:=1) (al.of<|s5 _ _ EL) (al.of (xs:=[]) aw) (by rw [Aa];intro h;exact h0<|Bf.mp h),_,rfl,s5,λ_=>h0⟩
  ·rintro H4 ⟨ER,h0⟩;have h0:=h0 rfl;have kA:=kA.same ER;have xJ:=hF.cz h0 ig;have EV:=g5 n;refine aN 9 nd (bZ GF hr<|ai<|ae 0<|ai<|bZ GS hr<|ai<|ae 0<|au ⟨R,as,n,rfl,kA,by omega,by omega,λd ks H5 s5 n5 S5=>?_⟩);refine ai (ae 7<|au ⟨R,d,t1,as,n,ks,c1,rfl,kA.same s5,S5,hT,s5 _ _<|ER _ _<|s4 _ _ e1,xJ,by omega,λl6 ZN ZO H6 s6 n6 e6 p6 f6=>?_⟩);exact aH ⟨l6,ZN,ZO,s4.trans<|ER.trans<|s5.trans s6,λx hx=>(kA.same s5).fresh n6 hx,e6,p6,f6.pos,by have:=f6.len;omega,λc uc=>⟨Xi<|f6.ends hT xJ c uc,YQ f6 uc⟩,rfl⟩
  ·rintro σ' H5 ⟨lf,ko,fs,s5,ZP,EW,Ol,ZQ,EX,EZ,rfl⟩;have ud:=Ol.length;have n0:0<=b3 % (fs.length:Int):=Bi _ (by omega);have n1:b3 % (fs.length:Int) < fs.length:=Bo _ (by omega);obtain⟨j2,gM⟩:∃ j:Nat,b3 % (fs.length:Int)=j:=⟨(b3 % (fs.length:Int)).toNat,by omega⟩;have uf:j2 < fs.length:=by omega
   have E1:fs[j2]?=some fs[j2]:=Ab uf;obtain⟨t2,kC,e2⟩:=Ol.at E1;obtain⟨pC,ug⟩:=EZ _<|Cb uf;generalize fs[j2]=c2 at e2 pC ug;have oF:=s5 _ _ e1;refine aN 10 nd<|aS cf<|ae 9<|aI cr<|ae 1<|bJ cZ T.len CZ<|ai<|ae 9<|au ⟨lf,_,rfl,.inl<|al.of EW,?_⟩;rw [Aa,ud];refine⟨_,_,rfl,rfl,by omega,lf,_,_,.ref t2,rfl,rfl,al.of EW,by rw [gM];exact Oe kC,?_⟩;have Om:=lT.same s5;show Run _ _ _ [some<|.ref R,some<|.int b3,some<|.str z,some<|.str pt,some<|.ref lc,u1,u2,some<|.ref t1,some<|.int<|b2 % 3,some<|.ref lf,some<|.ref t2,none] H5;refine kg<|WO T.sorted<|cO<|ai<|ae 7<|ai<|ae 10<|au ⟨Z2,λl2 jf=>?_⟩;have s6:=aJ jf<|.lst [.ref t1,.ref t2];refine⟨l2,t1,t2,(c1.1:Int),(c1.2:Int),(c2.1:Int),(c2.2:Int),rfl,aw,s6 _ _ oF,s6 _ _ e2,λrr Oo=>?_⟩;have rn:∀ x∈as,rr≠x.2:=λx hx=>(Om.same s6).fresh Oo hx;obtain⟨x1,x2,k1,k2,gJ,f1,f2,q1,q2,E2,iH⟩:∃ x1 x2 k1 k2,(if lexLt ((c1.1:Int),(c1.2:Int)) ((c2.1:Int),(c2.2:Int))=true then [V.ref t2,.ref t1] else [.ref t1,.ref t2])=[.ref x1,.ref x2]/\(upd H5 l2<|.lst [.ref t1,.ref t2]) x1=some (Tp k1)/\(upd H5 l2<|.lst [.ref t1,.ref t2]) x2=some (Tp k2)/\du n k1/\du n k2/\(k2=k1\/sh k1 k2=k2)/\((∃ k,it (step n) k k1=k2)\/∃ k,it (step n) k k2=k1):=by
    cases Oq:lexLt ((c1.1:Int),(c1.2:Int)) ((c2.1:Int),(c2.2:Int)) with
    | true=>exact⟨t2,t1,c2,c1,rfl,s6 _ _ e2,s6 _ _ oF,pC,ig,.inr<|YL Oq,.inr ug⟩
    | false=>exact⟨t1,t2,c1,c2,rfl,s6 _ _ oF,s6 _ _ e2,ig,pC,YM Oq,.inl ug⟩
   rw [gJ];have s7:=aJ Oo<|.lst [.ref x1,.ref x2];have f1:=s7 _ _ f1;have f2:=s7 _ _ f2;have s6:=s6.trans s7;have fr:=aw (H:=upd H5 l2<|.lst [.ref t1,.ref t2]) (a:=rr) (o:= .lst [.ref x1,.ref x2]);generalize upd (upd H5 l2<|.lst [.ref t1,.ref t2]) rr (.lst [.ref x1,.ref x2])=H6 at f1 f2 s6 fr ⊢;have m5:aj H H6:=sH.trans<|s5.trans s6;have ZR:=Om.same s6;have uh:o8 H H6 (R :: as.map (·.2)):=λx o hx _=>m5 _ _ hx;refine⟨rr,rfl,⟨_,al.of fr⟩,kh (xs:=[.ref x1,.ref x2]) (λi σ H7=>∃(m:Net) (u:Option V),ah H7 R as m/\o8 H H7 (R :: as.map (·.2))/\H7 rr=some (.lst [.ref x1,.ref x2])/\H7 lf=some (.lst<|ko.map V.ref)/\H7 x1=some (Tp k1)/\H7 x2=some (Tp k2) /\
    ((i=0/\m=n)\/(i=1/\m=ins n k1 z)\/(i=2/\m=ins (ins n k1 z) k2 z))/\σ=[some<|.ref R,some<|.int b3,some<|.str z,some<|.str pt,some<|.ref lc,u1,u2,some<|.ref t1,some<|.int<|b2 % 3,some<|.ref lf,some<|.ref t2,u]) ⟨n,_,ZR,uh,fr,s6 _ _ EW,f1,f2,.inl ⟨rfl,rfl⟩,rfl⟩ ?_ ?_ ?_⟩
   ·rintro i σ H7 _ ⟨m,u,_,_,xO,_⟩;exact al.of xO
   ·rintro i v σ H7 hv ⟨m,u,m6,ui,xO,E3,g1,g2,hm,rfl⟩;have ZS:=(gs n k1 z q1.1).length_eq;rw [Ao] at ZS;obtain⟨y,k,rfl,hy,hk,dk,E4⟩:∃ y k,v = .ref y/\H7 y=some (Tp k)/\du m k/\((i+1=0/\ins m k z=n)\/(i+1=1/\ins m k z=ins n k1 z)\/(i+1=2/\ins m k z=ins (ins n k1 z) k2 z))/\(af m).length<=200:=by
     rcases hm with ⟨rfl,rfl⟩ | ⟨rfl,rfl⟩ | ⟨rfl,rfl⟩
     ·cases hv;exact⟨x1,k1,rfl,g1,q1,.inr<|.inl ⟨rfl,rfl⟩,by omega⟩
     ·cases hv;exact⟨x2,k2,rfl,g2,xl q2 q1.1,.inr<|.inr ⟨rfl,rfl⟩,by omega⟩
     ·simp at hv
    refine bx 11 nd ?_;obtain⟨a',iZ,i0,E5,lU,ZT⟩:=m6.at hk.1;have rl:=gZ m k.1;have nJ:k.2<=(row m k.1).length:=by
     have:=hk.2;omega
    refine eB<|lI CP DX DY mQ<|aS cC<|aS cf<|ae 0<|aS cC<|ae 11<|ay ⟨y,_,_,.int (k.1:Int),rfl,rfl,aK.of hy,rfl,R,_,_,.ref a'.1,rfl,rfl,al.of m6.lst,i0,ay ⟨a'.1,_,_,.ref a'.2,rfl,rfl,aK.of E5,rfl,Or.inl ⟨rfl,_,al.of lU⟩,?_⟩⟩;refine aS cC (ae 11<|ay ⟨y,_,_,.int (k.2:Int),rfl,rfl,aK.of hy,rfl,ae 2 ⟨a'.2,_,_,_,rfl,rfl,lU,by omega,by rw [Az,Aa];exact nJ,by rw [Aa];exact cb (by omega),?_⟩⟩);rw [Az,qS];have am:a'∈as:=Aq iZ;refine aH ⟨ins m k z,_,m6.ins iZ hk.1,λx o hx fz=>?_,by rw [aq<|rn a' am];exact xO,by rw [aq<|ZP a' am];exact E3,by rw [aq<|tN g1 lU];exact g1,by rw [aq<|tN g2 lU];exact g2,dk,rfl⟩;have x2:x≠a'.2:=λe=>fz (Aj _<|by rw [e];exact Al.mpr ⟨a',am,rfl⟩);rw [aq x2];exact ui x o hx fz
   ·rintro σ H7 ⟨m,u,m6,ui,xO,E3,g1,g2,hm,rfl⟩;have em:m=ins (ins n k1 z) k2 z:=by
     rcases hm with ⟨h,_⟩ | ⟨h,_⟩ | ⟨_,h⟩
     ·exact absurd h<|by show ¬(2=0);decide
     ·exact absurd h<|by show ¬(2=1);decide
     ·exact h
    refine bY<|aI dz<|ae 1<|bJ cZ T.len CZ<|ai<|ae 9<|au ⟨lf,_,rfl,.inl<|al.of E3,?_⟩;rw [Aa,ud];refine⟨_,_,rfl,rfl,⟨by omega,by omega⟩,?_⟩;have fi:=DF (z:=z) hF q1.1 hF.either;have F2:Full (ins n k1 z):= .inr ⟨fi.2,fi.1⟩;have Ot:=DF (z:=z) F2 (xl (z:=z) q2 q1.1).1 F2.either;subst em;exact q _ as _ H7 m6 ui (λx hx=> .inl hx) ((gs _ k2 z (xl (z:=z) q2 q1.1).1).trans<|(gs n k1 z q1.1).cons z) (.inl<|by rw [kq,kq]) (.inr ⟨Ot.2,Ot.1⟩) λhP=>ZC hT hF hz q1 q2 ((gs _ k2 z (xl (z:=z) q2 q1.1).1).trans<|(gs n k1 z q1.1).cons z) E2 iH hP
theorem Ou{b:Int}{m:Nat}{z:Str}(h:z∈namesOf b m):∃ b v,z=az b v:=by
 unfold namesOf at h;obtain⟨v,_,rfl⟩:=Al.mp h;exact⟨b,v,rfl⟩
def ZU(n:Net):Prop:=(∀ z∈af n,∃ b v,z=az b v)/\∀ p∈n.map (·.1),∃ b v,p=az b v
def E6:Sp:=λvs H Q _=>∃(b m sm:Int),vs=[.int b,.int m,.int sm]/\0<=m/\m<=35 /\
 ∀ L as n H',aj H H'->H L=none->ah H' L as n->aC n->(n.map (·.1)).Nodup->Full n->HF n->(af n).length<=2 * m.toNat->n.length<=m.toNat+1->(∀ a∈as,H a.2=none)->ZU n->Q (.ref L) H'
abbrev NB:List Str:=["_law_big_here","_law_most","_law_stem","_law_many","_law_ties","_law_points","_law_rows","_law_k","_law_told","_law_row","_law_size"]
theorem m7:ao NB ["_law_big_here","_law_most","_law_stem"] (aW oZ):=⟨rfl,rfl,rfl,by decide +kernel,rfl,by decide +kernel,by decide +kernel⟩
theorem m8{H:Hp}{d:Addr}{xs:List V}(h:H d=some (.lst xs)):my K "list" (.ref d) H:=Or.inl ⟨rfl,xs,al.of h⟩
theorem rp{b:Int}{m i:Nat}(h:i < m):dI ((namesOf b m).map V.str) (i:Int)=some (.str<|az b i):=iW<|W3 h
theorem ZV{f:Addr}{fd:FuncData}(F:bM K "_law_net_by" "_law_net_by" oZ f fd)(T:Txt mg)
  (GN:aV P w K mg base 4 "_law_names" ["_law_stem","_law_many"] xk)
  (GP:aV P w K mg base 4 "_law_put" ["_law_rows","_law_big_here","_law_tie","_law_point"] EI) :
  aD P w K mg base bP 5 f fd ["_law_big_here","_law_most","_law_stem"] E6:=by
 refine F.gb m7 (λvs H Q E h=>?_) λb0 H vs Q E hr h=>?_
 ·obtain⟨b,m,sm,rfl,_⟩:=h;rfl
 obtain⟨b,m,sm,rfl,m0,m35,q⟩:=h;have nd:=m7.nd;have hu:=hr.gg;have k0:0<=b % (m+1):=Bi _ (by omega);have k1:b % (m+1) < m+1:=Bo _ (by omega);obtain⟨mn,ZW⟩:∃ k:Nat,b % (m+1)=k:=⟨(b % (m+1)).toNat,by omega⟩;have hmm:mn<=m.toNat:=by omega
 show Run _ _ _ [some<|.int b,some<|.int m,some<|.int sm,none,none,none,none,none,none,none,none] H;refine aN 3 nd<|aI cr<|ae 0<|aI dZ<|ae 1<|ay ⟨_,_,rfl,rfl,?_⟩;refine⟨_,_,rfl,rfl,(by show 0 < m+1;omega),?_⟩;refine aN 0 nd<|aI dz<|ae 0<|aI dZ<|ae 1<|ay ⟨_,_,rfl,rfl,?_⟩;refine⟨_,_,rfl,rfl,(by show si b (m+1);exact⟨by omega,by omega⟩),?_⟩;show Run _ _ _ [some<|.int<|b / (m+1),some<|.int m,some<|.int sm,some<|.int<|b % (m+1),none,none,none,none,none,none,none] H;rw [ZW];generalize b / (m+1)=b1;refine aN 4 nd (bZ GN hr<|ai<|ae 2<|ai<|ae 3<|au ⟨sm,(mn:Int),rfl,by omega,by omega,λlt H1 s1 n1 e1=>?_⟩);rw [Az] at e1;refine aN 5 nd (bZ GN hr<|ai<|aS cf<|cO<|ai<|aI dZ<|aI dz<|ae 2<|ay ⟨_,_,rfl,rfl,⟨by decide,by decide⟩,ay ⟨_,_,rfl,rfl,ai<|ae 2<|au ⟨Z2,λp hp=>?_⟩⟩⟩);refine sV MQ T.tR TF (ai<|mE dA<|aI cr<|ae 2<|ay ⟨_,_,rfl,rfl,(by show(0:Int) < 4;decide),ay ⟨rfl,au ⟨_,rfl,?_⟩⟩⟩);have s2:=aJ hp<|.lst [.int<|sm / 3+1,.int sm];obtain⟨js,ex⟩:∃ js:Int,dI [V.int<|sm / 3+1,.int sm] (if decide (V.int (sm % 4)=V.int 1)=true then 1 else 0)=some (.int js):=by
  cases decide (V.int (sm % 4)=V.int 1) with
  | true=>exact⟨sm,rfl⟩
  | false=>exact⟨sm / 3+1,rfl⟩
 refine⟨p,_,_,.int js,rfl,rfl,al.of aw,ex,?_⟩;refine ai (aI dZ<|ae 3<|ay ⟨_,_,rfl,rfl,au ⟨js,(mn:Int)+1,rfl,by omega,by omega,λlp H2 s3 n3 e3=>?_⟩⟩);have em:((mn:Int)+1).toNat=mn+1:=by omega
 rw [em] at e3;have kD:aj H H2:=s1.trans<|s2.trans s3;have e1:H2 lt=some (Ls<|namesOf sm mn):=s3 _ _<|s2 _ _ e1;show Run _ _ _ [some<|.int b1,some<|.int m,some<|.int sm,some<|.int (mn:Int),some<|.ref lt,some<|.ref lp,none,none,none,none,none] H2;refine aN 6 nd<|cO<|ai<|cM<|ai<|aS cf<|ae 5<|ay ⟨lp,_,_,.str<|az js 0,rfl,rfl,al.of e3,rp<|Em _,ai<|cO<|au ⟨Z0,λl1 dh=>?_⟩⟩;refine au ⟨Z2,λt1 jT=>au ⟨Z1,λR Ov=>?_⟩⟩;have s4:=aJ dh<|Ls [];have s5:=aJ jT<|.tup [.str<|az js 0,.ref l1];have s6:=aJ Ov<|.lst [.ref t1];have ZX:ah (upd (upd (upd H2 l1<|.lst []) t1<|.tup [.str<|az js 0,.ref l1]) R<|.lst [.ref t1]) R [(t1,l1)] [(az js 0,[])]:=by
  refine⟨rfl,aw,λi a r h1 h2=>?_,by simp⟩;cases i with
  | zero=>
   cases h1;cases h2;exact⟨s6 _ _ aw,s6 _ _<|s5 _ _ aw⟩
  | succ i=>simp at h1
 have fR:H2 R=none:=s4.free<|s5.free Ov;show Run _ _ _ [some<|.int b1,some<|.int m,some<|.int sm,some<|.int (mn:Int),some<|.ref lt,some<|.ref lp,some<|.ref R,none,none,none,none] (upd (upd (upd H2 l1<|.lst []) t1<|.tup [.str<|az js 0,.ref l1]) R<|.lst [.ref t1]);refine k4 T.range (ae 3 ⟨(mn:Int),rfl,by omega,by omega,?_⟩);rw [Az];refine k8 (λk σ H3=>∃(as:List<|Addr×Addr) (n:Net) (b:Int) (u:Option V),ah H3 R as n/\aj H2 H3/\(∀ a∈as,H2 a.2=none)/\Full n/\HF n/\(af n).Perm (dbl<|namesOf sm k)/\n.map (·.1)=namesOf js n.length/\n.length<=k+1 /\
  σ=[some<|.int b,some<|.int m,some<|.int sm,some<|.int (mn:Int),some<|.ref lt,some<|.ref lp,some<|.ref R,u,none,none,none]) ⟨_,_,b1,_,ZX,s4.trans<|s5.trans s6,λa ha=>by rw [Ag] at ha;rw [ha];exact dh,.inl ⟨_,rfl⟩,Zz,List.Perm.refl _,rfl,Ak _,rfl⟩ ?_ ?_
 ·rintro k σ H3 hk ⟨as,n,b,u,hR,sH,iw,hF,xP,hp,g7,hlen,rfl⟩;rw [Dw];refine bx 7 nd ?_;have bB:=hR.len;have tl:=hp.length_eq;rw [DJ,oW] at tl;have nz:az sm k∉af n:=λh=>by
   have h1:=fm.mp<|hp.mem_iff.mp h;have h2:=qO (b:=sm) (m:=k+1) (by omega);rw [wZ,Cc] at h2;exact h2.2.2 _ h1 _ (Ag.mpr rfl) rfl
  have n0:0 < n.length:=Ck.mpr hF.some;refine aN 0 nd<|bZ GP hr<|ai<|ae 6<|ai<|ae 0<|ai<|aS cf<|ae 4<|ae 7 ⟨lt,_,_,.str<|az sm k,rfl,rfl,al.of<|sH _ _ e1,rp hk,?_⟩;refine ai<|aS cf<|ae 5<|bJ cZ T.len CZ<|ai<|ae 6<|au ⟨R,_,rfl,.inl<|al.of hR.lst,?_⟩;rw [Aa,bB];refine⟨lp,_,_,.str<|az js n.length,rfl,rfl,al.of<|sH _ _ e3,rp (by omega),?_⟩;refine au ⟨R,as,n,b,az sm k,az js n.length,rfl,hR,M5 (qO<|by omega) hp,hF,nz,by omega,by omega,λi pz n' H' ZY kp E7 eG uj ZZ E8=>?_⟩;have Z4:aj H2 H':=λx o hx=>by
   refine kp x o (sH _ _ hx) λhm=>?_
   rcases Ai.mp hm with h | h
   ·rw [h,fR] at hx;cases hx
   ·obtain⟨y,hy,e⟩:=Al.mp h;rw [<- e,iw y hy] at hx;cases hx
  refine aH ⟨pz,n',i,_,ZY,Z4,λy hy=>?_,ZZ,E8 xP,?_,?_,?_,rfl⟩
  ·rcases E7 y hy with h | h
   ·exact iw y h
   ·exact sH.free h
  ·refine eG.trans ?_;rw [wZ,Xj];refine List.Perm.trans ?_ Cn;exact((hp.cons _).cons _)
  ·rcases uj with h | h
   ·have hl:=CG List.length h;rw [Aa,Aa] at hl;rw [h,hl];exact g7
   ·have hl:=CG List.length h;rw [Aa,Ae,Aa] at hl;have iX:n'.length=n.length+1:=hl;rw [h,iX,wZ,g7]
  ·rcases uj with h | h
   ·have hl:=CG List.length h;rw [Aa,Aa] at hl;omega
   ·have hl:=CG List.length h;rw [Aa,Ae,Aa] at hl;have iX:n'.length=n.length+1:=hl;omega
 rintro σ H3 ⟨E9,n0,b,u,hR,sH,iw,hF,FA,hp,g7,hlen,rfl⟩;have tl:=hp.length_eq;rw [DJ,oW] at tl;have Ow:aC n0:=M5 (qO<|by omega) hp;have Z5:(n0.map (·.1)).Nodup:=by rw [g7];exact qO<|by omega
 refine aN 8 nd<|cO<|au ⟨Z0,λL hL=>?_⟩;have s7:=aJ hL<|.lst [];have Ox:R≠L:=bC hR.lst hL;have fL:H2 L=none:=sH.free hL;have jU:ah (upd H3 L<|.lst []) L [] []:=⟨rfl,aw,λi a r h1=>by simp at h1,by simp⟩;refine wN (λk σ H4=>∃(as m9:List<|Addr×Addr) (n n2:Net) (b:Int) (u9 b6:Option V),k=n.length/\ah H4 R as n/\ah H4 L m9 n2/\aj H2 H4/\(∀ a∈as,a.2≠L)/\(∀ a∈m9,a.2≠R)/\(∀ a∈m9,H2 a.2=none)/\n.length+n2.length=n0.length /\
   (af n++af n2).Perm (af n0)/\(n.map (·.1)++n2.map (·.1)).Perm (n0.map (·.1))/\(NE n0->NE n/\NE n2)/\HF (n++n2) /\
   σ=[some<|.int b,some<|.int m,some<|.int sm,some<|.int (mn:Int),some<|.ref lt,some<|.ref lp,some<|.ref R,u,some<|.ref L,u9,b6])
  (m0:=n0.length) ⟨E9,[],n0,[],b,_,_,rfl,hR.same s7,jU,sH.trans s7,λa ha=>(hR.fresh hL ha).symm,λa ha=>(nomatch ha),λa ha=>(nomatch ha),rfl,by simp [af],by simp,λh=>⟨h,λr hr=>(nomatch hr)⟩,by rw [Bj];exact FA,rfl⟩ ?_
 rintro k σ H4 ⟨as,m9,n,n2,b,u9,b6,rfl,hR,lV,sH,aL,aR,Oy,uk,pt,pn,aX,xP,rfl⟩;have bB:=hR.len;have FC:=lV.len;have Z6:(af n).length<=70:=by
  have:=pt.length_eq;rw [Ae] at this;omega
 refine bX (lH hu)<|ae 6<|cO<|au ⟨Z0,λp kY=>?_⟩;have s8:=aJ kY<|.lst []
 by_cases h0:n=[]
 ·subst h0;have ea:as=[]:=Bf.mp (by simpa using bB);subst ea;refine⟨1,_,by decide,wL (k:=0) (xs:=[]) (ys:=[]) (λ_=>true) (al.of<|s8 _ _ hR.lst) (al.of aw) rfl (λj x y hx _=>by simp at hx),_,rfl,bp<|bY<|ae 8 ?_⟩;have fM:(af n2).Perm (af n0):=pt;have Oz:(n2.map (·.1)).Perm (n0.map (·.1)):=pn;have l2:n2.length=n0.length:=by simpa using uk
  refine q L m9 n2 _ (kD.trans<|sH.trans s8) (kD.free fL) (lV.same s8) (λz hz=>?_) (Oz.nodup_iff.mpr Z5) ?_ xP (by rw [fM.length_eq];omega) (by omega) (λa ha=>kD.free<|Oy a ha) ⟨λz hz=>Ou<|fm.mp<|hp.mem_iff.mp<|fM.mem_iff.mp hz,λp eG=>Ou<|by rw [<- g7];exact Oz.mem_iff.mp eG⟩
  ·rw [fM.count_eq];exact Ow z<|fM.mem_iff.mp hz
  ·rcases hF.ne with ⟨nm,h⟩ | h
   ·subst h;have t0:af n2=[]:=List.Perm.eq_nil fM
    match n2,l2,t0 with
    | [(nm2,zs)],_,t0=>
     have:zs=[]:=by simpa [af] using t0
     subst this;exact .inl ⟨_,rfl⟩
   ·refine Xk (aX h).2 λe=>?_;rw [e] at l2;exact hF.some<|Bf.mp l2.symm
 ·have np:0 < n.length:=Ck.mpr h0;refine⟨1,_,by decide,B3 (k:=1) (al.of<|s8 _ _ hR.lst) (al.of (xs:=[]) aw) (by rw [Aa,bB];exact Cw np),_,rfl,a9 ?_⟩;have hR:=hR.same s8;have lV:=lV.same s8;have sH:=sH.trans s8;generalize upd H4 p (.lst [])=H5 at hR lV sH ⊢;have r0:0<=b % (n.length:Int):=Bi _ (by omega);have r1:b % (n.length:Int) < n.length:=Bo _ (by omega);obtain⟨j,hj⟩:∃ k:Nat,b % (n.length:Int)=k:=⟨(b % (n.length:Int)).toNat,by omega⟩;have pD:j < n.length:=by omega
  obtain⟨a,ea,dP,et,el,er⟩:=hR.at pD;refine aN 9 nd<|B6 CP NK NQ KU<|ae 6 ⟨m8 hR.lst,aI cr<|ae 0<|bJ cZ T.len CZ<|ai<|ae 6<|au ⟨R,_,rfl,.inl<|al.of hR.lst,?_⟩⟩;rw [Aa,bB];refine⟨_,_,rfl,rfl,by omega,R,_,_,j,.ref a.1,rfl,rfl,hR.lst,by rw [hj];omega,by rw [hj];omega,?_,?_,?_⟩
  ·rw [hj,Aa,bB];unfold seqIndex?;have c1:¬((j:Int) < 0):=by omega
   simp only [c1,CQ];have c2:(decide (0<=(j:Int)) && decide ((j:Int) < (n.length:Int)))=true:=by
    rw [Bk,GJ,GJ];omega
   rw [BR c2,Az]
  ·rw [Af,ea];rfl
  have R6:=hR.erase pD;have am:a∈as:=Aq ea;have FD:∀ x∈as,x.2≠R:=λx hx e=>by
   obtain⟨zs,e2⟩:=hR.lists hx;have h3:=hR.lst;rw [<- e,e2] at h3;have h4:=HO.lst.inj<|Option.some.inj h3;cases as with
   | nil=>cases hx
   | cons b' bs=>
    cases zs with
    | nil=>simp at h4
    | cons y r=>simp at h4
  have L6:=lV.upd (o:= .lst<|(as.map λa=>V.ref a.1).eraseIdx j) hR.lst Ox.symm aR;have ul:(upd H5 R<|.lst<|(as.map λa=>V.ref a.1).eraseIdx j) a.1=some (.tup [.str n[j].1,.ref a.2]):=by rw [aq<|bN et hR.lst λe=>nomatch e];exact et
  have xQ:(upd H5 R<|.lst<|(as.map λa=>V.ref a.1).eraseIdx j) a.2=some (Ls<|row n j):=by rw [aq<|FD a am];exact el
  have m5:aj H2 (upd H5 R<|.lst<|(as.map λa=>V.ref a.1).eraseIdx j):=dN sH fR;generalize upd H5 R (.lst<|(as.map λa=>V.ref a.1).eraseIdx j)=H6 at R6 L6 ul xQ m5 ⊢;have Z7:=R6.len;have pE:(n.eraseIdx j).length=n.length - 1:=by rw [Do,BR pD]
  refine aN 0 nd<|aI dz<|ae 0<|aI dZ<|bJ cZ T.len CZ<|ai<|ae 6<|au ⟨R,_,rfl,.inl<|al.of R6.lst,ay ⟨_,_,rfl,rfl,?_⟩⟩;rw [Aa,Z7,pE];refine⟨_,_,rfl,rfl,⟨by omega,by omega⟩,?_⟩;have Z9:=gZ n j;refine aN 10 nd<|bJ (zt rfl) T.max MP<|ai<|ay<|ai<|bJ cZ T.len CZ<|ai<|aS cC<|ae 9<|ay ⟨a.1,_,_,.ref a.2,rfl,rfl,aK.of ul,rfl,au ⟨a.2,_,rfl,.inl<|al.of xQ,?_⟩⟩;rw [Aa];refine au ⟨1,_,rfl,?_⟩;have FE:(if((row n j).length:Int) > 1 then((row n j).length:Int) else 1)=((max 1 (row n j).length:Nat):Int):=by
   split <;> omega
  rw [FE];show Run _ _ _ [some<|.int<|b / ((n.length - 1:Nat)+1:Int),some<|.int m,some<|.int sm,some<|.int (mn:Int),some<|.ref lt,some<|.ref lp,some<|.ref R,u,some<|.ref L,some<|.ref a.1,some<|.int ((max 1 (row n j).length:Nat):Int)] H6;generalize b / ((n.length - 1:Nat)+1:Int)=b2;have z0:0<=b2 % ((max 1 (row n j).length:Nat):Int):=Bi _ (by omega);obtain⟨i,hi⟩:∃ k:Nat,b2 % ((max 1 (row n j).length:Nat):Int)=k:=⟨(b2 % ((max 1 (row n j).length:Nat):Int)).toNat,by omega⟩;refine eB<|jn<|ae 8 ⟨L,rfl,⟨_,L6.lst⟩,cM<|ai<|aS cC<|ae 9<|ay ⟨a.1,_,_,.str n[j].1,rfl,rfl,aK.of ul,rfl,?_⟩⟩;refine ai (aI zQ<|Lj Kz<|aS cC<|ae 9<|ay ⟨a.1,_,_,.ref a.2,rfl,rfl,aK.of ul,rfl,Lq<|aI cr<|ae 0<|ae 10 ⟨b2,((max 1 (row n j).length:Nat):Int),rfl,rfl,by omega,_,rfl,Ln ⟨a.2,_,rfl,al.of xQ,λp1 pF=>?_⟩⟩⟩);rw [hi,Xm];have t1:=aJ pF<|Ls<|(row n j).drop i;refine Lj Kz (aS cC<|ae 9<|ay ⟨a.1,_,_,.ref a.2,rfl,rfl,aK.of<|t1 _ _ ul,rfl,Ln<|Lq<|aI cr<|ae 0<|ae 10 ⟨b2,((max 1 (row n j).length:Nat):Int),rfl,rfl,by omega,_,rfl,a.2,_,rfl,al.of<|t1 _ _ xQ,λp2 kY=>?_⟩⟩);rw [hi,Xn];have t2:=aJ kY<|Ls<|(row n j).take i;refine⟨p1,p2,_,_,rfl,rfl,t2 _ _ aw,aw,?_,λp3 pG=>?_⟩
  ·rw [Aa,Aa,Dd,Be];exact small<|by omega
  rw [<- Am];have t3:=aJ pG<|Ls<|(row n j).drop i++(row n j).take i;refine au ⟨Z2,λt4 ht4=>?_⟩;have s4:=aJ ht4<|.tup [.str n[j].1,.ref p3];have pH:=t1.trans<|t2.trans<|t3.trans s4;have L7:=L6.same pH;have R7:=R6.same pH;have p3L:p3≠L:=λe=>by rw [e,(t1.trans t2) _ _ L6.lst] at pG;cases pG
  have p3R:p3≠R:=λe=>by rw [e,(t1.trans t2) _ _ R6.lst] at pG;cases pG
  have p3n:p3∉m9.map (·.2):=λhm=>by
   obtain⟨y,hy,e⟩:=Al.mp hm;exact(L6.same<|t1.trans t2).fresh pG hy e.symm
  have L8:=L7.more (t:=t4) (l:=p3) (pt:=n[j].1) (zs:=(row n j).drop i++(row n j).take i) aw (s4 _ _ aw) p3n p3L;refine⟨_,L7.lst,by rw [Aa,FC];exact cb (by omega),?_⟩;have OA:∀ x∈as.eraseIdx j,x.2≠L:=λx hx=>aL x<|Fw hx;have R8:=R7.upd (o:= .lst<|m9.map (λa=>V.ref a.1)++[.ref t4]) L7.lst Ox OA;refine aN 0 nd (aI dz<|ae 0<|ae 10 ⟨b2,((max 1 (row n j).length:Nat):Int),rfl,rfl,⟨by omega,by omega⟩,?_⟩);have pe:=M6 n j pD;have ne:=Xl n j pD;have OB:(af (n.eraseIdx j)++af (n2++[(n[j].1,(row n j).drop i++(row n j).take i)])).Perm (af n0):=by
   refine List.Perm.trans ?_ pt;unfold af;rw [Dh];show(af (n.eraseIdx j)++(af n2++(((row n j).drop i++(row n j).take i)++[]))).Perm _;rw [Bj,er];have w1:(n[j].2.drop i++n[j].2.take i).Perm n[j].2:=DL _ _;refine((w1.append_left _).append_left _).trans ?_;have w2:(af n++af n2).Perm ((n[j].2++af (n.eraseIdx j))++af n2):=pe.append_right _;refine List.Perm.trans ?_ w2.symm;rw [Ba];refine List.Perm.trans ?_<|Cn (l₁:=af (n.eraseIdx j)++af n2);rw [Ba]
  refine aH ⟨n.length - 1,by omega,as.eraseIdx j,m9++[(t4,p3)],n.eraseIdx j,n2++[(n[j].1,(row n j).drop i++(row n j).take i)],_,_,_,pE.symm,R8,L8,dN (m5.trans pH) fL,OA,λx hx=>?_,λx hx=>?_,?_,OB,?_,λh=>⟨λr hr=>?_,λr hr=>?_⟩,ZD pD (by have:=Bo b2 (show(0:Int) < ((max 1 (row n j).length:Nat):Int) by omega);rw [hi] at this;exact Int.ofNat_lt.mp this) Ow pt OB xP,rfl⟩
  ·rcases An.mp hx with hx | hx
   ·exact aR x hx
   ·rw [Ag] at hx;rw [hx];exact p3R
  ·rcases An.mp hx with hx | hx
   ·exact Oy x hx
   ·rw [Ag] at hx;rw [hx];exact m5.free<|t1.free<|t2.free pG
  ·rw [Ae,pE];simp;omega
  ·refine List.Perm.trans ?_ pn;rw [Am];show((n.eraseIdx j).map (·.1)++(n2.map (·.1)++[n[j].1])).Perm _;refine List.Perm.trans ?_ (ne.append_right _).symm;rw [<- Ba];exact Cn
  ·exact(aX h).1 r<|Fw hr
  ·rcases An.mp hr with hr | hr
   ·exact(aX h).2 r hr
   ·rw [Ag] at hr;rw [hr];intro e;have w1:=(DL (row n j) i).length_eq;have e':(row n j).drop i++(row n j).take i=[]:=e;rw [e'] at w1;have:=(aX h).1 n[j]<|Cb pD;rw [er] at w1;exact this<|Bf.mp w1.symm
def xR:Sp:=λvs H Q _=>∃(R:Addr) (as:List<|Addr×Addr) (n:Net),vs=[.ref R]/\ah H R as n/\n.length<=1000/\∀ L pz H',aj H H'->H L=none->(∀ a∈pz,H a.1=none/\H a.2=none)->ah H' L pz n->Q (.ref L) H'
theorem g8{H H':Hp}{l:Addr}(s:aj H H')(h:H' l=none):H l=none:=by
 cases e:H l with
 | none=>rfl
 | some v=>rw [s _ _ e] at h;cases h
abbrev NC:List Str:=["_law_rows"]
abbrev OC:List Str:=["_law_rows","_law_row"]
theorem jV:ao NC ["_law_rows"] (aW xg):=⟨rfl,rfl,rfl,by decide +kernel,rfl,by decide +kernel,by decide +kernel⟩
theorem FG:OC.Nodup:=by decide +kernel
theorem q26{f:Addr}{fd:FuncData}(F:bM K "_law_copy" "_law_copy" xg f fd)(T:Txt mg):aD P w K mg base bP 1 f fd ["_law_rows"] xR:=by
 refine F.gb jV (λvs H Q E h=>?_) λb0 H vs Q E hr h=>?_
 ·obtain⟨R,as,n,rfl,_⟩:=h;rfl
 obtain⟨R,as,n,rfl,hR,hn,q⟩:=h;have nd:=jV.nd;have bB:=hR.len;show Run _ _ _ [some<|.ref R] H;refine bY<|qI (aW xg) NC OC 1 (iQ bE)<|ae 0 ⟨R,rfl,⟨_,al.of hR.lst⟩,λD hD=>?_⟩;refine qT (xs:=as.map λa=>V.ref a.1) (λi σ' H'=>(∃ v,σ'=[some<|.ref R]++[v])/\∃ bs:List<|Addr×Addr,bs.length=i/\H' D=some (.lst<|bs.map λa=> .ref a.1) /\
  (∀(j:Nat) a r,bs[j]?=some a->n[j]?=some r->H' a.1=some (.tup [.str r.1,.ref a.2])/\H' a.2=some (Ls r.2))/\(bs.map (·.2)).Nodup/\(∀ a∈bs,a.2≠D/\H a.1=none/\H a.2=none/\∃ zs,H' a.2=some (Ls zs))/\aj H H')
  ⟨⟨none,rfl⟩,[],rfl,aw,λj a r h=>by simp at h,Cd,λa h=>by simp at h,aJ hD _⟩ ?_ ?_ ?_
 ·rintro i σ' H' _ ⟨_,bs,_,_,_,_,_,sm⟩;exact al.of<|sm _ _ hR.lst
 ·rintro i x σ' H' hx ⟨⟨v,rfl⟩,bs,mM,i4,uo,uq,rq,sm⟩;have hi:i < n.length:=by
   have:=(Ac.mp hx).1;rw [Aa] at this;omega
  obtain⟨a,ea,dP,et,el,er⟩:=(hR.same sm).at hi;rw [Af,ea] at hx;cases hx;intro cl C' s₀ H₀ ex;refine bx 1 FG ?_;intro cl C' s₀ H₀ ex;refine gS ?_;rw [BR rfl];intro cl C' s₀ H₀ ex;refine cM<|ai<|aS cC<|ae 1<|ay ⟨a.1,_,_,.str n[i].1,rfl,rfl,aK.of et,rfl,?_⟩;refine ai<|sV Um T.tS PyProof.Rows.boot_list<|ai<|aS cC<|ae 1<|ay ⟨a.1,_,_,.ref a.2,rfl,rfl,aK.of et,rfl,?_⟩;refine au ⟨a.2,_,rfl,.inl<|al.of el,λl hl=>au ⟨Z2,λt ht=>?_⟩⟩;have li:=g8 sm hl;have FH:t≠l:=λe=>by rw [e,aw] at ht;cases ht
  have eX:H' t=none:=by rw [aq FH] at ht;exact ht
  have OG:=g8 sm eX;have pI:l≠D:=λe=>by rw [e] at hl;rw [hl] at i4;cases i4
  have xS:t≠D:=λe=>by rw [e] at eX;rw [eX] at i4;cases i4
  refine⟨bs.map λa=> .ref a.1,?_,?_,⟨_,rfl⟩,bs++[(t,l)],by rw [Ae,mM];rfl,?_,?_,?_,?_,?_⟩
  ·rw [aq<|CJ xS,aq<|CJ pI];exact i4
  ·rw [Aa];exact cb<|by omega
  ·rw [aw,Am];rfl
  ·intro j b r hb px
   by_cases hj:j < bs.length
   ·rw [Ay hj] at hb;obtain⟨q1,q2⟩:=uo j b r hb px;have hbD:=(rq b<|Aq hb).1;have n1:b.1≠D:=bN q1 i4 λz=>nomatch z;refine⟨?_,?_⟩
    ·rw [aq n1,aq<|bC q1 eX,aq<|bC q1 hl];exact q1
    ·rw [aq hbD,aq<|bC q2 eX,aq<|bC q2 hl];exact q2
   ·rw [Bd<|by omega] at hb;have gM:j - bs.length=0:=by
     have:=(Ac.mp hb).1;simp at this;omega
    have xT:j=i:=by omega
    rw [gM] at hb;cases hb;rw [xT,Ab hi] at px;cases px;refine⟨?_,?_⟩
    ·rw [aq xS,aw]
    ·rw [aq pI,aq<|CJ FH,aw,er]
  ·rw [Am];refine kd uq λhm=>?_;obtain⟨b,hb,e⟩:=Al.mp hm;obtain⟨_,_,_,zs,q⟩:=rq b hb;have e':b.2=l:=e;rw [e',hl] at q;cases q
  ·intro b hb
   rcases An.mp hb with hb | hb
   ·obtain⟨q1,q2,q3,zs,q4⟩:=rq b hb;refine⟨q1,q2,q3,zs,?_⟩;rw [aq q1,aq<|bC q4 eX,aq<|bC q4 hl];exact q4
   ·rw [Ag.mp hb];refine⟨pI,OG,li,row n i,?_⟩;rw [aq pI,aq<|CJ FH,aw]
  ·intro c o hc;rw [aq<|bC hc hD,aq<|bC hc OG,aq<|bC hc li];exact sm _ _ hc
 ·rintro σ' H' ⟨_,bs,mM,i4,uo,uq,rq,sm⟩;rw [Aa] at mM;exact q D bs H' sm hD (λa ha=>⟨(rq a ha).2.1,(rq a ha).2.2.1⟩) ⟨by omega,i4,uo,uq⟩
end
abbrev Tn(p:Str)(j:Int):HO:= .tup [.str p,.int j]
def xU:Sp:=λvs H Q _=>∃(t l:Addr) (p:Str) (zs:List Str),vs=[.ref t]/\H t=some (.tup [.str p,.ref l])/\H l=some (Ls zs)/\zs.length<=1000 /\
 ∀(L:Addr) (ts:List Addr) (H':Hp),aj H H'->H L=none->H' L=some (.lst<|ts.map V.ref)->ts.length=zs.length->(∀(j:Nat) t,ts[j]?=some t->H' t=some (Tn p j))->Q (.ref L) H'
section
variable{X:Cx}{elt tg:Expr}{ifs:List Expr}{scope:Scope}{σ:St}{H:Hp}{N':List Str}{A:Addr}{after:Hp->Prop}
theorem k0k{lo:Int}{n:Nat}(Pv:Nat->St->Hp->Prop)(h0:Pv 0 σ H)
  (hs : ∀ i σ' H', i < n → Pv i σ' H' → AT X N' scope tg (.int<|lo + i) σ' H' λσ2 H3 => AU X N' scope ifs σ2 H3 λb H4 =>
   if b=true then AQ X N' scope elt σ2 H4 λv H5=>∃ ys,H5 A=some (.lst ys)/\ys.length < sizeLine/\Pv (i+1) σ2 (upd H5 A<|.lst<|ys++[v]) else Pv (i+1) σ2 H4)
  (hd:∀ σ' H',Pv n σ' H'->after H'):mG X N' scope tg ifs elt (qv lo n) A after σ H:=by
 refine⟨λi m σ' H'=>m=n - i/\i<=n/\Pv i σ' H',⟨_,rfl,Bv _,h0⟩,?_⟩;rintro i m σ' H' ⟨rfl,hi,p⟩
 by_cases aO:i < n
 ·refine .inr ⟨aO,Pv<|i+1,λσ' H' p'=>⟨n - (i+1),by omega,rfl,aO,p'⟩,λx H2 y=>?_⟩;obtain⟨e,y⟩:=y;subst e y;exact hs i σ' _ aO p
 ·have e:i=n:=by omega
  subst e;exact .inl ⟨Ak _,hd σ' H' p⟩
end
section
variable{P:Program}{w:World}{K:PySem.W.Frag}{mg:Str->Option Value}{base:Heap}
abbrev OH:List Str:=["row","point","ties"]
abbrev OI:List Str:=["row","point","ties","place"]
theorem jW:ao OH ["row"] (aW w5):=⟨rfl,rfl,rfl,by decide +kernel,rfl,by decide +kernel,by decide +kernel⟩
theorem q7z:OI.Nodup:=by decide +kernel
theorem q4h{f:Addr}{fd:FuncData}(F:bM K "ends_round" "ends_round" w5 f fd)(T:Txt mg):aD P w K mg base bP 1 f fd ["row"] xU:=by
 refine F.gb jW (λvs H Q E h=>?_) λb0 H vs Q E hr h=>?_
 ·obtain⟨t,l,p,zs,rfl,_⟩:=h;rfl
 obtain⟨t,l,p,zs,rfl,ht,hl,hz,q⟩:=h;have nd:=jW.nd;show Run _ _ _ [some<|.ref t,none,none] H;refine wz<|ae 0<|kr rfl (aK.of ht) (bx 1 nd<|bx 2 nd ?_);show Run _ _ _ [some<|.ref t,some<|.str p,some<|.ref l] H;refine bY<|qI (aW w5) OH OI 1 (Kd rfl T.range (ta:=wv _ _) jj (oa _ [] _ rfl)) ?_;show Ea _ _ _ _ _;refine ai (bJ cZ T.len CZ<|ai<|ae 2<|au ⟨l,_,rfl,.inl<|al.of hl,au ⟨_,rfl,by omega,by rw [Aa];omega,λD hD=>?_⟩⟩);rw [Aa,Az];refine k0k (λi σ' H'=>(∃ v,σ'=[some<|.ref t,some<|.str p,some<|.ref l]++[v])/\∃ ts:List Addr,ts.length=i/\H' D=some (.lst<|ts.map V.ref)/\(∀(j:Nat) t,ts[j]?=some t->H' t=some (Tn p j))/\aj H H')
  ⟨⟨none,rfl⟩,[],rfl,aw,λj t h=>by simp at h,aJ hD _⟩ ?_ ?_
 ·rintro i σ' H' hi ⟨⟨v,rfl⟩,ts,dh,eD,FI,sm⟩;rw [Dw];intro cl C' s₀ H₀ ex;refine bx 3 q7z ?_;intro cl C' s₀ H₀ ex;refine gS ?_;rw [BR rfl];intro cl C' s₀ H₀ ex;refine cM<|ai<|ae 1<|ai<|ae 3<|au ⟨Z2,λu hu=>?_⟩;have nu:u≠D:=λe=>by rw [e,eD] at hu;cases hu
  have hu0:=g8 sm hu;refine⟨ts.map V.ref,by rw [aq<|CJ nu];exact eD,by rw [Aa];exact cb (by omega),⟨_,rfl⟩,ts++[u],by rw [Ae,dh];rfl,by rw [aw,Am];rfl,?_,?_⟩
  ·intro j t' eX
   by_cases hj:j < ts.length
   ·rw [Ay hj] at eX;have e:=FI j t' eX;have n1:t'≠D:=bN e eD λz=>nomatch z;rw [aq n1,aq<|bC e hu];exact e
   ·rw [Bd<|by omega] at eX;have gM:j - ts.length=0:=by
     have:=(Ac.mp eX).1;simp at this;omega
    rw [gM] at eX;cases eX;have:j=i:=by omega
    rw [this,aq nu,aw]
  ·intro c o hc;rw [aq<|bC hc hD,aq<|bC hc hu0];exact sm _ _ hc
 ·rintro σ' H' ⟨_,ts,dh,eD,FI,sm⟩;exact q D ts H' sm hD eD dh FI
def pJ(g:Int->Int):Sp:=λvs H Q _=>∃(e:Addr) (p:Str) (j m:Int),vs=[.ref e,.int m]/\H e=some (Tn p j)/\0 < m/\∀ t H',aj H H'->H' t=some (Tn p<|g j % m)->Q (.ref t) H'
abbrev NT1:List Str:=["end","many","point","place"]
theorem jX:ao NT1 ["end","many"] (aW CA):=⟨rfl,rfl,rfl,by decide +kernel,rfl,by decide +kernel,by decide +kernel⟩
theorem q14{f:Addr}{fd:FuncData}(F:bM K "turned_left" "turned_left" CA f fd)(T:Txt mg):aD P w K mg base bP 1 f fd ["end","many"] (pJ λj=>j+1):=by
 refine F.gb jX (λvs H Q E h=>?_) λb0 H vs Q E hr h=>?_
 ·obtain⟨e,p,j,m,rfl,_⟩:=h;rfl
 obtain⟨e,p,j,m,rfl,he,hm,q⟩:=h;have nd:=jX.nd;show Run _ _ _ [some<|.ref e,some<|.int m,none,none] H;refine wz<|ae 0<|kr rfl (aK.of he) (bx 2 nd<|bx 3 nd ?_);refine bY (cM<|ai<|ae 2<|ai<|aI cr<|aI dZ<|ae 3<|ay ⟨_,_,rfl,rfl,ae 1 ⟨_,_,rfl,rfl,(by show 0 < m;exact hm),au ⟨Z2,λt ht=>?_⟩⟩⟩);exact q t _ (aJ ht _) aw
theorem k9p{kvs:List (Key×V)}:∀{acc:List (Key×V)},((acc++kvs).map (·.1)).Nodup->kvs.foldl (λa p=>putK a p.1 p.2) acc=acc++kvs:=by
 induction kvs with
 | nil=>intro acc _;simp
 | cons p r ih=>
  intro acc h;have hn:aB acc p.1=none:=by
   cases e:aB acc p.1 with
   | none=>rfl
   | some v=>
    have hm:=K9 e;rw [Am,Bb] at h;exact absurd rfl ((Cc.mp h).2.2 _ hm _ Ad)
  rw [Db,K4 _ hn,ih (by rw [Ba];exact h),Ba];rfl
theorem OL:∀{kvs:List (Key×V)} {i:Nat} {p:Key×V},(kvs.map (·.1)).Nodup->kvs[i]?=some p->aB kvs p.1=some p.2
 | [],_,_,_,h=>by simp at h
 | q :: r,0,p,_,h=>by
  cases h;exact iu rfl
 | q :: r,i+1,p,hn,h=>by
  rw [Bb,Bn] at hn;have hm:r[i]?=some p:=by simpa using h
  rw [gP λe=>hn.1<|by rw [e];exact Al.mpr ⟨p,Aq hm,rfl⟩];exact OL hn.2 hm
def g9(n:Net)(as:List<|Addr×Addr):List (Key×V):=List.zipWith (λr a=>(Sum.inr r.1,V.ref a.2)) n as
theorem OM:∀(n:Net) (as:List<|Addr×Addr),as.length=n.length->(g9 n as).map (·.1)=(n.map (·.1)).map Sum.inr
 | [],[],_=>rfl
 | [],_ :: _,h=>by simp at h
 | _ :: _,[],h=>by simp at h
 | r :: n,a :: as,h=>by
  have:=OM n as (by simpa using h);show Sum.inr r.1 :: (g9 n as).map (·.1)=_;rw [this];rfl
theorem OO{n:Net}{as:List (Addr×Addr)}{i:Nat}{r:Str×List Str}{a:Addr×Addr}(h1:n[i]?=some r)(h2:as[i]?=some a):(g9 n as)[i]?=some (Sum.inr r.1,.ref a.2):=by
 unfold g9;rw [List.getElem?_zipWith,h1,h2]
theorem k4j{l:List Str}(h:l.Nodup):(l.map (Sum.inr:Str->Key)).Nodup:=by
 rw [Da,Eu];exact(Da.mp h).imp λh q=>h<|Sum.inr.inj q
end
def nameAt(n:Net)(r:Nat):Str:=((n[r]?).map (·.1)).getD ⟨#[]⟩
def key(n:Net)(e:Nt.End):List Key:=[Sum.inr<|nameAt n e.1,Sum.inl (e.2:Int)]
abbrev TN(n:Net)(e:Nt.End):HO:=Tn (nameAt n e.1) (e.2:Int)
theorem ur{n:Net}{r:Nat}(h:r < n.length):nameAt n r=n[r].1:=by unfold nameAt;rw [Ab h];rfl
theorem rA{n:Net}(hN:(n.map (·.1)).Nodup){a b:Nt.End}(ha:a.1 < n.length)(hb:b.1 < n.length)(h:key n a=key n b):a=b:=by
 unfold key at h
 injection h with h1 h2
 injection h2 with h2 _
 have e1:=Sum.inr.inj h1;have e2:=Sum.inl.inj h2;rw [ur ha,ur hb] at e1;have e3:a.1=b.1:=by
  have la:a.1 < (n.map (·.1)).length:=by rw [Aa];exact ha
  have lb:b.1 < (n.map (·.1)).length:=by rw [Aa];exact hb
  refine(Fo (i:=a.1) (j:=b.1) (h₀:=la) (h₁:=lb) hN).mp ?_;rw [Fp,Fp];exact e1
 exact HS e3<|by omega
theorem xV{n:Net}{r p:Nat}{z:Str}(hr:r < n.length)(hz:(row n r)[p]?=some z):∃ rest,bw n=(bw (n.take r)++bL r ((row n r).take p) 0)++(z,(r,p)) :: rest:=by
 have e1:bw n=bw (n.take<|r+1)++fI (0+(n.take<|r+1).length) (n.drop<|r+1):=by
  have:=B9 (n.take<|r+1) (n.drop<|r+1) 0;rw [Cj] at this;exact this
 have e2:bL r (row n r) 0=bL r ((row n r).take<|p+1) 0++bL r ((row n r).drop<|p+1) (0+((row n r).take<|p+1).length):=by
  unfold bL;rw [<- Am,<- List.zipIdx_append,Cj]
 rw [e1,tO hr,e2,tP hz];refine⟨bL r ((row n r).drop<|p+1) (0+((row n r).take<|p+1).length)++fI (0+(n.take<|r+1).length) (n.drop<|r+1),?_⟩;simp only [Ba,Fa,Gu]
theorem OQ{κ:Type} [DecidableEq κ] (kvs:List<|κ×V) (k:κ) (v:V):(putK kvs k v).map (·.1)=if k∈kvs.map (·.1) then kvs.map (·.1) else kvs.map (·.1)++[k]:=by
 have e:(kvs.any λkv=>decide (kv.1=k))=decide (k∈kvs.map (·.1)):=by
  rw [Cp,List.any_eq_true,CN,Al];exact⟨λ⟨p,h1,h2⟩=>⟨p,h1,BZ h2⟩,λ⟨p,h1,h2⟩=>⟨p,h1,BW h2⟩⟩
 unfold putK;rw [e]
 by_cases h:k∈kvs.map (·.1)
 ·rw [BR<|BW h,BR h,Cf];refine Dr λp _=>?_;show(if p.1=k then(p.1,v) else p).1=p.1
  split <;> rfl
 ·rw [BK (by simpa using h),BK h,Am];rfl
theorem gA{κ:Type} [DecidableEq κ] {kvs:List (κ×V)} {k j:κ} {v:V}:j∈(putK kvs k v).map (·.1)↔j∈kvs.map (·.1)\/j=k:=by
 rw [OQ]
 split
 ·exact⟨.inl,λh=>h.elim id λe=>by rw [e];assumption⟩
 ·rw [An,Ag]
theorem OS{κ:Type} [DecidableEq κ] {kvs:List (κ×V)} {k:κ} {v:V} (h:(kvs.map (·.1)).Nodup):((putK kvs k v).map (·.1)).Nodup:=by
 rw [OQ]
 split
 ·exact h
 ·rename_i hn;exact kd h hn
structure i5(n:Net)(done:List<|Str×Nt.End)(H:Hp)(kM:List<|Key×V)(kO:List<|List Key×V):Prop where
 m0:∀ z,b9 done z=[]->aB kM (Sum.inr z)=none
 m1:∀ z a rest,b9 done z=a :: rest->∃ t,aB kM (Sum.inr z)=some (.ref t)/\H t=some (TN n a)
 o:∀ z a b rest,b9 done z=a :: b :: rest->(∃ u,aB kO (key n a)=some (.ref u)/\H u=some (TN n b))/\∃ u,aB kO (key n b)=some (.ref u)/\H u=some (TN n a)
 sub:∀ p∈done,aM n p.2=some p.1
 dS:kM.length<=done.length
 fA:kO.length<=2 * done.length
 ks:∀ k∈kO.map (·.1),∃ p∈done,k=key n p.2
 nd:(kO.map (·.1)).Nodup
theorem i5.keep{n:Net}{done:List (Str×Nt.End)}{H H':Hp}{kM:List (Key×V)}{kO:List (List Key×V)}(I:i5 n done H kM kO)(k:∀ t p j,H t=some (Tn p j)->H' t=some (Tn p j)):i5 n done H' kM kO where
 m0:=I.m0
 m1:=λz a rest h=>let ⟨t,e1,e2⟩:=I.m1 z a rest h;⟨t,e1,k _ _ _ e2⟩
 o:=λz a b rest h=>let ⟨⟨u,e1,e2⟩,⟨v,e3,e4⟩⟩:=I.o z a b rest h;⟨⟨u,e1,k _ _ _ e2⟩,⟨v,e3,k _ _ _ e4⟩⟩
 sub:=I.sub
 dS:=I.dS
 fA:=I.fA
 ks:=I.ks
 nd:=I.nd
theorem ut{done:List (Str×Nt.End)}{z:Str}{a:Nt.End}(h:a∈b9 done z):(z,a)∈done:=by
 unfold b9 at h;obtain⟨⟨y,b⟩,hm,rfl⟩:=Al.mp h;obtain⟨h1,h2⟩:=Cz.mp hm;have:y=z:=BZ h2;subst this;exact h1
theorem i5.new{n:Net}{done:List (Str×Nt.End)}{H:Hp}{kM:List (Key×V)}{kO:List (List Key×V)}(I:i5 n done H kM kO){z:Str}{e:Nt.End}{t:Addr}(ht:H t=some (TN n e))(hz:aM n e=some z)(h0:b9 done z=[]) :
  i5 n (done++[(z,e)]) H (putK kM (Sum.inr z)<|.ref t) kO where
 m0:=λy hy=>by
  rw [di] at hy;obtain⟨h1,h2⟩:=Ff.mp hy;have aX:¬ z=y:=λq=>by rw [BR q] at h2;cases h2
  rw [d8,BK λq=>aX (Sum.inr.inj q).symm];exact I.m0 y h1
 m1:=λy a rest hy=>by
  rw [di] at hy
  by_cases q:z=y
  ·subst q;rw [h0,BR rfl] at hy;cases hy;exact⟨t,by rw [d8,BR rfl],ht⟩
  ·rw [BK q,Bj] at hy;obtain⟨u,e1,e2⟩:=I.m1 y a rest hy;exact⟨u,by rw [d8,BK λp=>q (Sum.inr.inj p).symm];exact e1,e2⟩
 o:=λy a b rest hy=>by
  rw [di] at hy
  by_cases q:z=y
  ·subst q;rw [h0,BR rfl] at hy;cases hy
  ·rw [BK q,Bj] at hy;exact I.o y a b rest hy
 sub:=λp hp=>by
  rcases An.mp hp with h | h
  ·exact I.sub p h
  ·rw [Ag.mp h];exact hz
 dS:=by
  have:=jh kM (Sum.inr z)<|.ref t;have:=I.dS;rw [Ae,Cv];omega
 fA:=by
  have:=I.fA;rw [Ae,Cv];omega
 ks:=λk hk=>let ⟨p,hp,e⟩:=I.ks k hk;⟨p,Aw _ hp,e⟩
 nd:=I.nd
theorem i5.old{n:Net}(hN:(n.map (·.1)).Nodup){done:List (Str×Nt.End)}{H:Hp}{kM:List (Key×V)}{kO:List (List Key×V)}(I:i5 n done H kM kO){z:Str}{e a:Nt.End}{te tm:Addr}(ht:H te=some (TN n e))(hm:H tm=some (TN n a))(hz:aM n e=some z)(h1:b9 done z=[a])(hae:a≠e) :
  i5 n (done++[(z,e)]) H kM (putK (putK kO (key n e)<|.ref tm) (key n a)<|.ref te) where
 m0:=λy hy=>by
  rw [di] at hy;exact I.m0 y (Ff.mp hy).1
 m1:=λy c rest hy=>by
  rw [di] at hy
  by_cases q:z=y
  ·subst q;rw [h1,BR rfl] at hy;cases hy;exact I.m1 z a [] h1
  ·rw [BK q,Bj] at hy;exact I.m1 y c rest hy
 o:=λy c b rest hy=>by
  rw [di] at hy;have ta:aM n a=some z:=I.sub (z,a)<|ut<|by rw [h1];exact Ag.mpr rfl
  by_cases q:z=y
  ·subst q;rw [h1,BR rfl] at hy;cases hy;refine⟨⟨te,by rw [d8,BR rfl],ht⟩,⟨tm,?_,hm⟩⟩;rw [d8,BK λp=>hae (rA hN (eW hz) (eW ta) p).symm,d8,BR rfl]
  ·rw [BK q,Bj] at hy;have tc:aM n c=some y:=I.sub (y,c) (ut<|by rw [hy];exact Ad);have tb:aM n b=some y:=I.sub (y,b) (ut<|by rw [hy];exact Aj _ Ad);have ne:∀ x:Nt.End,aM n x=some y->¬ key n x=key n a/\¬ key n x=key n e:=λx hx=>by
    refine⟨λp=>?_,λp=>?_⟩
    ·have:=rA hN (eW hx) (eW ta) p;rw [this,ta] at hx;exact q<|Option.some.inj hx
    ·have:=rA hN (eW hx) (eW hz) p;rw [this,hz] at hx;exact q<|Option.some.inj hx
   obtain⟨⟨u,e1,e2⟩,⟨v,e3,e4⟩⟩:=I.o y c b rest hy;refine⟨⟨u,?_,e2⟩,⟨v,?_,e4⟩⟩
   ·rw [d8,BK (ne c tc).1,d8,BK (ne c tc).2];exact e1
   ·rw [d8,BK (ne b tb).1,d8,BK (ne b tb).2];exact e3
 sub:=λp hp=>by
  rcases An.mp hp with h | h
  ·exact I.sub p h
  ·rw [Ag.mp h];exact hz
 dS:=by
  have:=I.dS;rw [Ae,Cv];omega
 fA:=by
  have h1:=jh (putK kO (key n e)<|.ref tm) (key n a)<|.ref te;have h2:=jh kO (key n e)<|.ref tm;have:=I.fA;rw [Ae,Cv];omega
 ks:=λk hk=>by
  rcases gA.mp hk with hk | rfl
  ·rcases gA.mp hk with hk | rfl
   ·obtain⟨p,hp,e⟩:=I.ks k hk;exact⟨p,Aw _ hp,e⟩
   ·exact⟨(z,e),Ap _<|Ag.mpr rfl,rfl⟩
  ·exact⟨(z,a),Aw _ (ut<|by rw [h1];exact Ag.mpr rfl),rfl⟩
 nd:=OS<|OS I.nd
theorem i5.whole{n:Net}(T:aC n){H:Hp}{kM:List (Key×V)}{kO:List (List Key×V)}(I:i5 n (bw n) H kM kO){e:Nt.End}(he:e∈ends n):∃ u,aB kO (key n e)=some (.ref u)/\H u=some (TN n<|other n e):=by
 obtain⟨z,hz⟩:=ag.mp he;obtain⟨a,b,hp,gm,wK⟩:=qL T hz;have eG:b9 (bw n) z=a :: b :: []:=hp;have ta:aM n a=some z:=aP.mp (by rw [hp];simp);have tb:aM n b=some z:=aP.mp (by rw [hp];simp);obtain⟨o1,o2⟩:=I.o z a b [] eG
 rcases wK with rfl | rfl
 ·have:b=other n e:=((rj T hz).mp tb).resolve_left<|CJ gm;rw [<- this];exact o1
 ·have:a=other n e:=((rj T hz).mp ta).resolve_left gm;rw [<- this];exact o2
def pK:Sp:=λvs H Q _=>∃(R:Addr) (as:List<|Addr×Addr) (n:Net),vs=[.ref R]/\ah H R as n/\(n.map (·.1)).Nodup/\aC n/\n.length<=1000/\(af n).length<=1000 /\
 ∀(d:Addr) (kvs:List<|List Key×V) (H':Hp),aj H H'->H d=none->H' d=some (.dT kvs)->(∀ e∈ends n,∃ u,aB kvs (key n e)=some (.ref u)/\H' u=some (TN n<|other n e))->(kvs.map (·.1)).Nodup->(∀ k∈kvs.map (·.1),∃ e∈ends n,k=key n e)->kvs.length<=2000->Q (.ref d) H'
section
variable{X:Cx}{D:Ends}{σ:St}{H:Hp}{body:List Stmt}
theorem q0a{tg:Expr}{a b:Addr}{xs ys:List V}{after:St->Hp->Prop}(hlen:xs.length=ys.length)(Pv:Nat->St->Hp->Prop)(h0:Pv 0 σ H)(hl:∀ i σ H,i<=xs.length->Pv i σ H->al X.K H a xs/\al X.K H b ys)
  (hs:∀ i x y T σ H,xs[i]?=some x->ys[i]?=some y->Pv i σ H->H T=none->Eg X tg (.ref T) σ (upd H T<|.tup [x,y]) λσ2 H2=>Run X body {D with nx:=Pv<|i+1,ct:=Pv<|i+1,bk:=after} σ2 H2) (hd:∀ σ H,Pv xs.length σ H->after σ H):Loop X tg body (D0 X.K a b) D after σ H:=by
 refine⟨λi m σ H=>m=xs.length - i/\i<=xs.length/\Pv i σ H,⟨xs.length,by simp,Bv _,h0⟩,?_⟩;rintro i m σ H ⟨rfl,hi,p⟩;obtain⟨q1,q2⟩:=hl i σ H hi p
 by_cases aO:i < xs.length
 ·refine .inr ⟨⟨xs,ys,xs[i],ys[i],q1,q2,Ab aO,Ab<|by omega⟩,Pv<|i+1,λσ' H' p'=>⟨xs.length - (i+1),by omega,rfl,aO,p'⟩,λv H' y=>?_⟩;obtain⟨T,x,y,hT,rfl,rfl,y1,y2⟩:=y;exact hs i x y T σ _ (y1 xs q1) (y2 ys q2) p hT
 ·have e:i=xs.length:=by omega
  subst e;exact .inl ⟨⟨xs,ys,q1,q2,.inl<|Ak _⟩,hd σ H p⟩
end
section
variable{P:Program}{w:World}{K:PySem.W.Frag}{mg:Str->Option Value}{base:Heap}
abbrev NOE:List Str:=["rows","met","others","row","end","tie"]
theorem uv:ao NOE ["rows"] (aW CB):=⟨rfl,rfl,rfl,by decide +kernel,rfl,by decide +kernel,by decide +kernel⟩
theorem OT{H:Hp}{t d:Addr}{xs:List V}{kvs:List (Key×V)}(h:H t=some (.tup xs))(g:H d=some (.dK kvs)):t≠d:=bN h g λz=>nomatch z
theorem pL{H:Hp}{t d:Addr}{xs:List V}{kvs:List (List Key×V)}(h:H t=some (.tup xs))(g:H d=some (.dT kvs)):t≠d:=bN h g λz=>nomatch z
theorem q8q{f:Addr}{fd:FuncData}(F:bM K "other_ends" "other_ends" CB f fd)(T:Txt mg)
  (GE:aV P w K mg base 1 "ends_round" ["row"] xU) :
  aD P w K mg base bP 2 f fd ["rows"] pK:=by
 refine F.gb uv (λvs H Q E h=>?_) λb0 H vs Q E hr h=>?_
 ·obtain⟨R,as,n,rfl,_⟩:=h;rfl
 obtain⟨R,as,n,rfl,hR,hN,hT,hn,ht,q⟩:=h;have nd:=uv.nd;have bB:=hR.len;have hu:=hr.u1;show Run _ _ _ [some<|.ref R,none,none,none,none,none] H;refine aN 1 nd<|B7 λdm uw=>?_;refine aN 2 nd<|Wt λdO xW=>?_;show Run _ _ _ [some<|.ref R,some<|.ref dm,some<|.ref dO,none,none,none] (upd (upd H dm<|.dK []) dO<|.dT []);have uz:dO≠dm:=λe=>by rw [e,aw] at xW;cases xW
 have pM:H dO=none:=by rw [aq uz] at xW;exact xW
 have em:(upd (upd H dm<|.dK []) dO<|.dT []) dm=some (.dK []):=by rw [aq<|CJ uz,aw]
 have eo:(upd (upd H dm<|.dK []) dO<|.dT []) dO=some (.dT []):=aw;have s0:aj H (upd (upd H dm<|.dK []) dO<|.dT []):=λb o h=>by rw [aq<|bC h pM,aq<|bC h uw];exact h
 generalize upd (upd H dm<|.dK []) dO (.dT [])=H1 at em eo s0 ⊢;refine kg<|ae 0 ⟨R,rfl,⟨_,al.of<|s0 _ _ hR.lst⟩,kh (xs:=as.map λa=>V.ref a.1) (λr σ H'=>∃ kM kO u1 u2 u3,aj H H'/\H' dm=some (.dK kM)/\H' dO=some (.dT kO)/\i5 n (bw<|n.take r) H' kM kO/\σ=[some<|.ref R,some<|.ref dm,some<|.ref dO,u1,u2,u3])
  ⟨[],[],_,_,_,s0,em,eo,⟨λ_ _=>rfl,λz a rest h=>(by cases h),λz a b rest h=>(by cases h),λp h=>(by cases h),Bv _,Bv _,λk h=>(by cases h),Cd⟩,rfl⟩ ?_ ?_ ?_⟩
 ·rintro r σ H' _ ⟨kM,kO,u1,u2,u3,sm,_⟩;exact al.of<|sm _ _ hR.lst
 ·rintro r x σ H' hx ⟨kM,kO,u1,u2,u3,sm,OU,FK,I,rfl⟩;have hi:r < n.length:=by
   have:=(Ac.mp hx).1;rw [Aa] at this;omega
  obtain⟨a,ea,dP,et,el,er⟩:=(hR.same sm).at hi;rw [Af,ea] at hx;cases hx;have lS:(row n r).length<=1000:=Cr (gZ n r) ht;have enm:nameAt n r=n[r].1:=ur hi;refine bx 3 nd ?_;refine wA (Xz rfl T.zip (ta:=wv _ _) jj) ?_;show Ea _ _ _ _ _;refine ai<|bZ GE hr<|ai<|ae 3<|au ⟨a.1,a.2,n[r].1,row n r,rfl,et,el,lS,λL ts H5 s5 n5 e5 l5 t5=>?_⟩;refine ai<|aS cC<|ae 3<|ay ⟨a.1,_,_,.ref a.2,rfl,rfl,aK.of<|s5 _ _ et,rfl,au ⟨L,a.2,rfl,⟨_,al.of e5⟩,⟨_,al.of<|s5 _ _ el⟩,?_⟩⟩;have xX:=s5 _ _ OU;have xY:=s5 _ _ FK;have FL:=s5 _ _ el;refine q0a (xs:=ts.map V.ref) (ys:=(row n r).map V.str) (by rw [Aa,Aa,l5]) (λp σ' bU=>∃ kM kO u2 u3,(∀ b o,b≠dm->b≠dO->H5 b=some o->bU b=some o)/\bU dm=some (.dK kM)/\bU dO=some (.dT kO)/\i5 n (bw (n.take r)++bL r ((row n r).take p) 0) bU kM kO/\σ'=[some<|.ref R,some<|.ref dm,some<|.ref dO,some<|.ref a.1,u2,u3])
   ⟨kM,kO,_,_,λb o _ _ h=>h,xX,xY,?_,rfl⟩ ?_ ?_ ?_
  ·have:bL r ((row n r).take 0) 0=[]:=by simp [bL]
   rw [this,Bj];exact I.keep λt p j h=>s5 _ _ h
  ·rintro p σ' bU _ ⟨kM,kO,u2,u3,kb,_,_,_,rfl⟩;exact⟨al.of (kb _ _ (bN e5 xX λz=>nomatch z) (bN e5 xY λz=>nomatch z) e5),al.of<|kb _ _ (bN FL xX λz=>nomatch z) (bN FL xY λz=>nomatch z) FL⟩
  ·rintro p x y Tt σ' bU hx hy ⟨kM,kO,u2,u3,kb,xZ,x4,I6,rfl⟩ pN;rw [Af,Av] at hx hy;obtain⟨te,x5,rfl⟩:=hx;obtain⟨z,hz,rfl⟩:=hy;have rB:=t5 p te x5;have FO:bU te=some (Tn n[r].1 p):=kb _ _ (OT rB xX) (pL rB xY) rB;have FR:aM n (r,p)=some z:=hz;obtain⟨rest,d6⟩:=xV hi hz;have hlen:(bw (n.take r)++bL r ((row n r).take p) 0).length < 1000:=by
    have h1:(bw n).length=(af n).length:=by
     have:=CG List.length<|lJ n 0;rw [Aa] at this;exact this
    have h2:=CG List.length d6;rw [Ae,Ao] at h2;omega
   have dk:bw (n.take r)++bL r ((row n r).take<|p+1) 0=(bw (n.take r)++bL r ((row n r).take p) 0)++[(z,(r,p))]:=by
    rw [tP hz,Ba]
   have jY:∀ b,b∈b9 (bw (n.take r)++bL r ((row n r).take p) 0) z->b≠(r,p):=λb hb e=>by
    have hm:=ut hb;have gT:=kn n;unfold ends at gT;rw [d6,Am,Bb] at gT;exact(Cc.mp gT).2.2 _ (Al.mpr ⟨_,hm,rfl⟩) _ Ad e
   have uA:(b9 (bw (n.take r)++bL r ((row n r).take p) 0) z).length<=1:=by
    have h1:(pos n z).length=2:=by rw [tM];exact hT z<|fk FR
    have h2:pos n z=b9 (bw (n.take r)++bL r ((row n r).take p) 0) z++b9 ((z,(r,p)) :: rest) z:=by
     show b9 (bw n) z=_;rw [d6];unfold b9;rw [QM,Am]
    have h3:1<=(b9 ((z,(r,p)) :: rest) z).length:=by
     unfold b9;rw [FrQ,BR<|by simp];simp
    rw [h2,Ae] at h1;omega
   generalize bw (n.take r)++bL r ((row n r).take p) 0=done at I6 hlen dk jY uA;rw [dk];have hTm:Tt≠dm:=λe=>by rw [e,xZ] at pN;cases pN
   have hTo:Tt≠dO:=λe=>by rw [e,x4] at pN;cases pN
   have s7:=aJ pN<|.tup [.ref te,.str z];have FU:∀ b o,b≠dm->b≠dO->H5 b=some o->(upd bU Tt<|.tup [.ref te,.str z]) b=some o:=λb o h1 h2 h=>s7 _ _<|kb b o h1 h2 h;have rC:=s7 _ _ xZ;have rD:=s7 _ _ x4;have I7:=I6.keep (H':=upd bU Tt<|.tup [.ref te,.str z]) λt p j h=>s7 _ _ h;have uB:=s7 _ _ FO;refine kr rfl (aK.of aw) (bx 4 nd<|bx 5 nd ?_);show Run _ _ _ [some<|.ref R,some<|.ref dm,some<|.ref dO,some<|.ref a.1,some<|.ref te,some<|.str z] _;generalize upd bU Tt (.tup [.ref te,.str z])=H7 at FU rC rD I7 uB;have pO:H7 te=some (TN n (r,p)):=by
    show H7 te=some (Tn (nameAt n r) p);rw [enm];exact uB
   have hM:kM.length < sizeLine:=cb (by have:=I7.dS;omega);have hO:kO.length < sizeLine:=cb (by have:=I7.fA;omega);refine d9<|MR hu<|ae 5<|ae 1 ⟨dm,_,rfl,bD.k (k:=Sum.inr z) rC,?_⟩
   match jt:b9 done z with
   | []=>
    rw [I7.m0 z jt];show if false=true then _ else _;rw [BK At];refine tL hu<|ae 4<|ae 1<|ae 5 ⟨dm,_,rfl,cw.k (k:=Sum.inr z) rC hM,aH<|aH ⟨_,kO,_,_,λb o h1 h2 h=>?_,aw,?_,?_,rfl⟩⟩
    ·rw [aq h1];exact FU b o h1 h2 h
    ·rw [aq uz];exact rD
    ·exact(I7.new pO FR jt).keep λt p j h=>by rw [aq<|OT h rC];exact h
   | b :: more=>
    have uC:more=[]:=by
     rw [jt,Ao] at uA;exact Bf.mp<|by omega
    subst uC;obtain⟨tm,vm,FV⟩:=I7.m1 z b [] jt;rw [vm];show if true=true then _ else _;rw [BR rfl];have kL:b≠(r,p):=jY b (by rw [jt];exact Ag.mpr rfl);refine tL hu (mR hu<|ae 1<|ae 5 ⟨dm,.ref tm,rfl,by rw [<- vm];exact bD.k (k:=Sum.inr z) rC,ae 2<|ae 4 ⟨dO,_,rfl,cw.t (k:=key n (r,p)) rD pO hO,?_⟩⟩);have hO2:=jh kO (key n (r,p))<|.ref tm;have hO3:=I7.fA;have OV:(upd H7 dO<|.dT<|putK kO (key n (r,p))<|.ref tm) dm=some (.dK kM):=by rw [aq<|CJ uz];exact rC
    have FX:(upd H7 dO<|.dT<|putK kO (key n (r,p))<|.ref tm) tm=some (TN n b):=by rw [aq<|pL FV rD];exact FV
    refine tL hu<|ae 4<|ae 2<|mR hu<|ae 1<|ae 5 ⟨dm,.ref tm,rfl,by rw [<- vm];exact bD.k (k:=Sum.inr z) OV,dO,_,rfl,cw.t (k:=key n b) aw FX (cb<|by omega),aH<|aH ⟨kM,_,_,_,λb o h1 h2 h=>?_,?_,aw,?_,rfl⟩⟩
    ·rw [aq h2,aq h2];exact FU b o h1 h2 h
    ·rw [aq<|CJ uz];exact OV
    ·exact(I7.old hN pO FV FR jt kL).keep λt p j h=>by rw [aq<|pL h rD,aq<|pL h rD];exact h
  ·rintro σ' bU ⟨kM,kO,u2,u3,kb,xZ,x4,I6,rfl⟩;refine aH ⟨kM,kO,_,_,_,λb o h=>?_,xZ,x4,?_,rfl⟩
   ·exact kb b o (bC h uw) (bC h pM)<|s5 _ _<|sm _ _ h
   ·rw [Aa,l5,Bq] at I6;rw [tO hi];exact I6
 ·rintro σ H' ⟨kM,kO,u1,u2,u3,sm,OU,FK,I,rfl⟩;rw [Aa,bB,Bq] at I;have lO:=I.fA;have ls:(bw n).length=(af n).length:=by rw [<- lJ n 0,Aa];rfl
  exact bY<|ae 2<|q dO kO H' sm pM FK (λe he=>I.whole hT he) I.nd (λk hk=>let ⟨p,hp,e⟩:=I.ks k hk;⟨p.2,Al.mpr ⟨p,hp,rfl⟩,e⟩)<|by omega
end
def lW(n:Net)(H:Hp)(us:List Addr)(done:List<|Str×Nt.End):Prop:=us.length=done.length/\∀(j:Nat) u p,us[j]?=some u->done[j]?=some p->H u=some (TN n p.2)
theorem lW.keep{n:Net}{H H':Hp}{us:List Addr}{done:List (Str×Nt.End)}(h:lW n H us done)(k:∀ t p j,H t=some (Tn p j)->H' t=some (Tn p j)):lW n H' us done:=⟨h.1,λj u p h1 h2=>k _ _ _<|h.2 j u p h1 h2⟩
theorem lW.snoc{n:Net}{H H':Hp}{us:List Addr}{done:List (Str×Nt.End)}{u:Addr}{p:Str×Nt.End}(h:lW n H us done)(k:∀ t p j,H t=some (Tn p j)->H' t=some (Tn p j))(hu:H' u=some (TN n p.2)):lW n H' (us++[u]) (done++[p]):=by
 obtain⟨hl,ha⟩:=h;refine⟨by rw [Ae,Ae,hl];rfl,λj v x hv hx=>?_⟩
 by_cases hj:j < us.length
 ·rw [Ay hj] at hv;rw [Ay<|by omega] at hx;exact k _ _ _<|ha j v x hv hx
 ·rw [Bd<|by omega] at hv hx;have gM:j - us.length=0:=by
   have:=(Ac.mp hv).1;simp at this;omega
  have hj3:j - done.length=0:=by omega
  rw [gM] at hv;rw [hj3] at hx;cases hv;cases hx;exact hu
section
variable{X:Cx}{tg:Expr}{ifs:List Expr}{inner:Sem Unit}{σ:St}{H:Hp}{a b:Addr}{xs ys:List V}{after:St->Hp->Prop}
theorem rE(Pv:Nat->St->Hp->Prop)(h0:Pv 0 σ H)(hl:∀ i σ' H',i<=xs.length->Pv i σ' H'->al X.K H' a xs)
  (hs:∀ i x σ' H',xs[i]?=some x->Pv i σ' H'->Eg X tg x σ' H' λσ2 H3=>Ei X ifs σ2 H3 λb H4=>if b=true then mJ X inner σ2 H4 (Pv<|i+1) else Pv (i+1) σ2 H4)
  (hd:∀ σ' H',Pv xs.length σ' H'->after σ' H'):jF X tg ifs inner (qu X.K a) after σ H:=by
 refine⟨λi m σ' H'=>m=xs.length - i/\i<=xs.length/\Pv i σ' H',⟨_,rfl,Bv _,h0⟩,?_⟩;rintro i m σ' H' ⟨rfl,hi,p⟩;have q:=hl i σ' H' hi p
 by_cases aO:i < xs.length
 ·refine .inr ⟨⟨xs,xs[i],q,by simp [aO]⟩,Pv<|i+1,λσ' H' p'=>⟨xs.length - (i+1),by omega,rfl,aO,p'⟩,λx H2 y=>?_⟩;obtain⟨e,y⟩:=y;subst e;exact hs i x σ' _ (y xs q) p
 ·have e:i=xs.length:=by omega
  subst e;exact .inl ⟨⟨xs,q,Ak _⟩,hd σ' H' p⟩
end
def FY:Sp:=λvs H Q _=>∃(R:Addr) (as:List<|Addr×Addr) (n:Net),vs=[.ref R]/\ah H R as n/\n.length<=1000/\(af n).length<=1000 /\
 ∀(L:Addr) (ts:List Addr) (H':Hp),aj H H'->H L=none->H' L=some (.lst<|ts.map V.ref)->lW n H' ts (bw n)->Q (.ref L) H'
section
variable{P:Program}{w:World}{K:PySem.W.Frag}{mg:Str->Option Value}{base:Heap}
abbrev OW:List Str:=["rows"]
abbrev OX:List Str:=["rows","row","end"]
theorem iI:ao OW ["rows"] (aW w6):=⟨rfl,rfl,rfl,by decide +kernel,rfl,by decide +kernel,by decide +kernel⟩
theorem OY:OX.Nodup:=by decide +kernel
theorem k9x{f:Addr}{fd:FuncData}(F:bM K "ends_in_order" "ends_in_order" w6 f fd)(T:Txt mg)
  (GE:aV P w K mg base 1 "ends_round" ["row"] xU) :
  aD P w K mg base bP 2 f fd ["rows"] FY:=by
 refine F.gb iI (λvs H Q E h=>?_) λb0 H vs Q E hr h=>?_
 ·obtain⟨R,as,n,rfl,_⟩:=h;rfl
 obtain⟨R,as,n,rfl,hR,hn,ht,q⟩:=h;have nd:=iI.nd;have bB:=hR.len;show Run _ _ _ [some<|.ref R] H;refine bY<|Nk (aW w6) OW OX 2 (iQ bE)<|ae 0 ⟨R,rfl,⟨_,al.of hR.lst⟩,λD hD cl C s₀ H₀ ex=>?_⟩;refine rE (xs:=as.map λa=>V.ref a.1) (λr σ' H'=>(∃ v1 v2,σ'=[some<|.ref R]++[v1,v2])/\∃ ts:List Addr,aj H H'/\H' D=some (.lst<|ts.map V.ref)/\lW n H' ts (bw<|n.take r)) ⟨⟨none,none,rfl⟩,[],aJ hD _,aw,⟨rfl,λj u p h=>(by cases h)⟩⟩ ?_ ?_ ?_
 ·rintro r σ' H' _ ⟨_,ts,sm,_⟩;exact al.of<|sm _ _ hR.lst
 ·rintro r x σ' H' hx ⟨⟨v1,v2,rfl⟩,ts,sm,eD,AN⟩;have hi:r < n.length:=by
   have:=(Ac.mp hx).1;rw [Aa] at this;omega
  obtain⟨a,ea,dP,et,el,er⟩:=(hR.same sm).at hi;rw [Af,ea] at hx;cases hx;have lS:(row n r).length<=1000:=Cr (gZ n r) ht;refine bx 1 OY ?_;refine gS ?_;rw [BR rfl];refine Nj rfl rfl (iQ bE) (bZ GE hr<|ai<|ae 1<|au ⟨a.1,a.2,n[r].1,row n r,rfl,et,el,lS,λL us H5 s5 n5 e5 l5 t5=>⟨L,rfl,⟨_,al.of e5⟩,?_⟩⟩);have nLD:L≠D:=λe=>by rw [e,eD] at n5;cases n5
  refine rE (xs:=us.map V.ref) (λp σ' bU=>(∃ v2,σ'=[some<|.ref R]++[some<|.ref a.1,v2])/\∃ ts:List Addr,(∀ b o,b≠D->H5 b=some o->bU b=some o)/\bU D=some (.lst<|ts.map V.ref)/\lW n bU ts (bw (n.take r)++bL r ((row n r).take p) 0))
   ⟨⟨_,rfl⟩,ts,λb o _ h=>h,s5 _ _ eD,by simpa [bL] using AN.keep (H':=H5) λt p j h=>s5 _ _ h⟩ ?_ ?_ ?_
  ·rintro p σ' bU _ ⟨_,ts,kb,_⟩;exact al.of<|kb _ _ nLD e5
  ·rintro p x σ' bU hx ⟨⟨v2,rfl⟩,ts,kb,ju,uD⟩;rw [Af,Av] at hx;obtain⟨te,x5,rfl⟩:=hx;have hp:p < (row n r).length:=by have:=(Ac.mp x5).1;omega
   have hz:(row n r)[p]?=some (row n r)[p]:=Ab hp;generalize (row n r)[p]=z at hz;have rB:=t5 p te x5;have OZ:te≠D:=bN rB (s5 _ _ eD) λz=>nomatch z;have FO:=kb _ _ OZ rB;obtain⟨rest,d6⟩:=xV hi hz;have hlen:ts.length < 1000:=by
    have h1:(bw n).length=(af n).length:=by
     have:=CG List.length<|lJ n 0;rw [Aa] at this;exact this
    have h2:=CG List.length d6;rw [Ae,Ao] at h2;have:=uD.1;omega
   refine bx 2 OY ?_;refine gS ?_;rw [BR rfl];refine A7 (ae 2 ⟨ts.map V.ref,ju,by rw [Aa];exact cb (by omega),⟨_,rfl⟩,ts++[te],λb o hb h=>by rw [aq hb];exact kb b o hb h,by rw [aw,Am];rfl,?_⟩);rw [tP hz,<- Ba];refine uD.snoc (λt p j h=>by rw [aq<|bN h ju λz=>nomatch z];exact h) ?_;rw [aq OZ];show bU te=some (Tn (nameAt n r) p);rw [ur hi];exact FO
  ·rintro σ' bU ⟨⟨v2,rfl⟩,ts,kb,ju,uD⟩;refine⟨⟨_,_,rfl⟩,ts,λb o h=>kb b o (bC h hD)<|s5 _ _<|sm _ _ h,ju,?_⟩;rw [Aa,l5,Bq,<- tO hi] at uD;exact uD
 ·rintro σ' H' ⟨_,ts,sm,eD,AN⟩;rw [Aa,bB,Bq] at AN;exact q D ts H' sm hD eD AN
end
section
variable{X:Cx}{H:Hp}
theorem xL{k:Nat}(z:Str):iA X H k (.str z) (.str z) true:=by
 have:=oR (X:=X) (H:=H) (k:=k) (x:= .str z) (y:= .str z) rfl rfl;have e:cH (.str z) (.str z)=true:=by show(z == z)=true;simp
 rw [e] at this;exact this
theorem q5m{p p':Str}{j j':Int}:∀(i:Nat) (u v:V),[V.str p,.int j][i]?=some u->[V.str p',.int j'][i]?=some v->iA X H 0 u v (if i=0 then cH (.str p) (.str p') else cH (.int j) (.int j'))
 | 0,u,v,h1,h2=>by
  cases h1;cases h2;exact oR rfl rfl
 | 1,u,v,h1,h2=>by
  cases h1;cases h2;exact oR rfl rfl
 | i+2,u,v,h1,h2=>by simp at h1
theorem q48(p p':Str)(j j':Int):(cH (.str p) (.str p') && cH (.int j) (.int j'))=decide (p=p'/\j=j'):=by
 show((p == p') && (j == j'))=_
 by_cases h:p=p' <;> by_cases h2:j=j' <;> simp [h,h2]
theorem q5u{s t:Addr}{p p':Str}{j j':Int}(hs:H s=some (Tn p j))(ht:H t=some (Tn p' j')):lG X H 1 (.ref s) (.ref t) (decide (p=p'/\j=j')):=by
 have:=MO (X:=X) (k:=0) (λi=>if i=0 then cH (.str p) (.str p') else cH (.int j) (.int j')) (aK.of hs) (aK.of ht) rfl q5m;rw [show([V.str p,.int j].length)=2 from rfl,all2] at this;have e:=q48 p p' j j';simp only [DP] at this;rw [BK (by decide),e] at this;exact this
end
theorem k76{X:Cx}{H:Hp}{a b:Addr}{zs:List Str}(ha:H a=some (Ls zs))(hb:H b=some (Ls zs)):lG X H 1 (.ref a) (.ref b) true:=by
 have q:=wL (X:=X) (k:=0) (λ_=>true) (al.of (K:=X.K) ha) (al.of (K:=X.K) hb) rfl λj x y hx hy=>by
  rw [hx] at hy;cases hy;rw [Af,Av] at hx;obtain⟨z,_,rfl⟩:=hx;exact xL z
 rw [wM] at q;exact q
section
variable{P:Program}{w:World}{K:PySem.W.Frag}{mg:Str->Option Value}{base:Heap}
theorem O0{κ:Type} [DecidableEq κ]:∀{kvs:List (κ×V)} {i:Nat} {p:κ×V},(kvs.map (·.1)).Nodup->kvs[i]?=some p->aB kvs p.1=some p.2
 | [],_,_,_,h=>by simp at h
 | q :: r,0,p,_,h=>by
  cases h;exact iu rfl
 | q :: r,i+1,p,hn,h=>by
  rw [Bb,Bn] at hn;have hm:r[i]?=some p:=by simpa using h
  rw [gP λe=>hn.1<|by rw [e];exact Al.mpr ⟨p,Aq hm,rfl⟩];exact O0 hn.2 hm
theorem q6i{κ:Type}{l:List κ}(h:l.Nodup){i j:Nat}{a:κ}(hi:l[i]?=some a)(hj:l[j]?=some a):i=j:=by
 have h1:=(Ac.mp hi).1;have h2:=(Ac.mp hj).1;have e1:=(Ac.mp hi).2;have e2:=(Ac.mp hj).2
 rcases QX i j with c | c | c
 ·exact absurd (e1.trans e2.symm)<|Bm.mp h i j h1 h2 c
 ·exact c
 ·exact absurd (e2.trans e1.symm)<|Bm.mp h j i h2 h1 c
def pP(c:Int):Sp:=λvs H Q _=>∃(R:Addr) (as:List<|Addr×Addr) (n:Net),vs=[.ref R]/\ah H R as n/\(n.map (·.1)).Nodup/\aC n/\n.length<=1000/\(af n).length<=1000 /\
 ∀(d:Addr) (kvs:List<|List Key×V) (H':Hp),aj H H'->H d=none->H' d=some (.dT kvs)->(∀ e∈ends n,∃ u,aB kvs (key n e)=some (.ref u)/\H' u=some (TN n<|go c n e))->Q (.ref d) H'
abbrev uE:List Str:=["rows","lists"]
abbrev uF:List Str:=["rows","lists","end","other"]
theorem O1:uF.Nodup:=by decide +kernel
theorem uG:ao uE ["rows"] (aW w8):=⟨rfl,rfl,rfl,by decide +kernel,rfl,by decide +kernel,by decide +kernel⟩
theorem q8f{f:Addr}{fd:FuncData}(F:bM K "left_steps" "left_steps" w8 f fd)(T:Txt mg)
  (GO:aV P w K mg base 2 "other_ends" ["rows"] pK)
  (GT:aV P w K mg base 2 "turned_left" ["end","many"]<|pJ λj=>j+1) :
  aD P w K mg base bP 3 f fd ["rows"] (pP<|1):=by
 refine F.gb uG (λvs H Q E h=>?_) λb0 H vs Q E hr h=>?_
 ·obtain⟨R,as,n,rfl,_⟩:=h;rfl
 obtain⟨R,as,n,rfl,hR,hN,hT,hn,ht,q⟩:=h;have nd:=uG.nd;have bB:=hR.len;have hu:=hr.u1;show Run _ _ _ [some<|.ref R,none] H;have keys:=OM n as bB;have knd:((g9 n as).map (·.1)).Nodup:=by rw [keys];exact k4j hN
 have F0:(g9 n as).length=n.length:=by have:=CG List.length keys;simpa using this
 refine aN 1 nd (sV (Xt rfl) T.tT PyProof.Rows.boot_dict (ai (ae 0 (au ⟨R,as.map (·.1),g9 n as,rfl,?_,?_,?_,?_,λdl iy=>?_⟩))))
 ·rw [Cf];exact hR.lst
 ·rw [Aa,F0,bB]
 ·rw [Aa];exact cb<|by omega
 ·intro j t kv h1 h2;rw [Af,Av] at h1;obtain⟨a,ea,rfl⟩:=h1;have hj:j < n.length:=by have:=(Ac.mp ea).1;omega
  have e:=OO (Ab hj) ea;rw [h2] at e;cases e;exact(hR.tup j a n[j] ea<|Ab hj).1
 have ef:(g9 n as).foldl (λa p=>putK a p.1 p.2) []=g9 n as:=by
  rw [k9p (acc:=[]) (by rw [Gu];exact knd),Gu]
 rw [ef];have s1:=aJ iy<|.dK<|g9 n as;have el:(upd H dl<|.dK<|g9 n as) dl=some (.dK<|g9 n as):=aw;generalize upd H dl (.dK<|g9 n as)=H1 at s1 el;show Run _ _ _ [some<|.ref R,some<|.ref dl] H1;refine bY<|XG (aW w8) uE uF 2 (X2 bE) ?_;refine bZ GO hr<|ai<|ae 0<|au ⟨R,as,n,rfl,hR.same s1,hN,hT,hn,ht,λd kvs H2 s2 pj ed val uH kks O2=>?_⟩;refine⟨d,kvs,rfl,ed,λo D hD cl C s₀ H₀ ex=>?_⟩;have nDd:D≠d:=λe=>by rw [e,aw] at hD;cases hD
 have x6:H2 D=none:=by rw [aq nDd] at hD;exact hD
 have hd0:H d=none:=g8 s1 pj;have sB:aj H (upd H2 d<|.cJ o<|.dT kvs):=dN (s1.trans s2) hd0;have kB:∀ b o',b≠d->H2 b=some o'->(upd H2 d<|.cJ o<|.dT kvs) b=some o':=λb o' hb h=>by rw [aq hb];exact h
 have tB:∀ b p j,H2 b=some (Tn p j)->(upd H2 d<|.cJ o<|.dT kvs) b=some (Tn p j):=λb p j h=>kB b _ (pL h ed) h;have O3:(upd H2 d<|.cJ o<|.dT kvs) d=some (.cJ o<|.dT kvs):=aw;have O4:(upd H2 d<|.cJ o<|.dT kvs) dl=some (.dK<|g9 n as):=kB _ _ (λe=>by rw [e,pj] at el;cases el)<|s2 _ _ el;have hRB:=hR.same sB;generalize upd H2 d (.cJ o<|.dT kvs)=HB at hD sB tB O3 O4 hRB;have F1:=g8 sB hD;refine X4 (λi σ' H'=>(∃ v1 v2,σ'=[some<|.ref R,some<|.ref dl]++[v1,v2])/\∃ lX:List<|List Key×V,H' D=some (.dT lX)/\lX.length<=i/\aj HB H' /\
  (∀ j k x e,j < i->kvs[j]?=some (k,x)->e∈ends n->k=key n e->∃ u,aB lX (key n e)=some (.ref u)/\H' u=some (TN n<|go (1) n e)))
  ⟨⟨none,none,rfl⟩,[],aw,Ak _,aJ hD _,λj k x e h=>absurd h<|Ec _⟩ ?_ ?_ ?_
 ·rintro i σ' H' _ ⟨_,_,_,_,sm,_⟩;exact sm _ _ O3
 ·rintro i k x b Tt σ' H' hx ⟨⟨v1,v2,rfl⟩,lX,eD,l2,sm,all⟩ hb pN;have hi:i < kvs.length:=(Ac.mp hx).1;obtain⟨e,he,rfl⟩:=kks k<|Al.mpr ⟨_,Aq hx,rfl⟩;obtain⟨u,hv,D1⟩:=val e he;have uI:aB kvs (key n e)=some x:=O0 uH hx;rw [hv] at uI;cases uI;have O5:=gX hT he;obtain⟨zo,O6⟩:=ag.mp O5;have lS:=eW O6;have EV:=jK O6;have nmE:nameAt n (other n e).1=n[(other n e).1].1:=ur lS;have sT:=aJ pN<|.tup [.ref b,.ref u];have O7:=sT _ _<|sm _ _<|tB _ _ _ D1;refine kr rfl (aK.of aw) (bx 2 O1<|bx 3 O1 ?_);refine gS ?_;rw [BR rfl];have O8:as[(other n e).1]?=some (as[(other n e).1]'(by omega)):=Ab (by omega);have uJ:n[(other n e).1]?=some n[(other n e).1]:=Ab lS;have ev:aB (g9 n as) (Sum.inr<|nameAt n (other n e).1)=some (.ref (as[(other n e).1]'(by omega)).2):=by rw [nmE];exact OL knd<|OO uJ O8
  have F3:=(hR.tup _ _ _ O8 uJ).2;have uK:row n (other n e).1=n[(other n e).1].2:=jO lS;refine XE hu<|ae 2<|bZ GT hr<|ai<|ae 3<|ai<|bJ cZ T.len CZ<|ai<|mR hu<|ae 1<|aS cC<|ae 3<|ay ⟨u,_,_,.str<|nameAt n (other n e).1,rfl,rfl,aK.of O7,rfl,?_⟩;refine⟨dl,.ref (as[(other n e).1]'(by omega)).2,rfl,by rw [<- ev];exact bD.k (k:=Sum.inr<|nameAt n (other n e).1)<|sT _ _<|sm _ _ O4,au ⟨_,_,rfl,.inl<|al.of<|sT _ _<|sm _ _<|sB _ _ F3,au ⟨u,_,_,_,rfl,O7,?_,λt2 H4 s4 kC=>?_⟩⟩⟩
  ·rw [Aa,<- uK];omega
  rw [Aa,<- uK] at kC;have x8:H4 t2=some (TN n<|go (1) n e):=by
   rw [kC];have:=Nr (c:=1) O5;show some (Tn _ _)=some (Tn _ (((go (1) n e).2:Nat):Int));unfold go;rw [this];rfl
  have uq:=s4 _ _<|sT _ _ hb;refine⟨_,cw.t (k:=key n e) (s4 _ _<|sT _ _ eD) uq (cb<|by omega),⟨_,_,rfl⟩,_,aw,?_,dN ((sm.trans sT).trans s4) hD,λj k' x' e' hj lh O9 jE=>?_⟩
  ·have:=jh lX (key n e)<|.ref t2;omega
  ·subst jE
   by_cases xT:j=i
   ·subst xT;rw [hx] at lh;have hke:key n e=key n e':=CG Prod.fst<|Option.some.inj lh;obtain⟨z1,xq⟩:=ag.mp he;obtain⟨z2,xr⟩:=ag.mp O9;have:=rA hN (eW xq) (eW xr) hke;subst this;exact⟨t2,by rw [d8,BR rfl],by rw [aq<|pL x8<|s4 _ _<|sT _ _ eD];exact x8⟩
   ·obtain⟨u3,hu3,hu4⟩:=all j _ x' e' (by omega) lh O9 rfl;refine⟨u3,?_,?_⟩
    ·rw [d8,BK,hu3];intro hk;have h1:(kvs.map (·.1))[j]?=some (key n e'):=by rw [Af,lh];rfl
     have h2:(kvs.map (·.1))[i]?=some (key n e'):=by rw [Af,hx,hk];rfl
     exact xT<|q6i uH h1 h2
    ·have q4:=s4 _ _<|sT _ _ hu4;rw [aq<|pL q4<|s4 _ _<|sT _ _ eD];exact q4
 ·rintro σ' H' ⟨_,lX,eD,_,sm,all⟩;refine q D lX H' (sB.trans sm) F1 eD λe he=>?_;obtain⟨u,hv,_⟩:=val e he;obtain⟨i,hi⟩:∃ i:Nat,(kvs.map (·.1))[i]?=some (key n e):=Br<|K9 hv;rw [Af,Av] at hi;obtain⟨⟨k,x⟩,hx,hk⟩:=hi;exact all i k x e (Ac.mp hx).1 hx he hk
end
end B4
namespace ng
open PySem PySem.W PyProof.Rows
section
variable{lt:Nat->Nat->Bool}{cmp:Nat->Nat->(Bool->Shared->Prop)->Shared->Prop}{J:Shared->Prop}{n:Nat}
structure dU(lt:Nat->Nat->Bool)(cmp:Nat->Nat->(Bool->Shared->Prop)->Shared->Prop)(J:Shared->Prop)(n:Nat):Prop where
 ask:∀(i j:Nat) (C:Bool->Shared->Prop) (s:Shared),i < n->j < n->i≠j->J s->(∀ s',J s'->C (lt i j) s')->cmp i j C s
 tot:∀ i j,i < n->j < n->i≠j->lt i j=true\/lt j i=true
 asy:∀ i j,lt i j=true->lt j i=false
 x9:∀ i j k,lt i j=true->lt j k=true->lt i k=true
def g(p:Array Nat)(i:Nat):Nat:=p.getD i 0
structure Pm(p:Array Nat)(n:Nat):Prop where
 size:p.size=n
 lt:∀ i,i < n->g p i < n
 inj:∀ i j,i < n->j < n->g p i=g p j->i=j
theorem i6{p:Array Nat}{i:Nat}{v:Nat}(h:p[i]?=some v):g p i=v:=by
 unfold g;rw [Cu,h];rfl
theorem jZ{p q:Array Nat}{i j:Nat}(h:p[i]?=q[j]?):g p i=g q j:=by
 unfold g;rw [Cu,Cu,h]
theorem O'(n:Nat):Pm (List.toArray<|List.range n) n:=by
 have e:∀ i,i < n->g (List.toArray<|List.range n) i=i:=λi hi=>i6 (by simp [hi]);exact⟨by simp,λi hi=>by rw [e i hi];exact hi,λi j hi hj h=>by rw [e i hi,e j hj] at h;exact h⟩
def Up(lt:Nat->Nat->Bool)(p:Array Nat)(m:Nat):Prop:=∀ i j,i < j->j < m->lt (g p i) (g p j)=true
def Dn(lt:Nat->Nat->Bool)(p:Array Nat)(m:Nat):Prop:=∀ i j,i < j->j < m->lt (g p j) (g p i)=true
theorem q7e(p:Array Nat):Up lt p 1:=λi j h1 h2=>by omega
theorem q3u(A:dU lt cmp J n){p:Array Nat}{m:Nat}(h1:1<=m)(h:Up lt p m)(hm:lt (g p<|m - 1) (g p m)=true):Up lt p (m+1):=λi j hi hj=>by
 by_cases c:j < m
 ·exact h i j hi c
 ·have:j=m:=by omega
  subst this
  by_cases d:i=j - 1
  ·rw [d];exact hm
  ·exact A.x9 _ _ _ (h i (j - 1) (by omega)<|by omega) hm
theorem q2k(A:dU lt cmp J n){p:Array Nat}{m:Nat}(h1:1<=m)(h:Dn lt p m)(hm:lt (g p m) (g p<|m - 1)=true):Dn lt p (m+1):=λi j hi hj=>by
 by_cases c:j < m
 ·exact h i j hi c
 ·have:j=m:=by omega
  subst this
  by_cases d:i=j - 1
  ·rw [d];exact hm
  ·exact A.x9 _ _ _ hm<|h i (j - 1) (by omega)<|by omega
theorem F4(A:dU lt cmp J n){i j:Nat}(hi:i < n)(hj:j < n)(aX:i≠j)(h:lt i j=false):lt j i=true:=by
 rcases A.tot i j hi hj aX with q | q
 ·rw [h] at q;cases q
 ·exact q
theorem F5(A:dU lt cmp J n){p:Array Nat}(P:Pm p n):∀(f m:Nat) (Q:Nat->Shared->Prop) (s:Shared),1<=m->m+f<=n->Up lt p m->J s ->
  (∀ k s',J s'->m<=k->k<=m+f->Up lt p k->(k < m+f->lt (g p k) (g p<|k - 1)=true)->Q k s')->(kas_asc p f m).kasWp cmp Q s
 | 0,m,Q,s,h1,h2,hu,hJ,k=>k m s hJ (Ak _) (Ak _) hu λh=>by omega
 | f+1,m,Q,s,h1,h2,hu,hJ,k=>by
  have aX:g p m≠g p (m - 1):=λh=>by have:=P.inj m (m - 1) (by omega) (by omega) h;omega
  refine A.ask _ _ _ _ (P.lt m<|by omega) (P.lt (m - 1)<|by omega) aX hJ λs' gB=>?_;cases e:lt (p.getD m 0) (p.getD (m - 1) 0) with
  | true=>exact k m s' gB (Ak _) (by omega) hu λ_=>e
  | false=>
   have pQ:Up lt p (m+1):=q3u A h1 hu (F4 A (P.lt m<|by omega) (P.lt (m - 1)<|by omega) aX e);exact F5 A P f (m+1) Q s' (by omega) (by omega) pQ gB λk' s2 j2 a b c d=>k k' s2 j2 (by omega) (by omega) c λh=>d<|by omega
theorem Pa(A:dU lt cmp J n){p:Array Nat}(P:Pm p n):∀(f m:Nat) (Q:Array Nat×Nat×Nat->Shared->Prop) (s:Shared),1<=m->m+f<=n->Dn lt p m->J s ->
  (∀ k s',J s'->m<=k->k<=m+f->Dn lt p k->Q (p,k,0) s')->(kas_desc f p m 0).kasWp cmp Q s
 | 0,m,Q,s,h1,h2,hd,hJ,k=>k m s hJ (Ak _) (Ak _) hd
 | f+1,m,Q,s,h1,h2,hd,hJ,k=>by
  have aX:g p m≠g p (m - 1):=λh=>by have:=P.inj m (m - 1) (by omega) (by omega) h;omega
  refine A.ask _ _ _ _ (P.lt m<|by omega) (P.lt (m - 1)<|by omega) aX hJ λs' gB=>?_;cases e:lt (p.getD m 0) (p.getD (m - 1) 0) with
  | true=>
   show(if true=true then(if 0 > 0 then _ else kas_desc f p (m+1) 0) else _:KasT _).kasWp cmp Q s';rw [BR rfl,BK<|by omega];exact Pa A P f (m+1) Q s' (by omega) (by omega) (q2k A h1 hd e) gB λk' s2 j2 a b c=>k k' s2 j2 (by omega) (by omega) c
  | false=>
   refine A.ask _ _ _ _ (P.lt (m - 1)<|by omega) (P.lt m<|by omega) (CJ aX) gB λs2 uL=>?_;have e2:lt (p.getD (m - 1) 0) (p.getD m 0)=true:=F4 A (P.lt m<|by omega) (P.lt (m - 1)<|by omega) aX e;rw [e2];exact k m s2 uL (Ak _) (by omega) hd
theorem uM{p:Array Nat}{m k:Nat}(h:m<=p.size):g (kas_rev p 0 m) k=if k < m then g p (m - 1 - k) else g p k:=by
 have e:=getElem?_mirror_all (xs:=p) (i:=0) (j:=m) h k
 by_cases c:k < m
 ·rw [BR c];rw [BR ⟨Bv _,c⟩] at e;refine jZ<|e.trans ?_
  congr 1
  omega
 ·rw [BK c];rw [BK λq=>c q.2] at e;exact jZ e
theorem Pb{p:Array Nat}{m:Nat}(P:Pm p n)(h:m<=n):Pm (kas_rev p 0 m) n:=by
 have hs:m<=p.size:=by rw [P.size];exact h
 refine⟨by rw [kas_rev_size];exact P.size,λi hi=>?_,λi j hi hj q=>?_⟩
 ·rw [uM hs]
  split
  ·exact P.lt _<|by omega
  ·exact P.lt _ hi
 ·rw [uM hs,uM hs] at q
  by_cases c:i < m <;> by_cases d:j < m
  ·rw [BR c,BR d] at q;have:=P.inj _ _ (by omega) (by omega) q;omega
  ·rw [BR c,BK d] at q;have:=P.inj _ _ (by omega) hj q;omega
  ·rw [BK c,BR d] at q;have:=P.inj _ _ hi (by omega) q;omega
  ·rw [BK c,BK d] at q;exact P.inj _ _ hi hj q
theorem q6j{p:Array Nat}{m:Nat}(P:Pm p n)(h:m<=n)(hd:Dn lt p m):Up lt (kas_rev p 0 m) m:=λi j hi hj=>by
 have hs:m<=p.size:=by rw [P.size];exact h
 rw [uM hs,uM hs,BR (by omega),BR hj];exact hd (m - 1 - j) (m - 1 - i) (by omega)<|by omega
theorem k85(A:dU lt cmp J n){p:Array Nat}(P:Pm p n){m:Nat}{Q:Nat×Array Nat->Shared->Prop}{s:Shared}(h1:1<=m)(h2:m<=n)(hd:Dn lt p m)(hJ:J s)
  (k:∀ r q s',J s'->1<=r->r<=n->Pm q n->Up lt q r->Q (r,q) s'):(kas_tail3 m n p).kasWp cmp Q s:=by
 unfold kas_tail3;rw [KC];exact F5 A (Pb P h2) (n - m) m _ s h1 (by omega) (q6j P h2 hd) hJ λr s' j a b c _=>k r _ s' j (by omega) (by omega) (Pb P h2) c
theorem k9n(A:dU lt cmp J n){p:Array Nat}(P:Pm p n){Q:Nat×Array Nat->Shared->Prop}{s:Shared}(h2:2<=n)(hJ:J s)
  (k:∀ r q s',J s'->1<=r->r<=n->Pm q n->Up lt q r->Q (r,q) s'):(kas_count n p).kasWp cmp Q s:=by
 unfold kas_count;rw [KC];refine F5 A P (n - 1) 1 _ s (Ak _) (by omega) (q7e p) hJ λm s' gB m1 m2 hu uN=>?_
 by_cases c:m=n
 ·subst c;rw [BR<|by simp];exact k m p s' gB m1 (Ak _) P hu
 ·rw [BK<|by simpa using c]
  by_cases d:m > 1
  ·rw [BR d];have aX:g p 0≠g p (m - 1):=λh=>by have:=P.inj 0 (m - 1) (by omega) (by omega) h;omega
   refine A.ask _ _ _ _ (P.lt 0<|by omega) (P.lt (m - 1)<|by omega) aX gB λs2 uL=>?_;have e:lt (p.getD 0 0) (p.getD (m - 1) 0)=true:=hu 0 (m - 1) (by omega) (by omega);rw [e];exact k m p s2 uL m1 (by omega) P hu
  ·rw [BK d];have em:m=1:=by omega
   subst em;unfold kas_descPart;rw [KC];have hl:=uN (by omega);have hd2:Dn lt p 2:=λi j hi hj=>by
    have:i=0/\j=1:=by omega
    rw [this.1,this.2];exact hl
   refine Pa A P (n - (1+1)) (1+1) _ s' (by omega) (by omega) hd2 gB λr s2 uL r1 r2 hd=>?_;show(if(0:Nat) > 0 then _ else kas_tail3 r n p:KasT _).kasWp cmp Q s2;rw [BK<|by omega];exact k85 A P (by omega) (by omega) hd uL k
theorem F6(A:dU lt cmp J n){p:Array Nat}(P:Pm p n){k:Nat}(hk:k < n)(hu:Up lt p k):∀(f l r:Nat) (Q:Nat->Shared->Prop) (s:Shared),r<=k->l<=r->r - l<=f->J s->(∀ i,i < l->lt (g p i) (g p k)=true)->(∀ i,r<=i->i < k->lt (g p k) (g p i)=true) ->
  (∀ m s',J s'->m<=k->(∀ i,i < m->lt (g p i) (g p k)=true)->(∀ i,m<=i->i < k->lt (g p k) (g p i)=true)->Q m s')->(kas_place p k f l r).kasWp cmp Q s
 | 0,l,r,Q,s,h1,h2,h3,hJ,ha,hb,q=>q l s hJ (by omega) ha λi hi=>hb i<|by omega
 | f+1,l,r,Q,s,h1,h2,h3,hJ,ha,hb,q=>by
  unfold kas_place
  by_cases c:l>=r
  ·rw [BR c];exact q l s hJ (by omega) ha λi hi=>hb i<|by omega
  ·rw [BK c];have hmk:(l+r) / 2 < k:=by omega
   have aX:g p k≠g p ((l+r) / 2):=λh=>by have:=P.inj k _ hk (by omega) h;omega
   refine A.ask _ _ _ _ (P.lt k hk) (P.lt _<|by omega) aX hJ λs' gB=>?_;cases e:lt (p.getD k 0) (p.getD ((l+r) / 2) 0) with
   | true=>
    show(kas_place p k f l<|(l+r) / 2).kasWp cmp Q s';refine F6 A P hk hu f l ((l+r) / 2) Q s' (by omega) (by omega) (by omega) gB ha (λi hi ya=>?_) q
    by_cases d:i=(l+r) / 2
    ·rw [d];exact e
    ·exact A.x9 _ _ _ e<|hu _ _ (by omega) ya
   | false=>
    show(kas_place p k f ((l+r) / 2+1) r).kasWp cmp Q s';have e2:=F4 A (P.lt k hk) (P.lt _<|by omega) aX e;refine F6 A P hk hu f ((l+r) / 2+1) r Q s' h1 (by omega) (by omega) gB (λi hi=>?_) hb q
    by_cases d:i=(l+r) / 2
    ·rw [d];exact e2
    ·exact A.x9 _ _ _ (hu _ _ (by omega) hmk) e2
theorem uO{p:Array Nat}{k m i:Nat}(hk:k < p.size)(hm:m<=k):g (bubble p k<|k - m) i=if i=m then g p k else if m < i/\i<=k then g p (i - 1) else g p i:=by
 have e:=getElem?_bubble (xs:=p) hk (k - m) (by omega) i;rw [show k - (k - m)=m by omega] at e
 by_cases c:i=m
 ·rw [BR c];rw [BR c] at e;exact jZ e
 ·rw [BK c];rw [BK c] at e
  by_cases d:m < i/\i<=k
  ·rw [BR d];rw [BR d] at e;exact jZ e
  ·rw [BK d];rw [BK d] at e;exact jZ e
theorem q42{p:Array Nat}{k m:Nat}(P:Pm p n)(hk:k < n)(hm:m<=k):Pm (bubble p k<|k - m) n:=by
 have hs:k < p.size:=by rw [P.size];exact hk
 refine⟨by rw [bubble_size];exact P.size,λi hi=>?_,λi j hi hj q=>?_⟩
 ·rw [uO hs hm]
  split
  ·exact P.lt k hk
  ·split
   ·exact P.lt _<|by omega
   ·exact P.lt _ hi
 ·rw [uO hs hm,uO hs hm] at q;have src:∀ a,a < n->∃ b,b < n/\(if a=m then g p k else if m < a/\a<=k then g p (a - 1) else g p a)=g p b/\((a=m/\b=k)\/(a≠m/\(m < a/\a<=k)/\b=a - 1)\/(a≠m/\¬(m < a/\a<=k)/\b=a)):=λa ha=>by
   by_cases c:a=m
   ·exact⟨k,hk,by rw [BR c],.inl ⟨c,rfl⟩⟩
   ·by_cases d:m < a/\a<=k
    ·exact⟨a - 1,by omega,by rw [BK c,BR d],.inr<|.inl ⟨c,d,rfl⟩⟩
    ·exact⟨a,ha,by rw [BK c,BK d],.inr<|.inr ⟨c,d,rfl⟩⟩
  obtain⟨x,x1,x2,x3⟩:=src i hi;obtain⟨y,y1,y2,y3⟩:=src j hj;rw [x2,y2] at q;have e:=P.inj x y x1 y1 q;subst e
  rcases x3 with ⟨a1,a2⟩ | ⟨a1,a2,a3⟩ | ⟨a1,a2,a3⟩
  ·rcases y3 with ⟨b1,b2⟩ | ⟨b1,b2,b3⟩ | ⟨b1,b2,b3⟩
   ·exact a1.trans b1.symm
   ·exact absurd (a2.symm.trans b3)<|Cw<|Bg (Nat.sub_lt (Gg b2.1) Gy) b2.2
   ·exact absurd ⟨Fg (by rw [<- b3,a2];exact hm)<|CJ b1,by rw [<- b3,a2];exact Ak _⟩ b2
  ·rcases y3 with ⟨b1,b2⟩ | ⟨b1,b2,b3⟩ | ⟨b1,b2,b3⟩
   ·exact absurd (b2.symm.trans a3)<|Cw<|Bg (Nat.sub_lt (Gg a2.1) Gy) a2.2
   ·exact Nat.sub_one_cancel (Gg a2.1) (Gg b2.1)<|a3.symm.trans b3
   ·exact absurd ⟨Fg (by rw [<- b3,a3];exact Nat.le_sub_one_of_lt a2.1)<|CJ b1,by rw [<- b3,a3];exact Cr (Nat.sub_le _ _) a2.2⟩ b2
  ·rcases y3 with ⟨b1,b2⟩ | ⟨b1,b2,b3⟩ | ⟨b1,b2,b3⟩
   ·exact absurd ⟨Fg (by rw [<- a3,b2];exact hm)<|CJ a1,by rw [<- a3,b2];exact Ak _⟩ a2
   ·exact absurd ⟨Fg (by rw [<- a3,b3];exact Nat.le_sub_one_of_lt b2.1)<|CJ a1,by rw [<- a3,b3];exact Cr (Nat.sub_le _ _) b2.2⟩ a2
   ·exact a3.symm.trans b3
theorem q58{p:Array Nat}{k m:Nat}(P:Pm p n)(hk:k < n)(hm:m<=k)(hu:Up lt p k)(ha:∀ i,i < m->lt (g p i) (g p k)=true)(hb:∀ i,m<=i->i < k->lt (g p k) (g p i)=true):Up lt (bubble p k<|k - m) (k+1):=λi j hi hj=>by
 have hs:k < p.size:=by rw [P.size];exact hk
 rw [uO hs hm,uO hs hm]
 by_cases c:i=m
 ·rw [BR c,BK (by omega),BR<|by omega];exact hb _ (by omega)<|by omega
 ·rw [BK c]
  by_cases d:j=m
  ·rw [BR d,BK<|by omega];exact ha i<|by omega
  ·rw [BK d]
   by_cases e:m < i/\i<=k
   ·rw [BR e,BR<|by omega];exact hu _ _ (by omega)<|by omega
   ·rw [BK e]
    by_cases f:m < j/\j<=k
    ·rw [BR f];exact hu _ _ (by omega)<|by omega
    ·rw [BK f];exact hu _ _ hi<|by omega
theorem Pg(A:dU lt cmp J n):∀(f:Nat) (p:Array Nat) (k:Nat) (Q:Array Nat->Shared->Prop) (s:Shared),Pm p n->1<=k->k+f=n->Up lt p k->J s->(∀ q s',J s'->Pm q n->Up lt q n->Q q s')->(kas_bin f p k).kasWp cmp Q s
 | 0,p,k,Q,s,P,h1,h2,hu,hJ,q=>by
  have:k=n:=by omega
  subst this;exact q p s hJ P hu
 | f+1,p,k,Q,s,P,h1,h2,hu,hJ,q=>by
  unfold kas_bin;rw [KC];refine F6 A P (by omega) hu k 0 k _ s (Ak _) (Bv _) (by omega) hJ (λi hi=>by omega) (λi hi ya=>by omega) λm s' gB hm ha hb=>?_;exact Pg A f _ (k+1) Q s' (q42 P (by omega) hm) (by omega) (by omega) (q58 P (by omega) hm hu ha hb) gB q
theorem q1y(A:dU lt cmp J n){Q:Array Nat->Shared->Prop}{s:Shared}(h2:2<=n)(hJ:J s)(q:∀ p s',J s'->Pm p n->Up lt p n->Q p s'):(kas_sort n).kasWp cmp Q s:=by
 unfold kas_sort;rw [KC];refine k9n A (O' n) h2 hJ λr p s' gB r1 r2 P hu=>?_;show(if r < n then kas_bin (n - max r 1) p (max r 1) else .ret p:KasT _).kasWp cmp Q s';have em:max r 1=r:=by omega
 rw [em]
 by_cases c:r < n
 ·rw [BR c];exact Pg A (n - r) p r Q s' P r1 (by omega) hu gB q
 ·rw [BK c];have:r=n:=by omega
  subst this;exact q p s' gB P hu
end
theorem Ph{p:Array Nat}{n:Nat}(P:Pm p n):p.toList.Nodup:=by
 rw [Da,Bm];intro i j hi hj gY e;have ji:i < n:=by rw [Bx,P.size] at hi;exact hi
 have ra:j < n:=by rw [Bx,P.size] at hj;exact hj
 have e1:g p i=p.toList[i]:=i6 (by rw [<- Bh];exact Ab hi);have e2:g p j=p.toList[j]:=i6 (by rw [<- Bh];exact Ab hj);have:=P.inj i j ji ra (by rw [e1,e2,e]);omega
theorem F7{p:Array Nat}{n v:Nat}(P:Pm p n)(h:v∈p.toList):v < n:=by
 obtain⟨i,hi⟩:=Br h;have hl:i < n:=by have:=(Ac.mp hi).1;rw [Bx,P.size] at this;exact this
 have e1:g p i=v:=i6 (by rw [<- Bh];exact hi);rw [<- e1];exact P.lt i hl
theorem q1n{p:Array Nat}{n:Nat}(P:Pm p n):p.toList.Perm (List.range n):=by
 rw [QS (Ph P) Gj];intro v;rw [Bu];refine⟨λh=>F7 P h,λh=>CV λhn=>?_⟩;have l1:p.toList.length<=((List.range n).erase v).length:=Nt.aF (Ph P) λz hz=>by
  have aX:z≠v:=λe=>hn<|e ▸ hz;exact(Es aX).mpr<|Bu.mpr<|F7 P hz
 rw [Ey<|Bu.mpr h,Bx,P.size,Dq] at l1;omega
def Hd(h:Heap)(v:Value)(z:Str):Prop:=∃ a o xs n t,v = .ref a/\h.get? a=some o/\o.cls = .type "tuple"/\o.data = .seq xs n/\xs[0]?=some (.str z t)
theorem Hd.keep{h h':Heap}{v:Value}{z:Str}(x:Hd h v z)(k:∀ a o,v = .ref a->h.get? a=some o->h'.get? a=some o):Hd h' v z:=by
 obtain⟨a,o,xs,n,t,e,h1,h2⟩:=x;exact⟨a,o,xs,n,t,e,k a o e h1,h2⟩
def pR(h:Heap)(vs:List Value)(zs:List Str):Prop:=vs.length=zs.length/\∀(i:Nat) v z,vs[i]?=some v->zs[i]?=some z->Hd h v z
def ltZ(zs:List Str)(i j:Nat):Bool:=decide ((zs.getD i ⟨#[]⟩).cps.toList < (zs.getD j ⟨#[]⟩).cps.toList)
section
variable{prog:Program}{w:World}{A:Around}{E:Value->Shared->Prop}{s:Shared}
theorem Pj:∀{h:Heap} {vs:List Value} {zs:List Str},pR h vs zs->∃ fs,KatTups h vs fs/\fs.length=vs.length/\∀ f∈fs,∃ z t,f=Value.str z t
 | h,[],_,_=>⟨[],KatTups.nil,rfl,λf hf=>by cases hf⟩
 | h,v :: vs,[],hh=>by have:=hh.1;simp at this
 | h,v :: vs,z :: zs,hh=>by
  obtain⟨fs,k1,k2,k3⟩:=Pj (h:=h) (vs:=vs) (zs:=zs) ⟨by have:=hh.1;simpa using this,λi a b h1 h2=>hh.2 (i+1) a b (by simpa using h1)<|by simpa using h2⟩;obtain⟨a,o,xs,n,t,rfl,h1,h2,h3,h4⟩:=hh.2 0 v z rfl rfl;refine⟨.str z t :: fs,KatTups.cons h1 h2 h3 h4 k1,by rw [Ao,Ao,k2],λf hf=>?_⟩
  rcases Ai.mp hf with rfl | hf
  ·exact⟨z,t,rfl⟩
  ·exact k3 f hf
theorem q5g{x y:Value}{z u:Str}{Q:Bool->Shared->Prop}(hx:Hd s.heap x z)(hy:Hd s.heap y u)(aX:z≠u)(h:Q (decide (z.cps.toList < u.cps.toList)) s):wpAny (model prog w) A (keyLt' (tuples' true) x y) Q E s:=by
 obtain⟨a,o,xs,n,t,rfl,h1,h2,h3,h4⟩:=hx;obtain⟨b,o',ys,n',t',rfl,g1,g2,g3,g4⟩:=hy;refine kat_lt h1 h3 g1 g3 ?_;have ex:∃ r,xs.toList = .str z t :: r:=by
  have:xs.toList[0]?=some (.str z t):=by rw [Bh];exact h4
  cases e:xs.toList with
  | nil=>rw [e] at this;cases this
  | cons c r=>rw [e] at this;cases this;exact⟨r,rfl⟩
 have ey:∃ r,ys.toList = .str u t' :: r:=by
  have:ys.toList[0]?=some (.str u t'):=by rw [Bh];exact g4
  cases e:ys.toList with
  | nil=>rw [e] at this;cases this
  | cons c r=>rw [e] at this;cases this;exact⟨r,rfl⟩
 obtain⟨rx,ex⟩:=ex;obtain⟨ry,ey⟩:=ey;rw [ex,ey];show KatLex prog w A true _ Q ((.str z t,.str u t') :: rx.zip ry) 0 s;refine kat_cons<|eqBool_str ?_;have:(z == u)=false:=beq_eq_false_iff_ne.mpr aX;rw [this];exact kat_no<|oneLt_str h
theorem q3o{a b:Str}(h:a.cps.toList=b.cps.toList):a=b:=by
 apply Str.ext';exact Array.toList_inj.mp h
theorem k9o{vs:List Value}{zs:List Str}(hh:pR s.heap vs zs)(hn:zs.Nodup):dU (ltZ zs) (kas_ask prog w A (tuples' true) vs) (λs'=>s'=s) vs.length:=by
 have hl:=hh.1;have gz:∀ i,(hi:i < zs.length)->zs.getD i ⟨#[]⟩=zs[i]:=λi hi=>by simp [hi]
 have gv:∀ i,(hi:i < vs.length)->vs.getD i Value.none=vs[i]:=λi hi=>by simp [hi]
 have ne:∀ i j,(hi:i < zs.length)->(hj:j < zs.length)->i≠j->zs[i]≠zs[j]:=λi j hi hj gY e=>by
  rcases Nat.lt_or_gt_of_ne gY with c | c
  ·exact Bm.mp (Da.mp hn) i j hi hj c e
  ·exact Bm.mp (Da.mp hn) j i hj hi c e.symm
 refine⟨λi j C s' hi hj gY hs hC=>?_,λi j hi hj gY=>?_,λi j h=>?_,λi j k h1 h2=>?_⟩
 ·subst hs;unfold kas_ask;rw [gv i hi,gv j hj];have e:ltZ zs i j=decide (zs[i].cps.toList < zs[j].cps.toList):=by unfold ltZ;rw [gz i (by omega),gz j<|by omega]
  refine q5g (hh.2 i _ zs[i] (Ab hi)<|Ab<|by omega) (hh.2 j _ zs[j] (Ab hj)<|Ab<|by omega) (ne i j (by omega) (by omega) gY) ?_;rw [<- e];exact hC s' rfl
 ·unfold ltZ;rw [gz i (by omega),gz j (by omega),CN,CN]
  by_cases c:zs[i].cps.toList < zs[j].cps.toList
  ·exact .inl c
  ·by_cases d:zs[j].cps.toList < zs[i].cps.toList
   ·exact .inr d
   ·have:zs[i].cps.toList=zs[j].cps.toList:=List.le_antisymm (List.not_lt.mp d)<|List.not_lt.mp c;exact absurd (q3o this)<|ne i j (by omega) (by omega) gY
 ·unfold ltZ at h ⊢;have:=BZ h;exact BX λq=>List.lt_irrefl _<|List.lt_trans this q
 ·unfold ltZ at h1 h2 ⊢;exact BW<|List.lt_trans (BZ h1)<|BZ h2
theorem map_range(vs:List Value):(List.range vs.length).map (λi=>vs.getD i Value.none)=vs:=by
 apply RJ
 ·simp
 ·intro i h1 h2;simp [h2]
theorem k93{a:Addr}{vs:List Value}{zs:List Str}{n:Nat}{P:Fin->Shared->Prop}(ho:s.heap.get? a=some (seqObj "list" vs.toArray n))(bB:∀ v∈vs,v ≠ .ref a)(hh:pR s.heap vs zs)(hn:zs.Nodup)(oQ:vs.length < 64)
  (h:∀ p:Array Nat,Pm p vs.length->Up (ltZ zs) p vs.length->P (.done<|.ret .none) {s with heap:=sortedHeap s.heap a vs (List.toArray<|p.toList.map λi=>vs.getD i Value.none)}) :
  wpAny (model prog w) A (Builtin.«list.sort» ⟨[.ref a],[]⟩) P E s:=by
 rw [list_sort_plain];have ha:a < s.heap.objs.size:=As ho;have F8:vs.length<=sizeLine:=by rw [EY];omega
 refine BJ<|PL ho rfl ?_;refine BJ<|MJ ho rfl ?_;obtain⟨e1,lv⟩:∃ e1,(s.heap.update a<|Obj.mapSeq λ_=>#[]).get? a=some (seqObj "list" #[] e1):=⟨_,get?_update_seq ho λ_=>#[]⟩;refine BJ<|QG lv rfl ?_;refine BJ<|QF ?_;refine BJ<|JW ?_;refine CK ?_;have oV:(((s.heap.update a<|Obj.mapSeq λ_=>#[]).push<|seqObj "tuple" vs.toArray 0).push<|seqObj "list" #[] 0).get? a=some (seqObj "list" #[] e1):=Ah _<|Ah _ lv;show wpAny (model prog w) A _ P E {s with heap:=((s.heap.update a<|Obj.mapSeq λ_=>#[]).push<|seqObj "tuple" vs.toArray 0).push (seqObj "list" #[] 0)};have Pk:pR (((s.heap.update a<|Obj.mapSeq λ_=>#[]).push<|seqObj "tuple" vs.toArray 0).push<|seqObj "list" #[] 0) vs zs:=⟨hh.1,λi v z h1 h2=>(hh.2 i v z h1 h2).keep λb o e q=>by
  have hb:a≠b:=λe2=>bB v (Aq h1) (by rw [e,e2]);exact Ah _<|Ah _<|(Bs _ _ hb).trans q⟩
 dsimp only
 have hsz:vs.toArray.size=vs.length:=by simp
 by_cases h2:vs.toArray.size < 2
 ·rw [BR h2,BR h2];refine BJ<|BL ?_;rw [StateT.run_pure];refine BJ<|BL ?_
  dsimp only
  have e5:(arrOf<|SortSt.mk' general' (vs.toArray.zip vs.toArray) #[] 7 none).map (·.2)=vs.toArray:=by
   show(vs.toArray.zip vs.toArray).map (·.2)=_;apply Array.toList_inj.mp;simp [List.map_snd_zip]
  refine BJ<|QG oV rfl ?_;refine BJ (MJ oV rfl ?_ (hsz2:=by rw [e5,hsz];omega));simp only [LQ,Ax,CQ];refine BL ?_;rw [e5];have fin:=h (List.toArray<|List.range vs.length) (O' _) λi j hi hj=>by rw [hsz] at h2;omega
  have e6:(List.toArray<|List.range vs.length).toList.map (λi=>vs.getD i Value.none)=vs:=map_range vs;rw [e6] at fin;exact fin
 ·rw [BK h2,BK h2];obtain⟨fs,k1,k2,k3⟩:=Pj Pk;rw [hsz] at h2;refine BJ<|kat_kind (T:= .type "str") k1 (by omega) (λf hf=>?_) (by decide) ?_
  ·obtain⟨z,t,rfl⟩:=k3 f hf;exact Looks.of_pure rfl
  refine BJ<|CW (kat_run (prog:=prog) (w:=w) (A:=A) (E:=E) (κ:=tuples' true) (ks:=vs) (vs:=vs) (Q:=λcS s'=>s'={s with heap:=((s.heap.update a<|Obj.mapSeq λ_=>#[]).push<|seqObj "tuple" vs.toArray 0).push (seqObj "list" #[] 0)}/\∃ p:Array Nat,Pm p vs.length/\Up (ltZ zs) p vs.length/\arrOf cS=p.map (kas_item<|vs.toArray.zip vs.toArray)/\failedOf cS=none)
   (G:=λp s'=>s'={s with heap:=((s.heap.update a<|Obj.mapSeq λ_=>#[]).push<|seqObj "tuple" vs.toArray 0).push (seqObj "list" #[] 0)}/\Pm p vs.length/\Up (ltZ zs) p vs.length) rfl (by omega) oQ (λp cS s' _ a2 a3 a4=>⟨a4.1,p,a4.2.1,a4.2.2,a2,a3⟩)
   (q1y (k9o (s:={s with heap:=((s.heap.update a<|Obj.mapSeq λ_=>#[]).push<|seqObj "tuple" vs.toArray 0).push (seqObj "list" #[] 0)}) Pk hn) (by omega) rfl λp s' e P U=>⟨e,P,U⟩)) ?_ λ_ _ e=>e
  rintro ⟨⟨⟩,cS⟩ s' ⟨rfl,p,P,U,har,hf⟩
  dsimp only
  have e3:=kat_snds (ks:=vs) (vs:=vs) rfl har;refine BJ<|QG oV rfl ?_;refine BJ (MJ oV rfl ?_ (hsz2:=by rw [e3,Au,Aa,Bx,P.size];omega));rw [hf];simp only [LQ,Ax,CQ];refine BL ?_;rw [e3];exact h p P U
theorem q2r{l:Addr}{vs:List Value}{zs:List Str}{Q:Value->Shared->Prop}(hl:s.heap.IsList l vs.toArray)(hh:pR s.heap vs zs)(hn:zs.Nodup)(oQ:vs.length < 64)
  (h:∀(h':Heap) (e:Nat) (p:Array Nat),Pm p vs.length->Up (ltZ zs) p vs.length->(∀ b u,s.heap.get? b=some u->h'.get? b=some u)->h'.get? (s.heap.objs.size+1)=some (seqObj "list" (List.toArray<|p.toList.map λi=>vs.getD i Value.none) e)->Q (.ref<|s.heap.objs.size+1) {s with heap:=h'}) :
  wpAny (model prog w) A (call (.builtin "sorted") [.ref l]) Q E s:=by
 have F8:vs.length<=sizeLine:=by rw [EY];omega
 refine Calls.call_function_entry kind_sorted plain_sorted entry_sorted (args_sorted1 _) ?_;unfold Builtin.«sorted»;refine BJ (m:=checkCount "sorted" 1 1 _)<|BL ?_;refine BJ<|collect_list (vs:=vs) hl ?_;refine BJ<|JW ?_;have hsz:((s.heap.push<|seqObj "list" #[] 0).update s.heap.objs.size (Obj.mapSeq (·++vs.toArray))).objs.size=s.heap.objs.size+1:=by
  rw [Heap.size_update,size_push']
 have je:(((s.heap.push<|seqObj "list" #[] 0).update s.heap.objs.size (Obj.mapSeq (·++vs.toArray))).push<|seqObj "list" vs.toArray 0).get? (s.heap.objs.size+1)=some (seqObj "list" vs.toArray 0):=by
  rw [<- hsz];exact Ar _ rfl
 have hhL:pR (((s.heap.push<|seqObj "list" #[] 0).update s.heap.objs.size (Obj.mapSeq (·++vs.toArray))).push<|seqObj "list" vs.toArray 0) vs zs:=⟨hh.1,λi v z h1 h2=>(hh.2 i v z h1 h2).keep λb o e q=>
  Ah _ ((Bs _ _<|Cw<|As q).trans<|Ah _ q)⟩
 have aX:∀ v∈vs,v ≠ .ref (s.heap.objs.size+1):=λv hv e=>by
  obtain⟨i,hi⟩:=Br hv;have hl:=hh.1;have hiz:i < zs.length:=by have:=(Ac.mp hi).1;omega
  obtain⟨b,o,xs,n,t,e2,h1,_⟩:=hh.2 i v zs[i] hi<|Ab hiz;rw [e2] at e;cases e;exact absurd (QV<|As h1)<|Ct _
 show wpAny _ _ _ _ _ {s with heap:=((s.heap.push<|seqObj "list" #[] 0).update s.heap.objs.size (Obj.mapSeq (·++vs.toArray))).push (seqObj "list" vs.toArray 0)};rw [hsz];refine BJ<|CK<|DQ slot_list_sort ⟨_,je,rfl⟩ entry_list_sort (k93 je aX hhL hn oQ λp P U=>⟨_,rfl,?_⟩)<|args_list_sort _;obtain⟨e,he⟩:=sortedAll_at s.heap vs<|List.toArray<|p.toList.map λi=>vs.getD i Value.none;exact BL ⟨_,rfl,h _ e p P U (λb u hb=>sortedAll_old hb) he⟩
end
end ng
namespace L2
open PySem PySem.Spec PyProof.Rows ng
theorem Pn:∀{ts:List Addr} {its:List Value},av (ts.map V.ref) its->its=ts.map Value.ref
 | [],its,r=>r.zero
 | t :: ts,its,r=>by
  cases r with
  | cons h1 h2=>
   rw [Pn h2];have:_=Value.ref t:=h1;rw [this];rfl
theorem Pp:∀(ts:List Addr),av (ts.map V.ref)<|ts.map Value.ref
 | []=> .nil
 | t :: ts=> .cons rfl (Pp ts)
theorem k64{α β:Type}(xs:List α)(ys:List β)(h:xs.length=ys.length)(a:α)(b:β):(List.range xs.length).map (λi=>(xs.getD i a,ys.getD i b))=xs.zip ys:=by
 apply RJ
 ·simp [h]
 ·intro i h1 h2;have hx:i < xs.length:=by simp at h1;exact h1
  have hy:i < ys.length:=by omega
  simp [hx,hy]
section
variable{X:Cx}{σ:St}{H:Hp}
theorem j9r:eI X (.builtin "sorted") (λxs H Q=>∃(l:Addr) (ts:List Addr) (zs:List Str),xs=[.ref l]/\al X.K H l (ts.map V.ref)/\ts.length=zs.length/\zs.Nodup/\ts.length < 64/\(∀(i:Nat) t z,ts[i]?=some t->zs[i]?=some z->∃ r,H t=some (.tup<|.str z :: r)) /\
  ∀(r:Addr) (ps:List<|Addr×Str),H r=none->ps.Perm (ts.zip zs)->ps.Pairwise (λa b=>a.2.cps.toList < b.2.cps.toList)->Q (.ref r) (upd H r<|.lst<|ps.map λp=> .ref p.1)):=by
 intro pins s σ H xs us Q I r h;obtain⟨l,ts,zs,rfl,hl,hlen,hn,oQ,hd,q⟩:=h;obtain⟨u,rfl,ru⟩:=vals1 r;cases (show u=Value.ref l from ru);obtain⟨its,rv,pl,_⟩:=I.list hl;have ei:=Pn rv;subst ei;have hh:pR s.heap (ts.map Value.ref) zs:=by
  refine⟨by rw [Aa];exact hlen,λi v z h1 h2=>?_⟩;rw [Af,Av] at h1;obtain⟨t,ht,rfl⟩:=h1;obtain⟨rr,hr⟩:=hd i t z ht h2;obtain⟨its,r3,tp,_⟩:=I.tuple<|aK.of hr;cases r3 with
  | cons a1 a2=>
   obtain⟨tk,rfl⟩:=a1;obtain⟨o,ho,hc,n,hd2⟩:=tp;exact⟨t,o,_,n,tk,rfl,ho,hc,hd2,rfl⟩
 refine q2r pl.isList hh hn (by rw [Aa];exact oQ) λh' e p P U kp he=>?_;rw [Aa] at P U;have gp:∀ i,i < ts.length->g p i < ts.length:=P.lt;have pl2:p.toList.length=ts.length:=by rw [Bx];exact P.size
 have e1:(p.toList.map λi=>(ts.map Value.ref).getD i Value.none)=((p.toList.map λi=>(ts.getD i 0,zs.getD i ⟨#[]⟩)).map λx=>x.1).map Value.ref:=by
  rw [Cf,Cf];refine Dr λi hi=>?_;have aO:=F7 P hi;show(ts.map Value.ref).getD i Value.none=Value.ref (ts.getD i 0);simp [aO]
 refine⟨.ref _,_,I.iz (s':={s with heap:=h'}) kp rfl rfl (Fc _) (show ax X.prog X.w _ h' _ (.lst<|(p.toList.map λi=>(ts.getD i 0,zs.getD i ⟨#[]⟩)).map λx=>V.ref x.1) from ?_),rfl,q _ (p.toList.map λi=>(ts.getD i 0,zs.getD i ⟨#[]⟩)) (I.aA.fresh<|Fc _) ?_ ?_⟩
 ·refine⟨by rw [Aa,Aa,pl2,EY];omega,_,e,?_,he⟩;rw [e1];have:=Pp<|(p.toList.map λi=>(ts.getD i 0,zs.getD i (⟨#[]⟩:Str))).map λx=>x.1;rw [Cf] at this;exact this
 ·rw [<- k64 ts zs hlen 0 ⟨#[]⟩];exact(q1n P).map _
 ·rw [Bm];intro i j hi hj gY;rw [Aa] at hi hj;have:=U i j gY (by omega);have q1:g p i=p.toList[i]:=i6 (by rw [<- Bh];exact Ab hi);have q2:g p j=p.toList[j]:=i6 (by rw [<- Bh];exact Ab hj);rw [q1,q2] at this;rw [Fp,Fp];exact BZ this
theorem Pq{e1 e2 e3:Expr}{k:Nat}{pos:Pos}{t:Addr}{x y z:V}{R:St->Hp->Prop}(hc:X.calm=true)(ht:aK X.K H t [x,y,z])(h:Eg X e1 x σ H λσ1 H1=>Eg X e2 y σ1 H1 λσ2 H2=>Eg X e3 z σ2 H2 R)
  (hn:(assignEach [e1,e2,e3] X.env).length=3:=by rfl) (cR:(assignEach [e1,e2,e3] X.env).findIdx? (·.1)=none:=by rfl)
  (jm:(assignEach [e1,e2,e3] X.env).map (·.2)=assign e1 X.env :: (assignEach [e2,e3] X.env).map (·.2):=by rfl) (mW:(assignEach [e2,e3] X.env).map (·.2)=assign e2 X.env :: (assignEach [e3] X.env).map (·.2):=by rfl) (wD:(assignEach [e3] X.env).map (·.2)=assign e3 X.env :: (assignEach [] X.env).map (·.2):=by rfl) :
  Eg X (.Tuple [e1,e2,e3] k pos) (.ref t) σ H R:=
 wy (Ka (t:=qp (λv σ H Q=>Eg X e1 v σ H Q)<|qp (λv σ H Q=>Eg X e2 v σ H Q)<|qp (λv σ H Q=>Eg X e3 v σ H Q) nO) hc (rY oj (rY oj (rY oj J' wD) mW) jm) hn cR)
  ⟨t,_,rfl,ht,rfl,_,_,rfl,h.mono λσ1 H1 h1=>⟨_,_,rfl,h1.mono λσ2 H2 h2=>⟨_,_,rfl,h2.mono λσ3 H3 q=>⟨rfl,q⟩⟩⟩⟩
end
end L2
namespace L2
open PySem PySem.Spec PyProof.Rows
section
variable{X:Cx}{σ:St}{H:Hp}{Q:VK}
theorem q0n{k v:Expr}{pos:Pos}(hu:X.A.units+1 < cLine)(h:∀ d,H d=none->Ev X k σ (upd H d<|.dK []) λy H1=>Ev X v σ H1 λx H2=>∃ H3,cw H2 d y x H3/\Q (.ref d) H3):Ev X (.Dict [some k] [v] pos) σ H Q:=by
 refine⟨λpins s I=>wpAny_Dict_any rfl rfl (by simp) (by show 1<=15;decide) ?_⟩;have I0:Inv X pins σ (upd H s.heap.objs.size<|.dK []) {s with heap:=s.heap.push {cls:= .type "dict",data:= .dict #[]}}:=I.laid (a:=s.heap.objs.size) (o:= .dK []) (t':=s.toks) (λ_ _ q=>Ah _ q) (Ak _)<|z6 s.heap I.big;show wpAny _ _ (evalPairs [(eval k X.env,do let x <- eval v X.env;standAt pos;pure x)]) _ _ _;unfold evalPairs;refine BJ<|aE ((h _ I.fresh).run pins _ I0) λkv s1 ⟨y,H1,I1,r1,h1⟩=>?_;refine BJ<|CK<|BJ<|aE (h1.run pins s1 I1) λvv s2 ⟨x,H2,I2,r2,H3,dp,q⟩=>?_;refine BJ<|FJ<|BL ?_;unfold evalPairs;refine BJ<|CK<|BL<|BL ?_;unfold storeAll;rw [Ek];refine BJ<|BJ<|Nm hu I2 dp r1 r2 λs' I'=>BL ?_;exact BL ⟨.ref _,H3,I',rfl,q⟩
end
open bT
section
variable{prog:Program}{w:World}{A:Around}{E:Value->Shared->Prop}{s:Shared}{T:String}{r d:Addr}{n:Nat}{P:Nat->Value->Prop}{OK:Heap->Prop}
end
section
variable{X:Cx}
end
end L2
namespace L2
open PySem PySem.Spec PyProof.Rows
section
end
section
variable{X:Cx}
theorem Pt(z:Str):∀ zs:List Str,countIn (.str z) (zs.map PyData.str)=(zs.count z:Int)
 | []=>rfl
 | y :: r=>by
  rw [Bb,countIn,Pt z r,Ds];simp only [same]
  rcases Bool.eq_false_or_eq_true (y == z) with hb | hb <;> simp only [hb,Ax,DP,CQ] <;> push_cast <;> omega
def q7j(K:PySem.W.Frag):V->List V->Hp->VK->Prop:=λx vs H Q=>∃(l:Addr) (zs:List Str) (z:Str),x = .ref l/\vs=[.str z]/\al K H l (zs.map V.str)/\Q (.int (zs.count z:Int)) H
theorem k97:nY X "list.count" (q7j X.K):=by
 intro pins s σ H x vs v us Q I rx rv h;obtain⟨l,zs,z,rfl,rfl,hH,q⟩:=h;cases rx;obtain⟨u,rfl,ru⟩:=rv.one;obtain⟨tk,rfl⟩:=ru;obtain⟨its,r,pl,hz⟩:=I.list hH;refine count_list_strs pl.isList (MD r) ?_;rw [Pt];exact⟨.int (zs.count z:Int),H,I.tok _,⟨_,rfl⟩,q⟩
end
section
variable{X:Cx}{σ:St}{H:Hp}{D:Ends}{body:List Stmt}
end
section
variable{X:Cx}{σ:St}{H:Hp}{D:Ends}{body rest:List Stmt}{a b:Expr}
end
end L2
namespace bT
open PySem SetTable
def lY(mask:Nat)(p:Probe):Probe:=if p.more > 0 then{p with j:=p.j+1,more:=p.more - 1} else
 {p with j:=(leap mask p.i p.perturb).1,more:=runEnd mask (leap mask p.i p.perturb).1 - (leap mask p.i p.perturb).1,i:=(leap mask p.i p.perturb).1,perturb:=(leap mask p.i p.perturb).2}
def P0(mask i q:Nat):Probe:={j:=i,more:=runEnd mask i - i,i:=i,perturb:=q,dummy:=none}
def fO(mask:Nat)(p:Probe):Nat->Probe
 | 0=>p
 | n+1=>lY mask<|fO mask p n
def pr(mask:Nat)(h:Int)(n:Nat):Probe:=fO mask (P0 mask (bits h % (mask+1))<|bits h) n
theorem Pu(t:SetTable)(h:Int):t.probeStart h=pr t.mask h 0:=rfl
theorem uP(mask:Nat)(p:Probe)(a:Nat):∀ b,fO mask p (a+b)=fO mask (fO mask p a) b
 | 0=>rfl
 | b+1=>by
  show lY mask (fO mask p<|a+b)=lY mask (fO mask (fO mask p a) b);rw [uP mask p a b]
theorem rF(mask i q:Nat):∀ k,k<=runEnd mask i - i->fO mask (P0 mask i q) k={j:=i+k,more:=runEnd mask i - i - k,i:=i,perturb:=q,dummy:=none}
 | 0,_=>rfl
 | k+1,h=>by
  show lY mask (fO mask (P0 mask i q) k)=_;rw [rF mask i q k<|by omega];unfold lY;rw [BR<|by show runEnd mask i - i - k > 0;omega];show(⟨i+k+1,runEnd mask i - i - k - 1,i,q,none⟩:Probe)=_
  congr 1
theorem yb(mask i q:Nat):fO mask (P0 mask i q) (runEnd mask i - i+1)=P0 mask (leap mask i q).1 (leap mask i q).2:=by
 show lY mask (fO mask (P0 mask i q)<|runEnd mask i - i)=_;rw [rF mask i q _<|Ak _];unfold lY;rw [BK<|by show ¬ runEnd mask i - i - (runEnd mask i - i) > 0;omega];rfl
theorem q60(mask i:Nat):runEnd mask i - i<=9:=by unfold runEnd;split <;> omega
theorem q2m{mask i:Nat}(h:i<=mask):runEnd mask i<=mask:=by unfold runEnd;split <;> omega
theorem Pw{mask j:Nat}:∀(fuel i q:Nat),j∈oJ mask fuel i q->∃ n,n < 10 * fuel/\(fO mask (P0 mask i q) n).j=j
 | 0,_,_,h=>by cases h
 | fuel+1,i,q,h=>by
  rcases Ai.mp h with e | h
  ·exact⟨0,by omega,e.symm⟩
  ·obtain⟨n,hn,e⟩:=Pw fuel _ _ h;refine⟨runEnd mask i - i+1+n,by have:=q60 mask i;omega,?_⟩;rw [uP,yb];exact e
theorem k9i{mask:Nat}(hm:Pow<|mask+1)(h:Int){j:Nat}(hj:j < mask+1):∃ n,n < 10 * turns mask/\(pr mask h n).j=j:=
 Pw _ _ _ (LV hm (Gh _<|Em _) (LY h) hj)
theorem q52{mask:Nat}:∀(n i q:Nat),i<=mask->(fO mask (P0 mask i q) n).j<=mask:=by
 intro n
 induction n using Nat.strongRecOn with
 | _ n ih=>
  intro i q hi
  by_cases c:n<=runEnd mask i - i
  ·rw [rF mask i q n c];have:=q2m hi;show i+n<=mask;omega
  ·have e:n=runEnd mask i - i+1+(n - (runEnd mask i - i+1)):=by omega
   rw [e,uP,yb];exact ih _ (by omega) _ _<|Nat.le_of_lt_succ LO
theorem Px(mask:Nat)(h:Int)(n:Nat):(pr mask h n).j<=mask:=q52 n _ _<|Nat.le_of_lt_succ<|Gh _<|Em _
def Reach(mask:Nat)(yc:Nat->Prop)(h:Int)(j:Nat):Prop:=∃ n,(pr mask h n).j=j/\∀ m,m < n->yc (pr mask h m).j
theorem Reach.mono{mask:Nat}{yc uQ:Nat->Prop}{h:Int}{j:Nat}(r:Reach mask yc h j)(k:∀ i,i<=mask->yc i->uQ i):Reach mask uQ h j:=
 let ⟨n,e,f⟩:=r;⟨n,e,λm hm=>k _ (Px _ _ _)<|f m hm⟩
theorem Py{mask:Nat}{owner:eN}:∀{fuel i q j:Nat},layClean.free mask owner fuel i q=some j->∃ n,(fO mask (P0 mask i q) n).j=j/\∀ m,m < n->nil? owner (fO mask (P0 mask i q) m).j=false
 | 0,_,_,_,h=>by cases h
 | fuel+1,i,q,j,h=>by
  unfold layClean.free at h
  split at h
  ·rename_i k hf;cases h;rw [List.find?_range_eq_some] at hf;have hk:k<=runEnd mask i - i:=by have:=Bu.mp hf.2.1;have:=BF mask i;omega
   refine⟨k,by rw [rF mask i q k hk],λm hm=>?_⟩;rw [rF mask i q m<|by omega];have:=hf.2.2 m hm
   simpa [nil?] using this
  ·rename_i hf;obtain⟨n,e,g⟩:=Py (fuel:=fuel) h;refine⟨runEnd mask i - i+1+n,by rw [uP,yb];exact e,λm hm=>?_⟩
   by_cases c:m<=runEnd mask i - i
   ·rw [rF mask i q m c];have:=Eh.mp hf m (Bu.mpr<|by have:=BF mask i;omega);exact Dx.mpr this
   ·have e2:m=runEnd mask i - i+1+(m - (runEnd mask i - i+1)):=by omega
    rw [e2,uP,yb];exact g _<|by omega
theorem Pz{owner:eN}{j k i:Nat}(h:nil? owner i=false):nil? (owner.setIfInBounds j<|some k) i=false:=by
 unfold nil? at h ⊢;rw [Cu] at h ⊢;rw [Fh]
 split
 ·split <;> rfl
 ·exact h
def lZ(mask:Nat)(hs:List Int)(owner:eN):Prop:=∀ v j x,owner[j]?=some (some v)->hs[v]?=some x->Reach mask (λi=>nil? owner i=false) x j
theorem PD{mask:Nat}(hm:Pow<|mask+1)(all:List Int):∀(hs done:List Int) (owner:eN),all=done++hs->Lies (mask+1) owner done.length->lZ mask all owner->all.length < mask+1+1 ->
  ∃ hG,hs.foldl (wH mask) (some (owner,done.length))=some (hG,all.length)/\Lies (mask+1) hG all.length/\lZ mask all hG
 | [],done,owner,e,L,R,_=>by
  rw [Bj] at e;subst e;exact⟨owner,rfl,L,R⟩
 | h :: r,done,owner,e,L,R,hk=>by
  have el:all.length=done.length+(r.length+1):=by rw [e,Ae,Ao]
  obtain⟨j,ej,hj⟩:=L.free hm (by omega) h;have Lp:=L.put hj;have Rp:lZ mask all (owner.setIfInBounds j<|some done.length):=by
   intro v i x hv hx;rw [Fh] at hv
   by_cases c:j=i
   ·subst c;rw [BR rfl] at hv
    split at hv
    ·cases hv;rw [e,Bd<|Ak _,Nat.sub_self] at hx;cases hx;obtain⟨n,e1,e2⟩:=Py ej;exact⟨n,e1,λm hm'=>Pz<|e2 m hm'⟩
    ·cases hv
   ·rw [BK c] at hv;exact(R v i x hv hx).mono λ_ _=>Pz
  obtain⟨o',e',L',R'⟩:=PD hm all r (done++[h]) (owner.setIfInBounds j<|some done.length) (by rw [e,Ba];rfl) (by rw [Ae];exact Lp) Rp hk;refine⟨o',?_,L',R'⟩;rw [Db,show wH mask (some (owner,done.length)) h=some (owner.setIfInBounds j<|some done.length,done.length+1) by unfold wH;simp [ej]];rw [Ae] at e';exact e'
theorem q1w{mask:Nat}(hm:Pow<|mask+1)(hs:Array Int)(hl:hs.size < mask+1+1):∃ owner,layClean mask hs=some owner/\Lies (mask+1) owner hs.size/\lZ mask hs.toList owner:=by
 obtain⟨o',e,L,R⟩:=PD hm hs.toList hs.toList [] (Array.replicate (mask+1) none) rfl (Lies.start<|mask+1) (λv j x hv=>by
  rw [Fv] at hv
  split at hv <;> cases hv) (by simpa using hl)
 refine⟨o',?_,by simpa using L,R⟩;have e2:layClean mask hs=(hs.foldl (wH mask)<|some (Array.replicate (mask+1) none,0)).map (·.1):=rfl;rw [e2,<- Array.foldl_toList];have e3:([]:List Int).length=0:=rfl;rw [e3] at e;rw [e];rfl
theorem q0u{xs:Array Nat}{j:Nat}(hs:xs.toList.Pairwise (· < ·)):∀(fuel lo hi:Nat),hi<=xs.size->lo<=hi->hi - lo<=fuel->(∀ i v,i < lo->xs[i]?=some v->v < j)->(∀ i v,hi<=i->xs[i]?=some v->j<=v) ->
  (below.go xs j fuel lo hi)<=xs.size/\(∀ i v,i < below.go xs j fuel lo hi->xs[i]?=some v->v < j)/\(∀ i v,below.go xs j fuel lo hi<=i->xs[i]?=some v->j<=v):=by
 have mono:∀{i k:Nat} {u v:Nat},i < k->xs[i]?=some u->xs[k]?=some v->u < v:=λ{i k u v} ya hi hk=>by
  rw [<- Bh] at hi hk;obtain⟨h1,e1⟩:=Ac.mp hi;obtain⟨h2,e2⟩:=Ac.mp hk;rw [<- e1,<- e2];exact Bm.mp hs i k h1 h2 ya
 intro fuel
 induction fuel with
 | zero=>
  intro lo hi h1 h2 h3 h4 h5;have e:lo=hi:=by omega
  subst e;exact⟨h1,h4,h5⟩
 | succ fuel ih=>
  intro lo hi h1 h2 h3 h4 h5;unfold below.go
  by_cases c:lo < hi
  ·rw [BR c];have F9:(lo+hi) / 2 < xs.size:=by omega
   have hm:xs[(lo+hi) / 2]?=some xs[(lo+hi) / 2]:=Bz F9;have hgd:xs.getD ((lo+hi) / 2) j=xs[(lo+hi) / 2]:=by rw [Cu,hm];rfl
   simp only;rw [hgd]
   by_cases d:xs[(lo+hi) / 2] < j
   ·rw [BR d];refine ih _ _ h1 (by omega) (by omega) (λi v ji hv=>?_) h5
    by_cases k:i=(lo+hi) / 2
    ·subst k;rw [hm] at hv;cases hv;exact d
    ·exact UG (mono (by omega) hv hm) d
   ·rw [BK d];refine ih _ _ (by omega) (by omega) (by omega) h4 λi v ji hv=>?_
    by_cases k:i=(lo+hi) / 2
    ·subst k;rw [hm] at hv;cases hv;omega
    ·have:=mono (show(lo+hi) / 2 < i by omega) hm hv;omega
  ·rw [BK c];have e:lo=hi:=by omega
   subst e;exact⟨h1,h4,h5⟩
theorem PF{xs:Array Nat}(hs:xs.toList.Pairwise (· < ·))(j:Nat):below xs j<=xs.size/\(∀ i v,i < below xs j->xs[i]?=some v->v < j)/\(∀ i v,below xs j<=i->xs[i]?=some v->j<=v):=
 q0u hs xs.size 0 xs.size (Ak _) (Bv _) (by omega) (λi v h=>absurd h<|Ec _) λi v h hv=>by
  rw [Dg h] at hv;cases hv
theorem q2w{p:Nat->Prop}:∀ n,p n->∃ m,m<=n/\p m/\∀ k,k < m->¬ p k:=by
 intro n
 induction n using Nat.strongRecOn with
 | _ n ih=>
  intro h
  by_cases c:∃ k,k < n/\p k
  ·obtain⟨k,hk,pk⟩:=c;obtain⟨m,h1,h2⟩:=ih k hk pk;exact⟨m,by omega,h2⟩
  ·exact⟨n,Ak _,h,λk hk pk=>c ⟨k,hk,pk⟩⟩
abbrev Ze:=Nat×(Int×Value)
structure Wf(t:SetTable)(es:Array<|Int×Value)(Z:List Ze):Prop where
 place:t.place.toList=Z.map (·.1)
 ents:es.toList=Z.map (·.2)
 lQ:Z.Pairwise λa b=>a.1 < b.1
 le:∀ z∈Z,z.1<=t.mask
 few:Z.length<=t.mask
 F':t.dummies=#[]
 pow:Pow<|t.mask+1
 PH:∀ z∈Z,Reach t.mask (λj=>j∈Z.map (·.1)) z.2.1 z.1
section
variable{t:SetTable}{es:Array (Int×Value)}{Z:List Ze}
theorem Wf.sorted(W:Wf t es Z):t.place.toList.Pairwise (· < ·):=by
 rw [W.place,Eu];exact W.lQ
theorem Wf.len(W:Wf t es Z):es.size=Z.length:=by rw [<- Bx,W.ents,Aa]
theorem Wf.uR(W:Wf t es Z):t.place.size=Z.length:=by rw [<- Bx,W.place,Aa]
theorem Wf.at(W:Wf t es Z){i:Nat}{z:Ze}(h:Z[i]?=some z):t.place[i]?=some z.1/\es[i]?=some z.2:=by
 rw [<- Bh,<- Bh,W.place,W.ents,Af,Af,h];exact⟨rfl,rfl⟩
theorem Wf.of(W:Wf t es Z){i v:Nat}(h:t.place[i]?=some v):∃ z,Z[i]?=some z/\z.1=v:=by
 rw [<- Bh,W.place,Af,Av] at h;exact h
theorem Wf.inj(W:Wf t es Z){i k:Nat}{y z:Ze}(hi:Z[i]?=some y)(hk:Z[k]?=some z)(e:y.1=z.1):i=k:=by
 obtain⟨h1,e1⟩:=Ac.mp hi;obtain⟨h2,e2⟩:=Ac.mp hk
 rcases QX i k with c | c | c
 ·have:=Bm.mp W.lQ i k h1 h2 c;rw [e1,e2] at this;omega
 ·exact c
 ·have:=Bm.mp W.lQ k i h2 h1 c;rw [e1,e2] at this;omega
theorem Wf.hV(W:Wf t es Z){i:Nat}{z:Ze}(h:Z[i]?=some z):below t.place z.1=i:=by
 obtain⟨b1,b2,b3⟩:=PF W.sorted z.1;have hp:=(W.at h).1;have c1:¬ i < below t.place z.1:=λc=>Ct _<|b2 i _ c hp
 rcases Cy (below t.place z.1) i with c | c
 ·have hi:i < Z.length:=(Ac.mp h).1;have hb:below t.place z.1 < Z.length:=by omega
  have h2:Z[below t.place z.1]?=some Z[below t.place z.1]:=Ab hb;have h3:=b3 _ _ (Ak _) (W.at h2).1;have h4:=Bm.mp W.lQ _ i hb hi c;rw [(Ac.mp h).2] at h4;omega
 ·omega
theorem Wf.eY(W:Wf t es Z){i:Nat}{z:Ze}(h:Z[i]?=some z):t.slot z.1 = .live i:=by
 unfold slot;simp only;rw [W.hV h,(W.at h).1,BR<|IK _]
theorem Wf.ia(W:Wf t es Z){j:Nat}(h:j∉Z.map (·.1)):t.slot j = .empty:=by
 unfold slot;simp only;have h1:(t.place[below t.place j]? == some j)=false:=by
  rw [beq_eq_false_iff_ne];intro e;obtain⟨z,hz,ez⟩:=W.of e;exact h<|Al.mpr ⟨z,Aq hz,ez⟩
 rw [BK (by rw [h1];exact At),W.F'];rfl
theorem Wf.fits(W:Wf t es Z):t.fits es.size=true:=by
 unfold SetTable.fits fill;have:=W.few;rw [W.len,W.uR,W.F'];simp only [IK,TY,GJ];show Z.length+0<=t.mask;omega
structure Stop(mask:Nat)(Z:List Ze)(h:Int)(N:Nat):Prop where
 out:(pr mask h N).j∉Z.map (·.1)
 PQ:∀ m,m < N->(pr mask h m).j∈Z.map (·.1)
 lt:N < 10 * turns mask
theorem Wf.stop(W:Wf t es Z)(h:Int):∃ N,Stop t.mask Z h N:=by
 have:∃ j,j < t.mask+1/\j∉Z.map (·.1):=by
  refine CV λhn=>?_;have all:∀ j∈List.range (t.mask+1),j∈Z.map (·.1):=λj hj=>CV λk=>hn ⟨j,Bu.mp hj,k⟩;have:=(Gj (n:=t.mask+1)).length_le_of_subset all;rw [Dq,Aa] at this;have:=W.few;omega
 obtain⟨j,hj,hz⟩:=this;obtain⟨n,hn,e⟩:=k9i W.pow h hj;obtain⟨N,h1,h2,h3⟩:=q2w (p:=λn=>(pr t.mask h n).j∉Z.map (·.1)) n (by rw [e];exact hz);exact⟨N,h2,λm hm=>CV λk=>h3 m hm k,by omega⟩
theorem GA{mask:Nat}{p:Probe}(h:p.dummy=none):∀ n,(fO mask p n).dummy=none
 | 0=>h
 | n+1=>by
  show(lY mask<|fO mask p n).dummy=none;unfold lY
  split
  ·exact GA h n
  ·exact GA h n
theorem k8v(mask:Nat)(h:Int)(n:Nat):(pr mask h n).dummy=none:=GA rfl n
theorem Wf.go(W:Wf t es Z){hashAt:Nat->Int}(hh:∀ i e,es[i]?=some e->hashAt i=e.1){h:Int}{N:Nat}(S:Stop t.mask Z h N):∀ fuel m,m<=N->N - m < fuel ->
  (∃ m' i z,m<=m'/\m' < N/\Z[i]?=some z/\z.1=(pr t.mask h m').j/\z.2.1=h/\(∀ k,m<=k->k < m'->∀ z∈Z,z.1=(pr t.mask h k).j->z.2.1≠h)/\probe.go t hashAt h fuel (pr t.mask h m)=some (.candidate (pr t.mask h m').j i<|pr t.mask h<|m'+1)) \/
  ((∀ k,m<=k->k < N->∀ z∈Z,z.1=(pr t.mask h k).j->z.2.1≠h)/\probe.go t hashAt h fuel (pr t.mask h m)=some (.empty (pr t.mask h N).j none))
 | 0,m,_,hf=>absurd hf<|Ec _
 | fuel+1,m,hm,hf=>by
  unfold probe.go
  by_cases c:m=N
  ·subst c;refine .inr ⟨λk h1 h2=>by omega,?_⟩;rw [W.ia S.out];simp only;rw [k8v]
  ·obtain⟨z,hz,ez⟩:=Al.mp (S.PQ m<|by omega);obtain⟨i,hi⟩:=Br hz;have uniq:∀ y∈Z,y.1=(pr t.mask h m).j->y=z:=λy hy e=>by
    obtain⟨k,hk⟩:=Br hy;have:=W.inj hk hi (by rw [e,ez]);subst this;rw [hk] at hi;exact Option.some.inj hi
   rw [<- ez,W.eY hi];simp only;rw [hh i _ (W.at hi).2]
   by_cases d:z.2.1=h
   ·rw [BR<|by rw [d];exact IK _];exact .inl ⟨m,i,z,Ak _,by omega,hi,ez,d,λk h1 h2=>by omega,by rw [ez];rfl⟩
   ·rw [BK<|by rw [KQ];exact d]
    rcases W.go hh S fuel (m+1) (by omega) (by omega) with ⟨m',k,y,a1,a2,a3,a4,a5,a6,a7⟩ | ⟨a1,a2⟩
    ·refine .inl ⟨m',k,y,by omega,a2,a3,a4,a5,λl h1 h2 x hx ex=>?_,a7⟩
     by_cases e:l=m
     ·subst e;rw [uniq x hx ex];exact d
     ·exact a6 l (by omega) h2 x hx ex
    ·refine .inr ⟨λl h1 h2 x hx ex=>?_,a2⟩
     by_cases e:l=m
     ·subst e;rw [uniq x hx ex];exact d
     ·exact a1 l (by omega) h2 x hx ex
theorem Wf.put(W:Wf t es Z){h:Int}{x:Value}{N:Nat}(S:Stop t.mask Z h N){t':SetTable}(e1:t'.mask=t.mask)(e2:t'.place=(t.put (pr t.mask h N).j).1.place)(e3:t'.dummies=#[])(hf:Z.length+1<=t.mask) :
  ∃ Z',Wf t' (insertAt es (t.put (pr t.mask h N).j).2 (h,x)) Z'/\Z'.Perm (((pr t.mask h N).j,(h,x)) :: Z):=by
 obtain⟨b1,b2,b3⟩:=PF W.sorted (pr t.mask h N).j;have ep:(t.put (pr t.mask h N).j).2=below t.place (pr t.mask h N).j:=rfl;have eP:(t.put (pr t.mask h N).j).1.place=insertAt t.place (below t.place (pr t.mask h N).j) (pr t.mask h N).j:=rfl;rw [eP] at e2;rw [ep];generalize hb:below t.place (pr t.mask h N).j=p at b1 b2 b3 e2;have hj:=Px t.mask h N;have sN:=S.out;have sI:=S.PQ;have rN:Reach t.mask (λj=>j∈Z.map (·.1)) h (pr t.mask h N).j:=⟨N,rfl,sI⟩;clear hb eP ep;generalize (pr t.mask h N).j=j at b2 b3 e2 hj sN rN ⊢;have pm:(Z.take p++(j,(h,x)) :: Z.drop p).Perm ((j,(h,x)) :: Z):=by
  refine Fq.trans ?_;rw [Cj]
 refine⟨Z.take p++(j,(h,x)) :: Z.drop p,⟨?_,?_,?_,λz hz=>?_,?_,e3,by rw [e1];exact W.pow,λz hz=>?_⟩,pm⟩
 ·rw [e2,toList_insertAt,W.place,Am,Bb,Gn,Go]
 ·rw [toList_insertAt,W.ents,Am,Bb,Gn,Go]
 ·rw [Gq];have tk:∀ a∈Z.take p,a.1 < j:=λa ha=>by
   obtain⟨i,hi⟩:=Br ha;rw [List.getElem?_take] at hi
   split at hi
   ·exact b2 i _ (by assumption) (W.at hi).1
   ·cases hi
  have dr:∀ a∈Z.drop p,j < a.1:=λa ha=>by
   obtain⟨i,hi⟩:=Br ha;rw [Gc] at hi;have:=b3 (p+i) _ (by omega) (W.at hi).1;have ne:a.1≠j:=λe=>sN (by rw [<- e];exact Al.mpr ⟨a,Aq hi,rfl⟩);omega
  refine⟨W.lQ.sublist<|List.take_sublist _ _,List.pairwise_cons.mpr ⟨dr,W.lQ.sublist<|List.drop_sublist _ _⟩,λa ha b hb=>?_⟩
  rcases Ai.mp hb with e | hb
  ·rw [e];exact tk a ha
  ·exact UG (tk a ha)<|dr b hb
 ·rw [e1]
  rcases Ai.mp (pm.mem_iff.mp hz) with e | hz
  ·rw [e];exact hj
  ·exact W.le z hz
 ·rw [pm.length_eq,e1];exact hf
 ·have up:∀{h':Int} {k:Nat},Reach t.mask (λj=>j∈Z.map (·.1)) h' k->Reach t'.mask (λi=>i∈(Z.take p++(j,(h,x)) :: Z.drop p).map (·.1)) h' k:=λr=>by
   rw [e1];refine r.mono λi _ hi=>?_;rw [(pm.map (·.1)).mem_iff];exact Aj _ hi
  rcases Ai.mp (pm.mem_iff.mp hz) with e | hz
  ·rw [e];exact up rN
  ·exact up<|W.PH z hz
theorem q3b(m:Nat)(owner:eN):(live m owner).Pairwise (λa b=>a.1 < b.1):=by
 unfold live;rw [List.pairwise_filterMap];refine List.Pairwise.imp (λ{a b} gm x hx y hy=>?_) List.pairwise_lt_range;rw [Av] at hx hy;obtain⟨u,_,rfl⟩:=hx;obtain⟨v,_,rfl⟩:=hy;exact gm
theorem k8l{t:SetTable}{es:Array (Int×Value)}{wanted:Nat}(hm:Pow<|sizeAbove wanted)(hl:es.size<=sizeAbove wanted - 1) :
  ∃ t2 order Z,t.relaid (es.map (·.1)) wanted=some (t2,order)/\(order.filterMap (es[·]?)).size=es.size/\Wf t2 (order.filterMap (es[·]?)) Z/\(Z.map (·.2)).Perm es.toList/\t2.mask=sizeAbove wanted - 1:=by
 have hp:8<=sizeAbove wanted:=by rcases hm with h | h | h | h | h | h <;> omega
 have em:sizeAbove wanted - 1+1=sizeAbove wanted:=by omega
 obtain⟨o,e,L,R⟩:=q1w (mask:=sizeAbove wanted - 1) (by rw [em];exact hm) (es.map (·.1)) (by rw [Array.size_map];omega);rw [Array.size_map] at L;rw [show t.relaid (es.map (·.1)) wanted=laid (sizeAbove wanted - 1) t.finger (t.movedTo<|sizeAbove wanted - 1) t.led t.plain (es.map (·.1)) from rfl];generalize sizeAbove wanted - 1=mask at e L R em hl ⊢;have he:∀ p∈live (mask+1) o,p.2 < es.size/\p.1 < mask+1/\o[p.1]?=some (some p.2):=λp hp=>by
  have:=c0.mp hp;exact⟨L.lt _ _ this.2,this.1,this.2⟩
 have ef:∀ l:List<|Nat×Nat,(∀ p∈l,p.2 < es.size)->(l.map (·.2)).filterMap (es[·]?)=l.map λp=>(es[p.2]?).getD (0,.none):=λl=>by
  induction l with
  | nil=>intro _;rfl
  | cons p r ih=>
   intro hl;rw [Bb,Bb,Ed,Bz<|hl p Ad,ih λq hq=>hl q<|Aj _ hq];rfl
 have ee:(((live (mask+1) o).map (·.2)).toArray.filterMap (es[·]?)).toList=(live (mask+1) o).map λp=>(es[p.2]?).getD (0,.none):=by
  rw [Array.toList_filterMap];exact ef _ λp hp=>(he p hp).1
 have es2:(((live (mask+1) o).map (·.2)).toArray.filterMap (es[·]?)).size=es.size:=by
  rw [<- Bx,ee,Aa,L.length]
 refine⟨_,_,(live (mask+1) o).map λp=>(p.1,(es[p.2]?).getD (0,.none)),by unfold laid;rw [e];rfl,es2,⟨?_,?_,?_,λz hz=>?_,?_,rfl,by show Pow (mask+1);rw [em];exact hm,λz hz=>?_⟩,?_,rfl⟩
 ·show(live (mask+1) o).map (·.1)=_;rw [Cf];rfl
 ·rw [ee,Cf];rfl
 ·rw [Eu];exact q3b _ _
 ·obtain⟨p,hp,rfl⟩:=Al.mp hz;show p.1<=mask;have:=(he p hp).2.1;omega
 ·rw [Aa,L.length];exact hl
 ·obtain⟨p,hp,rfl⟩:=Al.mp hz;obtain⟨h1,h2,h3⟩:=he p hp;have hx:(es.map (·.1)).toList[p.2]?=some (es[p.2]).1:=by rw [Bh,Array.getElem?_map,Bz h1];rfl
  have eg:(es[p.2]?).getD (0,.none)=es[p.2]:=by rw [Bz h1];rfl
  show Reach mask _ ((es[p.2]?).getD (0,.none)).1 p.1;rw [eg];refine(R p.2 p.1 _ h3 hx).mono λi hi hn=>?_;rw [Cf];have his:i < o.size:=by rw [L.size];omega
  have h4:o[i]?=some o[i]:=Bz his;cases h5:o[i] with
  | none=>
   rw [h5] at h4;have:=nil?_iff.mpr h4;rw [hn] at this;cases this
  | some v=>
   rw [h5] at h4;exact Al.mpr ⟨(i,v),c0.mpr ⟨by omega,h4⟩,rfl⟩
 ·rw [Cf];have p1:((live (mask+1) o).map λp=>(es[p.2]?).getD (0,.none))=((live (mask+1) o).map (·.2)).map λv=>(es[v]?).getD (0,.none):=by rw [Cf];rfl
  show((live (mask+1) o).map λp=>(es[p.2]?).getD (0,.none)).Perm _;rw [p1];refine(L.perm.map _).trans<|List.Perm.of_eq ?_;apply De;intro i;rw [Af]
  by_cases c:i < es.size
  ·rw [Ee c];show some ((es[i]?).getD (0,.none))=es.toList[i]?;rw [Bh,Bz c];rfl
  ·rw [Bw (by rw [Dq];omega),Bh,Dg<|by omega];rfl
end
section
variable{prog:Program}{w:World}{K:Type} [DecidableEq K]
def ent(knd:HeapKind prog w K)(y:Nat×K×Addr):Ze:=(y.1,(knd.hash y.2.1,Value.ref y.2.2))
def uS(knd:HeapKind prog w K):Prop:=∀{A:Around} {E:Value->Shared->Prop} {s:Shared} {k:K} {a:Addr} {Q:Bool->Shared->Prop},knd.is s.heap k a->Q false s->wpAny (model prog w) A (ofAClassStatement 8<|.ref a) Q E s
variable{A:Around}{E:Value->Shared->Prop}{s:Shared}{a b:Addr}{knd:HeapKind prog w K}{k:K}{Y:List (Nat×K×Addr)}
theorem q3s{Q:Bool->Shared->Prop}(U:uS knd)(hb:knd.is s.heap k b)(l:List Value)(hl:∀ v∈l,∃ k' c,v=Value.ref c/\knd.is s.heap k' c)(q:Q false s):wpAny (model prog w) A (searchCouldBeSeen (.ref b) l) Q E s:=by
 unfold searchCouldBeSeen;refine BJ<|RK _ (λrest r s'=>r.1=none/\s'=s/\∀ v∈rest,∃ k' c,v=Value.ref c/\knd.is s.heap k' c) _ ?_ ?_ l _ ⟨rfl,rfl,hl⟩
 ·rintro v rest r s' ⟨hr,rfl,hv⟩;obtain⟨k',c,rfl,hc⟩:=hv v Ad;have iJ:∀ v∈rest,∃ k' c,v=Value.ref c/\knd.is s'.heap k' c:=λv h=>hv v<|Aj _ h
  dsimp only
  split
  ·exact BL ⟨rfl,rfl,iJ⟩
  ·refine BJ<|knd.quiet hb ?_;simp only [Dv,Ax,CQ];refine BJ<|knd.quiet hc ?_;simp only [Dv,Ax,CQ];refine BJ<|U hb ?_;simp only [Ax,CQ];refine BJ<|U hc ?_;simp only [Ax,CQ];exact BL ⟨rfl,rfl,iJ⟩
 ·rintro ⟨_,_⟩ s' ⟨rfl,rfl,_⟩;exact BL q
theorem k8t{m:Nat}(h:Pow<|m+1):(m % 2 == 0)=false:=by
 rw [beq_eq_false_iff_ne]
 rcases h with h | h | h | h | h | h <;> omega
theorem G0{adding:Bool}{o:Obj}{es:Array (Int×Value)}{ep:Nat}{t:SetTable}{N:Nat}{Q:SetFound->Shared->Prop}(U:uS knd)(hA:knd.room A)(ho:s.heap.get? a=some o)(hd:o.data = .set es ep t)(W:Wf t es<|Y.map<|ent knd)
  (hY:∀ y∈Y,knd.is s.heap y.2.1 y.2.2) (hb:knd.is s.heap k b) (S:Stop t.mask (Y.map<|ent knd) (knd.hash k) N)
  (k0:k∉Y.map (·.2.1)->Q (.free (pr t.mask (knd.hash k) N).j false) s) (k1:∀ oi,k∈Y.map (·.2.1)->(adding=false->oi.isSome=true)->Q (.there oi) s) :
  ∀(fuel m:Nat) (stand:Option Probe),stand.getD (t.probeStart<|knd.hash k)=pr t.mask (knd.hash k) m->m<=N->N - m < fuel->(∀ l,l < m->∀ y∈Y,y.1=(pr t.mask (knd.hash k) l).j->y.2.1≠k) ->
   wpAny (model prog w) A (setSearchFrom a (.ref b) (knd.hash k) adding fuel stand) Q E s
 | 0,m,stand,_,_,hf,_=>absurd hf<|Ec _
 | fuel+1,m,stand,hs,hm,hf,hn=>by
  unfold setSearchFrom;refine BJ<|DG ho hd W.fits ?_
  dsimp only
  rw [hs];have gw:t.gaveWay=false:=k8t W.pow;rw [gw];simp only [Ax,CQ];have hl:=S.lt;have G:=W.go (hashAt:=λi=>(es[i]?.map (·.1)).getD 0) (λi e he=>by show(es[i]?.map (·.1)).getD 0=e.1;rw [he];rfl) S (10 * turns t.mask) m hm<|by omega
  split
  ·rename_i met uT
   rcases G with ⟨m',i,z,a1,a2,a3,a4,a5,a6,a7⟩ | ⟨a1,a2⟩
   ·have e2:=Option.some.inj<|uT.symm.trans a7;subst e2;rw [Af,Av] at a3;obtain⟨y,hy,rfl⟩:=a3;have G':y∈Y:=Aq hy;have hZ:(Y.map<|ent knd)[i]?=some (ent knd y):=by rw [Af,hy];rfl
    have F8:t.slot (pr t.mask (knd.hash k) m').j = .live i:=by rw [<- a4];exact W.eY hZ
    have PR:es[i]?=some (knd.hash y.2.1,Value.ref y.2.2):=(W.at hZ).2;have ug:t.sameMemory t.moves t.mask=some true:=by unfold sameMemory;rw [BR<|IK _]
    have iH:∀(Q':Bool->Shared->Prop),Q' true s->wpAny (model prog w) A (isSame (.ref y.2.2)<|.ref y.2.2) Q' E s:=λQ' q=>by
     unfold isSame;simp only;rw [BR<|IK _];exact BL q
    have again:y.2.1≠k->wpAny (model prog w) A (setSearchFrom a (.ref b) (knd.hash k) adding fuel<|some<|pr t.mask (knd.hash k)<|m'+1) Q E s:=λne=>
     G0 U hA ho hd W hY hb S k0 k1 fuel (m'+1) (some<|pr t.mask (knd.hash k)<|m'+1) rfl (by omega) (by omega) λl iX y' mz He=>by
      by_cases c:l < m
      ·exact hn l c y' mz He
      ·by_cases d:l=m'
       ·subst d;have:(ent knd y')=ent knd y:=by
         obtain⟨i',ji⟩:=Br mz;have Hf:(Y.map<|ent knd)[i']?=some (ent knd y'):=by rw [Af,ji];rfl
         have:=W.inj Hf hZ (by show y'.1=(ent knd y).1;rw [a4];exact He);subst this;rw [hZ] at Hf;exact(Option.some.inj Hf).symm
        have e3:y'.2.2=y.2.2:=by
         have:=CG (λz:Ze=>z.2.2) this;exact Value.ref.inj this
        have h1:=hY y' mz;rw [e3] at h1;rw [knd.inj h1<|hY y G'];exact ne
       ·intro ek;refine a6 l (by omega) (by omega) (ent knd y') (Al.mpr ⟨y',mz,rfl⟩) He ?_;show knd.hash y'.2.1=knd.hash k;rw [ek]
    dsimp only
    split
    all_goals
     try
      refine BJ<|q3s U hb _ ?hm ?_
      case hm=>
       intro v hv;obtain⟨e,he,rfl⟩:=Al.mp hv;rw [Array.toList_filter,Cz,W.ents] at he;obtain⟨z,hz,rfl⟩:=Al.mp he.1;obtain⟨y',mz,rfl⟩:=Al.mp hz;exact⟨y'.2.1,y'.2.2,rfl,hY y' mz⟩
      simp only [Ax,CQ]
     rw [PR]
     dsimp only
     refine BJ<|CK<|knd.eqBool hA (hY y G') hb ?_;refine BJ<|DG ho hd W.fits ?_
     dsimp only
     rw [ug,F8]
     dsimp only
     rw [BR (rfl:true=true)]
     dsimp only
     rw [PR]
     dsimp only
     by_cases ek:y.2.1=k
     ·have sX:k∈Y.map (·.2.1):=Al.mpr ⟨y,G',ek⟩;rw [BW ek];cases adding with
      | true=>
       simp only [Bool.and_self,DP];exact BL<|k1 none sX λz=>nomatch z
      | false=>
       simp only [SM,Ax,CQ,DP];refine BJ<|iH _ ?_;refine BJ<|BL ?_;simp only [DP];exact BL<|k1 (some i) sX λ_=>rfl
     ·rw [BX ek];simp only [Gw,Ax,CQ,DP];refine BJ<|iH _ ?_;refine BJ<|BL ?_;simp only [DP];exact again ek
   ·have e2:=Option.some.inj<|uT.symm.trans a2;subst e2
    dsimp only
    refine BL<|k0 λhk=>?_;obtain⟨y,hy,ey⟩:=Al.mp hk;have hz:ent knd y∈Y.map (ent knd):=Al.mpr ⟨y,hy,rfl⟩;obtain⟨n,e1,e2⟩:=W.PH _ hz;have eh:(ent knd y).2.1=knd.hash k:=by show knd.hash y.2.1=_;rw [ey]
    rw [eh] at e1 e2;have hnN:n < N:=by
     refine CV λc=>?_
     rcases Cy N n with d | d
     ·exact S.out<|e2 N d
     ·have:n=N:=by omega
      subst this;exact S.out<|by rw [e1];exact Al.mpr ⟨_,hz,rfl⟩
    by_cases c:n < m
    ·exact hn n c y hy e1.symm ey
    ·exact a1 n (by omega) hnN _ hz e1.symm eh
  ·rename_i PU
   rcases G with ⟨m',i,z,a1,a2,a3,a4,a5,a6,a7⟩ | ⟨a1,a2⟩
   ·exact absurd a7<|PU _
   ·exact absurd a2<|PU _
end
section
variable{prog:Program}{w:World}{K:Type} [DecidableEq K]
def fC(m:Nat):Prop:=m=7\/m=31\/m=127\/m=511
def i7(knd:HeapKind prog w K)(h:Heap)(a:Addr)(Y:List<|Nat×K×Addr):Prop:=
 ∃ o es ep t,h.get? a=some o/\o.ExactSet/\o.data = .set es ep t/\Wf t es (Y.map<|ent knd)/\Y.length * 5 < t.mask * 3/\fC t.mask
def PV(knd:HeapKind prog w K):Prop:=∀{A:Around} {E:Value->Shared->Prop} {s:Shared} {k:K} {a:Addr} {Q:Bool->Shared->Prop},knd.is s.heap k a->(∀ b,Q b s)->wpAny (model prog w) A (hashByValue 8<|.ref a) Q E s
variable{A:Around}{E:Value->Shared->Prop}{s:Shared}{a b:Addr}{knd:HeapKind prog w K}{k:K}{Y:List (Nat×K×Addr)}
theorem PY{es:Array (Int×Value)}:byScan (.ref b) es=false:=by
 unfold byScan;rfl
theorem k9k{Q:Option Nat->Shared->Prop}(U:uS knd)(hA:knd.room A)(S:i7 knd s.heap a Y)(hY:∀ y∈Y,knd.is s.heap y.2.1 y.2.2)(hb:knd.is s.heap k b)
  (k0:k∉Y.map (·.2.1)->Q none s) (k1:∀ i,k∈Y.map (·.2.1)->Q (some i) s):wpAny (model prog w) A (setFind a (.ref b)<|knd.hash k) Q E s:=by
 obtain⟨o,es,ep,t,ho,hx,hd,W,_⟩:=S;obtain⟨N,SN⟩:=W.stop<|knd.hash k;have hl:=SN.lt;have hm:=W.pow.pos.2;unfold setFind setFindIn;refine BJ<|DG ho hd W.fits ?_
 dsimp only
 rw [PY];simp only [Ax,CQ];refine BJ ?_;refine G0 (adding:=false) U hA ho hd W hY hb SN (λhk=>?_) (λoi hk hs=>?_) 100000 0 none (Pu t _) (Bv _) (by unfold turns at hl;omega) λl iX=>absurd iX<|Ec _
 ·exact BL<|k0 hk
 ·cases oi with
  | none=>exact absurd (hs rfl) At
  | some i=>exact BL<|k1 i hk
theorem q4a{m:Nat}(h:fC m):Pow (m+1):=by
 unfold fC at h;unfold Pow
 rcases h with rfl | rfl | rfl | rfl <;> decide
theorem q3m{m n:Nat}(hw:fC m)(h1:(n - 1) * 5 < m * 3)(h2:n * 5>=m * 3)(h0:1<=n)(h3:n<=300):fC (sizeAbove (grown n) - 1)/\n<=sizeAbove (grown n) - 1/\n * 5 < (sizeAbove (grown n) - 1) * 3:=by
 rcases hw with h | h | h | h
 ·have:n=5:=by omega
  subst this;unfold fC;decide +kernel
 ·have:n=19:=by omega
  subst this;unfold fC;decide +kernel
 ·have:n=77:=by omega
  subst this;unfold fC;decide +kernel
 ·omega
theorem PZ{o:Obj}{ep:Nat}{es da:Array (Int×Value)}{t t':SetTable}{h:Heap}{Y':List (Nat×K×Addr)}(ho:h.get? a=some o)(hx:o.ExactSet)(hd:o.data = .set es ep t)(W':Wf t' da<|Y'.map<|ent knd) :
  (h.update a<|Obj.putSet da t').get? a=some {o with data:= .set da (ep+1) t'}:=by
 have q:=Ch (Obj.putSet da t') ho (by rw [putSet_of da t' hd];rfl);rw [putSet_of da t' hd] at q;exact q
theorem P1{α β:Type}{f:α->β}{L M:List β}(h:L.Perm M):∀{Y':List α},Y'.map f=M->∃ Y2:List α,L=Y2.map f/\Y2.Perm Y':=by
 induction h with
 | nil=>
  intro Y' hM;have:Y'=[]:=by simpa using hM
  subst this;exact⟨[],rfl,.refl _⟩
 | cons x p ih=>
  intro Y' hM;cases Y' with
  | nil=>cases hM
  | cons y r=>
   rw [Bb] at hM
   injection hM with e1 e2
   subst e1;obtain⟨Y2,e3,p2⟩:=ih e2;exact⟨y :: Y2,by rw [e3];rfl,p2.cons y⟩
 | swap x y l=>
  intro Y' hM;cases Y' with
  | nil=>cases hM
  | cons u r=>
   cases r with
   | nil=>cases hM
   | cons v r=>
    rw [Bb,Bb] at hM
    injection hM with e1 e2
    injection e2 with e2 e3
    subst e1 e2 e3;exact⟨v :: u :: r,rfl,.swap _ _ _⟩
 | trans p1 p2 ih1 ih2=>
  intro Y' hM;obtain⟨Y2,e2,q2⟩:=ih2 hM;obtain⟨Y3,e3,q3⟩:=ih1 e2.symm;exact⟨Y3,e3,q3.trans q2⟩
theorem glue:∀{Z:List Ze} {Y:List (Nat×K×Addr)},Z.map (·.2)=Y.map (λy=>(ent knd y).2)->∃ Y2:List<|Nat×K×Addr,Z=Y2.map (ent knd)/\Y2.map (·.2)=Y.map (·.2)
 | [],[],_=>⟨[],rfl,rfl⟩
 | [],_ :: _,h=>by cases h
 | _ :: _,[],h=>by cases h
 | z :: Z,y :: Y,h=>by
  rw [Bb,Bb] at h
  injection h with h1 h2
  obtain⟨Y2,e1,e2⟩:=glue h2;refine⟨(z.1,y.2) :: Y2,?_,by rw [Bb,Bb,e2]⟩;rw [Bb,<- e1]
  congr 1
  show z=(z.1,(ent knd y).2);rw [<- h1]
theorem q4t{Q:Bool->Shared->Prop}(U:uS knd)(HB:PV knd)(hA:knd.room A)(S:i7 knd s.heap a Y)(hY:∀ y∈Y,knd.is s.heap y.2.1 y.2.2)(hb:knd.is s.heap k b)(hl:Y.length+1<=300)
    (q0:k∈Y.map (·.2.1)->Q false s) (q1:∀ h' Y',k∉Y.map (·.2.1)->Heap.SameBut a s.heap h'->i7 knd h' a Y'->(Y'.map (·.2)).Perm ((k,b) :: Y.map (·.2))->Q true {s with heap:=h'}) :
    wpAny (model prog w) A (setAddHashed a (.ref b)<|knd.hash k) Q E s:=by
  obtain⟨o,es,ep,t,ho,hx,hd,W,P2,hw⟩:=S;obtain⟨N,SN⟩:=W.stop<|knd.hash k;have aO:=SN.lt;have hm:=W.pow.pos;have eZ:(Y.map<|ent knd).length=Y.length:=Aa ..;unfold setAddHashed setAddHashedIn;refine CK<|BJ<|DG ho hd W.fits ?_
  dsimp only
  rw [PY];simp only [Ax,CQ];refine BJ ?_;refine G0 (adding:=true) U hA ho hd W hY hb SN (λhk=>?_) (λoi hk hs=>?_) 100000 0 none (Pu t _) (Bv _) (by unfold turns at aO;omega) λl iX=>absurd iX<|Ec _
  · dsimp only
    refine BJ<|DG ho hd W.fits ?_
    dsimp only
    have put:=λ(t':SetTable) e1 e2 e3=>W.put (x:= .ref b) SN (t':=t') e1 e2 e3 (by rw [eZ];omega);have fin:∀ t':SetTable,t'.mask=t.mask->t'.place=(t.put (pr t.mask (knd.hash k) N).j).1.place->t'.dummies=#[]->wpAny (model prog w) A (do
        storeSet a (insertAt es (t.put (pr t.mask (knd.hash k) N).j).2 (knd.hash k,.ref b)) t'
        if (!false && t'.tooFull) = true then do
            setRelay a (grown<|es.size+1)
            pure true
          else pure true) Q E s:=λt' e1 e2 e3=>by
      obtain⟨Z',W',pZ⟩:=put t' e1 e2 e3;obtain⟨Y2,eY2,P4⟩:=P1 pZ (f:=ent knd) (Y':=((pr t.mask (knd.hash k) N).j,k,b) :: Y) rfl;subst eY2;have lY2:Y2.length=Y.length+1:=P4.length_eq;have lE:=W'.len;rw [Aa] at lE;have pk:(Y2.map (·.2)).Perm ((k,b) :: Y.map (·.2)):=P4.map (·.2);generalize insertAt es (t.put (pr t.mask (knd.hash k) N).j).2 (knd.hash k,.ref b)=c6 at W' lE ⊢;refine BJ (LC ho hd ?_<|mK<|by omega);have g1:=PZ (knd:=knd) (Y':=Y2) ho hx hd W';have sb:=DN s.heap a<|Obj.putSet c6 t';have nh:t'.fill=Y2.length:=by
        unfold fill;rw [W'.uR,e3,Aa];rfl
      by_cases full:t'.tooFull=true
      · rw [full];simp only [Gx,Bool.and_self,DP];unfold tooFull at full;rw [GJ,nh,e1] at full;obtain⟨w1,w2,w3⟩:=q3m (n:=es.size+1) hw (by rw [W.len,eZ];omega) (by rw [W.len,eZ];omega) (by omega) (by rw [W.len,eZ];omega);have en:es.size+1=c6.size:=by rw [lE,lY2,W.len,eZ]
        rw [en] at w1 w2 w3 ⊢;have hp8:sizeAbove (grown c6.size) - 1+1=sizeAbove (grown c6.size):=by unfold fC at w1;omega
        have pw:=q4a w1;rw [hp8] at pw;obtain⟨t2,order,Z3,r1,r2,r3,r4,r5⟩:=k8l (t:=t') (es:=c6) pw w2;refine BJ ?_;unfold setRelay;refine BJ<|DG g1 rfl W'.fits ?_
        dsimp only
        have Hg:¬(sizeAbove (grown c6.size) > sizeLine):=by
          have:=pw.pos.2;rw [EY];omega
        rw [BK Hg,r1];refine BJ ?_;show wpAny _ _ (if((order.filterMap (c6[·]?)).size != c6.size)=true then _ else _) _ _ _;rw [BK<|by rw [r2];simp];refine BL ?_;refine LC g1 rfl ?_ (by rw [r2];exact mK<|by omega);refine BL ?_;rw [W'.ents,Cf] at r4;obtain⟨Y4,eY4,P5⟩:=P1 r4 (f:=λy=>(ent knd y).2) (Y':=Y2) rfl;obtain⟨Y5,eY5,P6⟩:=glue eY4;subst eY5;have uI:({o with data:= .set c6 (ep+1) t'}:Obj).ExactSet:=hx;have g2:=PZ (knd:=knd) (Y':=Y5) g1 uI rfl r3;have lY5:Y5.length=Y2.length:=by
          have:=CG List.length P6;rw [Aa,Aa,P5.length_eq] at this;exact this
        refine q1 _ Y5 hk (sb.trans<|DN _ a _) ⟨_,_,_,t2,g2,uI,rfl,r3,by rw [r5,lY5,<- lE];exact w3,by rw [r5];exact w1⟩ ?_;rw [P6];exact(P5.map (·.2)).trans pk
      · rw [Bool.not_eq_true] at full;rw [full];simp only [Gw,Ax,CQ];refine BL (q1 _ Y2 hk sb ⟨_,c6,ep+1,t',g1,hx,rfl,W',?_,by rw [e1];exact hw⟩ pk);unfold tooFull at full;rw [KY,nh] at full;omega
    have dm:(t.put (pr t.mask (knd.hash k) N).j).1.dummies=#[]:=by
      show(if has t.dummies _=true then _ else t.dummies)=#[];rw [W.F'];rfl
    split
    · refine BJ<|HB hb λbv=>?_;cases bv with
      | true=>exact fin (t.put (pr t.mask (knd.hash k) N).j).1 rfl rfl dm
      | false=>exact fin {(t.put (pr t.mask (knd.hash k) N).j).1 with plain:=false} rfl rfl dm
    · exact BJ<|BL<|fin (t.put (pr t.mask (knd.hash k) N).j).1 rfl rfl dm
  · dsimp only
    exact BL<|q0 hk
end
section
variable{prog:Program}{w:World}{K:Type} [DecidableEq K] {knd:KeyKind prog w K}
theorem k90{v:Value}(h:carriedByValue v=true):ofAClassStatement 7 v=pure false:=by
 cases v <;> first | rfl | exact absurd h (by decide) | (unfold carriedByValue at h;cases h)
theorem k87{v:Value}(h:carriedByValue v=true):∃ b,hashByValue 7 v=pure b:=by
 cases v <;> first | exact⟨_,rfl⟩ | exact absurd h (by decide) | (unfold carriedByValue at h;cases h)
theorem P7:uS (tupleKind knd):=by
 intro A E s k a Q hk q;have hT:=IsTupleKey.typeIs hk;obtain⟨o,items,n,ho,hc,hd,hi⟩:=hk;unfold ofAClassStatement;refine BJ<|KH hT ?_
 dsimp only
 refine BJ<|BL ?_;simp only [Dv,Ax,CQ];refine BJ<|KR ho hd ?_
 dsimp only
 refine BJ ?_;rw [<- Array.forIn_toList];refine RK _ (λrest r s'=>r.1=none/\s'=s/\∀ v∈rest,carriedByValue v=true) _ ?_ ?_ _ _ ⟨rfl,rfl,hi.byValue⟩
 ·rintro v rest r s' ⟨hr,rfl,fh⟩;rw [k90<|fh v Ad];refine BJ<|BL ?_;simp only [Ax,CQ];exact BL ⟨rfl,rfl,λu hu=>fh u<|Aj _ hu⟩
 ·rintro ⟨r1,r2⟩ s' ⟨hr,rfl,_⟩;simp only at hr;subst hr;exact BL q
theorem j9f:PV (tupleKind knd):=by
 intro A E s k a Q hk q;have hT:=IsTupleKey.typeIs hk;obtain⟨o,items,n,ho,hc,hd,hi⟩:=hk;unfold hashByValue;refine BJ<|PJ hT F.slot_tuple_hash.lookup ?_
 dsimp only
 refine BJ<|KR ho hd ?_;refine BJ ?_;show wpAny _ _ (forIn items _ _) _ _ s;rw [<- Array.forIn_toList];refine RK _ (λrest r s'=>s'=s/\∀ v∈rest,carriedByValue v=true) _ ?_ ?_ _ _ ⟨rfl,hi.byValue⟩
 ·rintro v rest r s' ⟨rfl,fh⟩;obtain⟨b,eb⟩:=k87<|fh v Ad;rw [eb];refine BJ<|BL ?_;cases b with
  | true=>
   simp only [Dv,Ax,CQ];exact BL ⟨rfl,λu hu=>fh u<|Aj _ hu⟩
  | false=>
   simp only [Gx,DP];exact BL<|by first | exact BL (q _) | trace_state
 ·rintro ⟨r1,r2⟩ s' ⟨rfl,_⟩;cases r1 with
  | none=>exact BL<|q _
  | some r=>exact BL<|q _
end
end bT
namespace L2
open PySem PySem.Spec PyProof.Rows bT Classical
abbrev Yt:=Nat×List Key×Addr
def jv(prog:Program)(w:World)(a:Addr)(Y:List Yt):HO:= .ext λh=>i7 (tupleKind<|bR prog w) h a Y
section
variable{prog:Program}{w:World}{A:Around}{E:Value->Shared->Prop}{s:Shared}{a b:Addr}{Y:List Yt}{k:List Key}
theorem q4w{h h':Heap}(S:i7 (tupleKind<|bR prog w) h a Y)(q:∀ o,h.get? a=some o->h'.get? a=some o):i7 (tupleKind<|bR prog w) h' a Y:=let ⟨o,es,ep,t,h1,h2⟩:=S;⟨o,es,ep,t,q o h1,h2⟩
theorem Hh(S:i7 (tupleKind<|bR prog w) s.heap a Y):s.TypeIs (.ref a) "set":=let ⟨o,_,_,_,h1,h2,_⟩:=S;⟨o,h1,h2.1⟩
theorem q6v{h:Heap}(e:h.get? a=some (fG w)):i7 (tupleKind<|bR prog w) h a []:=
 ⟨_,#[],0,_,e,⟨rfl,rfl,rfl⟩,rfl,⟨rfl,rfl,List.Pairwise.nil,λz hz=>(by cases hz),by show 0<=7;decide,rfl,.inl rfl,λz hz=>(by cases hz)⟩,by show 0 * 5 < 7 * 3;decide,.inl rfl⟩
theorem k3l{Q:Value->Shared->Prop}(hu:A.units+1 < cLine)(S:i7 (tupleKind<|bR prog w) s.heap a Y)(hY:∀ y∈Y,(tupleKind<|bR prog w).is s.heap y.2.1 y.2.2)(hb:(tupleKind<|bR prog w).is s.heap k b)
  (h:∀ tk,Q (.bool (decide (k∉Y.map (·.2.1)))) {s with toks:=tk}):wpAny (model prog w) A (compareOp .NotIn (.ref b)<|.ref a) Q E s:=by
 have hT:=Hh S;show wpAny _ _ (do return .bool (!(<- contains (.ref a)<|.ref b))) Q E s;refine BJ ?_;unfold contains
 try with_reducible refine CK ?_
 refine BJ<|PJ hT PySem.F.slot_set_contains.lookup ?_;show wpAny _ _ (if(some (Value.builtin "set.__contains__") == some Value.none)=true then _ else _) _ E s;rw [BK<|by rw [beq_builtin_none];exact At];refine BJ<|wpAny_callSpecialUnlessNone?_slot (name:=Str.ofString "__contains__") hT RD<|DQ RD hT entry_set_contains ?_<|PySem.F.args_set_contains_2 _ _;unfold Builtin.«frozenset.__contains__» Builtin.Frozenset.oneOther;simp only [Gk,bind_assoc];unfold Builtin.Frozenset.addrOf Builtin.Frozenset.withSetAsKey setContains;refine BJ<|BL ?_
 try dsimp only
 refine BJ<|BL ?_
 try dsimp only
 refine BJ<|wpAny_tryCatch<|CK ?_;refine BJ<|(tupleKind<|bR prog w).pyHash (k:=k) (FW hu) hb ?_;refine BJ<|k9k (s:={s with toks:=s.toks+(tupleKind<|bR prog w).draws k}) P7 (FW hu) S hY hb (λhz=>?_) λj hz=>?_
 ·refine BL ?_;show wpAny _ _ (ret<|Value.bool false) _ _ _;have h:=h<|s.toks+(tupleKind<|bR prog w).draws k;rw [BW hz] at h;exact BL ⟨_,rfl,GD<|BL h⟩
 ·refine BL ?_;show wpAny _ _ (ret<|Value.bool true) _ _ _;have h:=h<|s.toks+(tupleKind<|bR prog w).draws k;rw [BX<|not_not_intro hz] at h;exact BL ⟨_,rfl,GD<|BL h⟩
theorem k41{Q:Value->Shared->Prop}(hu:A.units+1 < cLine)(S:i7 (tupleKind<|bR prog w) s.heap a Y)(hY:∀ y∈Y,(tupleKind<|bR prog w).is s.heap y.2.1 y.2.2)(hb:(tupleKind<|bR prog w).is s.heap k b)(hl:Y.length+1<=300)
  (h:∀ h' tk Y',Heap.SameBut a s.heap h'->i7 (tupleKind<|bR prog w) h' a Y'->(Y'.map (·.2)).Perm (if k∈Y.map (·.2.1) then Y.map (·.2) else(k,b) :: Y.map (·.2))->Q .none {s with heap:=h',toks:=tk}) :
  wpAny (model prog w) A (call (.builtin "set.add") [.ref a,.ref b]) Q E s:=by
 have hT:=Hh S;refine DQ F.slot_set_add hT F.entry_set_add ?_<|F.args_set_add_2 _ _;unfold Builtin.«set.add» Builtin.Frozenset.oneOther;simp only [Gk,bind_assoc];unfold Builtin.Frozenset.addrOf setAdd;refine BJ<|BL ?_
 try dsimp only
 refine BJ<|BL ?_
 try dsimp only
 refine BJ ?_;refine CK ?_;refine BJ<|(tupleKind<|bR prog w).pyHash (k:=k) (FW hu) hb ?_;refine q4t (s:={s with toks:=s.toks+(tupleKind<|bR prog w).draws k}) P7 j9f (FW hu) S hY hb hl (λhk=>?_) λh' Y' hk sb S' p=>?_
 ·show wpAny _ _ (ret Value.none) _ _ _;exact BL ⟨_,rfl,h s.heap _ Y (Heap.SameBut.refl a s.heap) S<|by rw [BR hk]⟩
 ·show wpAny _ _ (ret Value.none) _ _ _;exact BL ⟨_,rfl,h h' _ Y' sb S'<|by rw [BK hk];exact p⟩
end
section
variable{X:Cx}{σ:St}{H:Hp}{Q:VK}{pins:List (Addr×Obj)}{s:Shared}{a b:Addr}{Y:List Yt}
theorem P8{h:Heap}(S:i7 (tupleKind<|bR X.prog X.w) h a Y):ax X.prog X.w H h a (jv X.prog X.w a Y):=by
 refine⟨S,?_,λh1 h2 q k=>q4w q k⟩;obtain⟨o,_,_,_,ho,_⟩:=S;exact⟨o,ho⟩
theorem Inv.pS(I:Inv X pins σ H s)(h:H a=some (jv X.prog X.w a Y)):i7 (tupleKind<|bR X.prog X.w) s.heap a Y:=(I.aA a _ h).1
structure bV(prog:Program)(w:World)(H:Hp)(a:Addr)(ks:List<|List Key):Prop where
 ex:∃ Y,H a=some (jv prog w a Y)/\(∀ y∈Y,H y.2.2=some (.tup<|y.2.1.map kV))/\(Y.map (·.2.1)).Perm ks
theorem bV.same{prog:Program}{w:World}{H H':Hp}{ks:List (List Key)}(h:bV prog w H a ks)(s:aj H H'):bV prog w H' a ks:=let ⟨Y,h1,h2,h3⟩:=h.ex;⟨Y,s _ _ h1,λy hy=>s _ _<|h2 y hy,h3⟩
theorem bV.keep{prog:Program}{w:World}{H H':Hp}{ks:List (List Key)}(h:bV prog w H a ks)(k1:H' a=H a)(k2:∀ b xs,H b=some (.tup xs)->H' b=some (.tup xs)):bV prog w H' a ks:=let ⟨Y,h1,h2,h3⟩:=h.ex;⟨Y,by rw [k1];exact h1,λy hy=>k2 _ _<|h2 y hy,h3⟩
theorem bV.ne{prog:Program}{w:World}{H:Hp}{ks:List (List Key)}{o:HO}(h:bV prog w H a ks)(e:H b=some o)(ho:∀ φ,o ≠ .ext φ):b≠a:=λq=>by
 obtain⟨Y,h1,_⟩:=h.ex;rw [q,h1] at e;exact ho _ (Option.some.inj e).symm
theorem bV.some{prog:Program}{w:World}{H:Hp}{ks:List (List Key)}(h:bV prog w H a ks):H a≠none:=λq=>by
 obtain⟨Y,h1,_⟩:=h.ex;rw [q] at h1;cases h1
theorem q0g{p pos:Pos}(hm:X.mg "set" = none)(h:∀ D,H D=none->Q (.ref D) (upd H D<|jv X.prog X.w D []))(hg:Gl X "set":=by rfl):Ev X (.Call (.Name "set" p) [] [] pos) σ H Q:=by
 refine⟨λpins s I=>Call_<|nL I hg hm TQ<|PyProof.Rows.callWith_type0<|X6 ?_⟩;exact⟨.ref s.heap.objs.size,_,I.laid (t':=s.toks) (λb o e=>Ah _ e) (Ak _)<|P8<|q6v<|Ar _ rfl,rfl,h _ I.fresh⟩
theorem pT{prog:Program}{w:World}{D:Addr}:bV prog w (upd H D<|jv prog w D []) D []:=⟨[],aw,λy hy=>(by cases hy),.refl _⟩
theorem j8g(hu:X.A.units+1 < cLine):cV X (compareOp .NotIn) (λx y H Q=>∃ k b a ks,x = .ref b/\y = .ref a/\H b=some (.tup<|k.map kV)/\bV X.prog X.w H a ks/\Q (.bl<|decide (k∉ks)) H):=by
 intro pins s σ H x y v u Q I rx ry h;obtain⟨k,b,a,ks,rfl,rfl,hb,T,q⟩:=h;obtain⟨Y,h1,h2,h3⟩:=T.ex;cases (show v=Value.ref b from rx);cases (show u=Value.ref a from ry);refine k3l hu (Inv.pS I h1) (λy hy=>ka I.aA<|h2 y hy) (ka I.aA hb) λtk=>⟨.bl<|decide (k∉ks),H,I.tok _,?_,q⟩;show Value.bool _=Value.bool _
 congr 1
 exact decide_eq_decide.mpr<|not_congr h3.mem_iff
theorem q3d{o e:Expr}{ap cp:Pos}(hu:X.A.units+1 < cLine) (h:Ev X o σ H λx H1=>∃ a,x = .ref a/\(∃ ks,bV X.prog X.w H1 a ks)/\Ev X e σ H1 λy H2=>∃ k b ks,y = .ref b/\H2 b=some (.tup<|k.map kV)/\bV X.prog X.w H2 a ks/\ks.length+1<=300 /\
   ∀ oo,bV X.prog X.w (upd H2 a oo) a (if k∈ks then ks else k :: ks)->Q .non (upd H2 a oo))
  (bI:attributeBase o "add" X.env (eval o X.env)=eval o X.env:=by rfl)
  (db:((backTo cp<|starEach [e] X.env).all (λx=>!x.1) && (backToKw cp<|keywordEach [] X.env).all (λx=>x.1.isSome) && decide ([e].length+([]:List Keyword).length+(if([]:List Keyword).isEmpty then 0 else 1) < 30))=true:=by rfl)
  (hline:(ap.endLine == cp.line)=true:=by rfl) (hs:starEach [e] X.env=(false,eval e X.env) :: starEach [] X.env:=by rfl) (cR:isStar e=false:=by rfl):Ev X (.Call (.Attribute o "add" ap) [e] [] cp) σ H Q:=by
 refine⟨λpins s I=>wpAny_Call_method_late bI db hline rfl (aE (h.run pins s I) λv s1 ⟨x,H1,I1,r1,a,ex,⟨ks,hA⟩,h2⟩=>?_)⟩;subst ex;cases (show v=Value.ref a from r1);obtain⟨Y0,g1,_⟩:=hA.ex;have S:=Inv.pS I1 g1;refine⟨"set","set.add",PySem.F.plainAttrs_set,PySem.F.slot_set_add,PySem.F.type_set_add,Hh S,λb eb=>?_,?_⟩
 ·cases eb;obtain⟨o,_,_,_,ho,hx,_⟩:=S;exact⟨o,ho,hx.2.1⟩
 have hE:Ea X [e] σ H1 (λys H2=>∃ k b ks,ys=[.ref b]/\H2 b=some (.tup<|k.map kV)/\bV X.prog X.w H2 a ks/\ks.length+1<=300/\∀ oo,bV X.prog X.w (upd H2 a oo) a (if k∈ks then ks else k :: ks)->Q .non (upd H2 a oo)):=
  ai (h2.mono λy H2 ⟨k,b,ks,ey,q⟩=>au ⟨k,b,ks,by rw [ey],q⟩) cR
 have P9:=hE.run cp pins s1 I1;rw [hs] at P9 ⊢;refine HD rfl (JV ?_);refine aE P9 λus s2 ⟨vs,H2,I2,r2,k,b,ks,ev,hb,T,hl,q⟩=>?_;subst ev;obtain⟨u,rfl,ru⟩:=vals1 r2;cases (show u=Value.ref b from ru);obtain⟨Y,g1,g2,g3⟩:=T.ex;have hlY:Y.length=ks.length:=by
  have:=g3.length_eq;rw [Aa] at this;exact this
 refine k41 hu (Inv.pS I2 g1) (λy hy=>ka I2.aA<|g2 y hy) (ka I2.aA hb) (by omega) λh' tk Y' sb S' p=>?_;refine⟨.non,_,kZ (t':=tk) I2 (by rw [g1];exact True.intro) sb ?_<|P8 S',rfl,q _ ?_⟩
 ·obtain⟨o,_,_,_,ho,_⟩:=S';exact⟨o,ho⟩
 ·have nt:∀{c:Addr} {xs:List V},H2 c=some (.tup xs)->c≠a:=λe z=>by
   rw [z,g1] at e;cases e
  refine⟨Y',aw,λy hy=>?_,?_⟩
  ·have hm:y.2∈(if k∈Y.map (·.2.1) then Y.map (·.2) else(k,b) :: Y.map (·.2)):=p.mem_iff.mp<|Al.mpr ⟨y,hy,rfl⟩;have old:y.2∈Y.map (·.2)->(upd H2 a<|jv X.prog X.w a Y') y.2.2=some (.tup<|y.2.1.map kV):=λhm=>by
    obtain⟨z,hz,ez⟩:=Al.mp hm;rw [<- ez,aq<|nt<|g2 z hz];exact g2 z hz
   split at hm
   ·exact old hm
   ·rcases Ai.mp hm with e | hm
    ·rw [e,aq<|nt hb];exact hb
    ·exact old hm
  ·have p2:=p.map (·.1);rw [Cf] at p2;refine p2.trans ?_
   by_cases c:k∈Y.map (·.2.1)
   ·rw [BR c,BR<|g3.mem_iff.mp c,Cf];exact g3
   ·rw [BK c,BK λz=>c<|g3.mem_iff.mpr z,Bb,Cf];exact g3.cons k
end
end L2
namespace B4
open PySem L2 Nt bK bT
def iK(n:Net)(H:Hp)(ts:List Addr)(es:List Nt.End):Prop:=ts.length=es.length/\∀(j:Nat) t e,ts[j]?=some t->es[j]?=some e->H t=some (TN n e)
theorem iK.keep{n:Net}{H H':Hp}{ts:List Addr}{es:List Nt.End}(h:iK n H ts es)(k:∀ t p j,H t=some (Tn p j)->H' t=some (Tn p j)):iK n H' ts es:=⟨h.1,λj t e h1 h2=>k _ _ _<|h.2 j t e h1 h2⟩
theorem iK.same{n:Net}{H H':Hp}{ts:List Addr}{es:List Nt.End}(h:iK n H ts es)(s:aj H H'):iK n H' ts es:=h.keep λ_ _ _ q=>s _ _ q
theorem iK.append{n:Net}{H:Hp}{ts us:List Addr}{es fs:List Nt.End}(h:iK n H ts es)(g:iK n H us fs):iK n H (ts++us) (es++fs):=by
 refine⟨by rw [Ae,Ae,h.1,g.1],λj t e h1 h2=>?_⟩;have hl:=h.1
 by_cases hj:j < ts.length
 ·rw [Ay hj] at h1;rw [Ay<|by omega] at h2;exact h.2 j t e h1 h2
 ·rw [Bd<|by omega] at h1 h2;rw [<- hl] at h2;exact g.2 _ t e h1 h2
theorem q7x{n:Net}(hN:(n.map (·.1)).Nodup){a b:Nt.End}(ha:a∈ends n)(hb:b∈ends n):decide (nameAt n a.1=nameAt n b.1/\(a.2:Int)=(b.2:Int))=decide (a=b):=by
 obtain⟨z1,h1⟩:=ag.mp ha;obtain⟨z2,h2⟩:=ag.mp hb;refine decide_eq_decide.mpr ⟨λ⟨p,q⟩=>rA hN (eW h1) (eW h2) (by unfold key;rw [p,q]),λe=>by rw [e];exact⟨rfl,rfl⟩⟩
def cA(n:Net)(H:Hp)(d:Addr)(c:Int):Prop:=∃ kvs,H d=some (.dT kvs)/\∀ e∈ends n,∃ u,aB kvs (key n e)=some (.ref u)/\H u=some (TN n<|go c n e)
theorem cA.same{n:Net}{H H':Hp}{d:Addr}{c:Int}(h:cA n H d c)(s:aj H H'):cA n H' d c:=let ⟨kvs,h1,h2⟩:=h;⟨kvs,s _ _ h1,λe he=>let ⟨u,a,b⟩:=h2 e he;⟨u,a,s _ _ b⟩⟩
theorem cA.get{n:Net}{H:Hp}{d t:Addr}{c:Int}{e:Nt.End}(h:cA n H d c)(he:e∈ends n)(ht:H t=some (TN n e)):∃ u,bD H d (.ref t) (some<|.ref u)/\H u=some (TN n<|go c n e):=by
 obtain⟨kvs,h1,h2⟩:=h;obtain⟨u,a,b⟩:=h2 e he;exact⟨u,by rw [<- a];exact bD.t (k:=key n e) h1 ht,b⟩
structure jw(n:Net)(H:Hp)(L:Addr)(ls:List Addr)(ws:List<|List Nt.End):Prop where
 lst:H L=some (.lst<|ls.map V.ref)
 len:ls.length=ws.length
 gy:ls.Nodup
 out:L∉ls
 at':∀(j:Nat) l w,ls[j]?=some l->ws[j]?=some w->∃ ts,H l=some (.lst<|ts.map V.ref)/\iK n H ts w
theorem jw.same{n:Net}{H H':Hp}{L:Addr}{ls:List Addr}{ws:List (List Nt.End)}(h:jw n H L ls ws)(s:aj H H'):jw n H' L ls ws:=
 ⟨s _ _ h.lst,h.len,h.gy,h.out,λj l w h1 h2=>let ⟨ts,a,b⟩:=h.at' j l w h1 h2;⟨ts,s _ _ a,b.same s⟩⟩
theorem jw.keep{n:Net}{H H':Hp}{L:Addr}{ls:List Addr}{ws:List (List Nt.End)}(h:jw n H L ls ws)(hL:H' L=H L)(kl:∀ l∈ls,∀ o,H l=some o->H' l=some o)(kt:∀ t p j,H t=some (Tn p j)->H' t=some (Tn p j)):jw n H' L ls ws:=
 ⟨by rw [hL];exact h.lst,h.len,h.gy,h.out,λj l w h1 h2=>let ⟨ts,a,b⟩:=h.at' j l w h1 h2;⟨ts,kl l (Aq h1) _ a,b.keep kt⟩⟩
theorem jw.snoc{n:Net}{H H':Hp}{L l:Addr}{ls ts:List Addr}{ws:List (List Nt.End)}{v:List Nt.End}(h:jw n H L ls ws)(hL:H' L=some (.lst<|ls.map V.ref++[.ref l]))(kl:∀ l∈ls,∀ o,H l=some o->H' l=some o)(kt:∀ t p j,H t=some (Tn p j)->H' t=some (Tn p j))
  (hl:H' l=some (.lst<|ts.map V.ref)) (hv:iK n H' ts v) (hn:l∉ls) (hLl:L≠l):jw n H' L (ls++[l]) (ws++[v]):=by
 refine⟨by rw [hL,Am];rfl,by rw [Ae,Ae,h.len];rfl,kd h.gy hn,λhm=>?_,λj a x h1 h2=>?_⟩
 ·rcases An.mp hm with hm | hm
  ·exact h.out hm
  ·exact hLl<|Ag.mp hm
 ·have hlen:=h.len
  by_cases hj:j < ls.length
  ·rw [Ay hj] at h1;rw [Ay<|by omega] at h2;obtain⟨us,q1,q2⟩:=h.at' j a x h1 h2;exact⟨us,kl a (Aq h1) _ q1,q2.keep kt⟩
  ·rw [Bd<|by omega] at h1 h2;have gM:j - ls.length=0:=by
    have:=(Ac.mp h1).1;simp at this;omega
   rw [gM] at h1;rw [<- hlen,gM] at h2;cases h1;cases h2;exact⟨ts,hl,hv⟩
theorem q20{n:Net}{i:Nat}{p:Str×Nt.End}(h:(bw n)[i]?=some p):(ends n)[i]?=some p.2:=by unfold ends;rw [Af,h];rfl
def pU:Sp:=λvs H Q _=>∃(dl t:Addr) (n:Net) (e:Nt.End),vs=[.ref dl,.ref t]/\cA n H dl 1/\(n.map (·.1)).Nodup/\aC n/\(af n).length<=1000/\e∈ends n/\H t=some (TN n e) /\
 ∀(l:Addr) (ts:List Addr) (H':Hp),aj H H'->H l=none->H' l=some (.lst<|ts.map V.ref)->iK n H' ts (face n e)->Q (.ref l) H'
def Hi:Sp:=λvs H Q _=>∃(R:Addr) (as:List<|Addr×Addr) (n:Net),vs=[.ref R]/\ah H R as n/\(n.map (·.1)).Nodup/\aC n/\n.length<=1000/\(af n).length<=200 /\
 ∀(L:Addr) (ls:List Addr) (H':Hp),aj H H'->H L=none->jw n H' L ls (jq n)->(∀ l∈ls,H l=none)->Q (.ref L) H'
section
variable{P:Program}{w:World}{K:PySem.W.Frag}{mg:Str->Option Value}{base:Heap}
abbrev NFf:List Str:=["steps","first","face","end"]
theorem uU:ao NFf ["steps","first"] (aW CF):=⟨rfl,rfl,rfl,by decide +kernel,rfl,by decide +kernel,by decide +kernel⟩
theorem q70{f:Addr}{fd:FuncData}(F:bM K "face_from" "face_from" CF f fd)(T:Txt mg):aD P w K mg base bP 1 f fd ["steps","first"] pU:=by
 refine F.gb uU (λvs H Q E h=>?_) λb0 H vs Q E hr h=>?_
 ·obtain⟨dl,t,n,e,rfl,_⟩:=h;rfl
 obtain⟨dl,t,n,e,rfl,hL,hN,hT,ni,he,ht,q⟩:=h;have nd:=uU.nd;have EV:=g5 n;have hu:=hr.u1;have un:=hr.gg;obtain⟨k,pk,hk⟩:=Nv hT he;have k0:=pk.pos;have P':∀{H':Hp} {c:Nt.End} {u:Addr},aj H H'->c∈ends n->H' u=some (TN n c)->∃ v,bD H' dl (.ref u) (some<|.ref v)/\H' v=some (TN n<|step n c):=λ{H' c u} sm hc hu'=>by
  obtain⟨v,g,e⟩:=(hL.same sm).get hc hu';rw [<- X8 hT hc] at e;exact⟨v,g,e⟩
 show Run _ _ _ [some<|.ref dl,some<|.ref t,none,none] H;refine aN 2 nd<|cO<|ai<|ae 1<|au ⟨Z1,λl hl=>?_⟩;have s1:=aJ hl<|.lst [.ref t];have el:(upd H l<|.lst [.ref t]) l=some (.lst<|[t].map V.ref):=aw;generalize upd H l (.lst [.ref t])=H1 at s1 el;obtain⟨u1,g1,e1⟩:=P' s1 he<|s1 _ _ ht;refine aN 3 nd<|mR hu<|ae 0<|ae 1 ⟨dl,.ref u1,rfl,g1,?_⟩;show Run _ _ _ [some<|.ref dl,some<|.ref t,some<|.ref l,some<|.ref u1] H1;refine wN (λm σ H2=>∃(j:Nat) (ts:List Addr) (u:Addr),m=k - j/\0 < j/\j<=k/\aj H H2/\H2 l=some (.lst<|ts.map V.ref)/\iK n H2 ts (fl n e j)/\H2 u=some (TN n<|it (step n) j e)/\σ=[some<|.ref dl,some<|.ref t,some<|.ref l,some<|.ref u])
  (m0:=k - 1) ⟨1,[t],u1,rfl,Gy,k0,s1,el,⟨rfl,λj x c h1 h2=>?_⟩,e1,rfl⟩ ?_
 ·match j with
  | 0=>cases h1;cases h2;exact s1 _ _ ht
  | j+1=>simp at h1
 rintro m σ H2 ⟨j,ts,u,rfl,j0,j1,sH,fE,at2,eu,rfl⟩;have Qa:it (step n) j e∈ends n:=jL (λa ha=>lK hT ha) he j;refine bX (lH un) (ae 3<|ae 1 ⟨1,_,by decide,q5u eu<|sH _ _ ht,_,rfl,?_⟩);rw [q7x hN Qa he];have tl:=at2.1;rw [pc] at tl
 by_cases c:it (step n) j e=e
 ·rw [BW c];have jk:j=k:=by
   rcases Cy j k with h | h
   ·exact absurd c<|pk.first j j0 h
   ·omega
  subst jk;refine bp<|bY<|ae 2<|q l ts H2 sH hl fE ?_;unfold face;rw [Nu pk];exact at2
 ·rw [BX c];have jk:j < k:=by
   rcases Cy j k with h | h
   ·exact h
   ·have:j=k:=by omega
    subst this;exact absurd pk.back c
  refine a9 (eB<|jn<|ae 2 ⟨l,rfl,⟨_,fE⟩,ae 3 ⟨_,fE,by rw [Aa];exact cb (by omega),?_⟩⟩);have nj:aj H (upd H2 l<|.lst<|ts.map V.ref++[.ref u]):=dN sH hl;have Qb:(upd H2 l<|.lst<|ts.map V.ref++[.ref u]) l=some (.lst<|(ts++[u]).map V.ref):=by rw [aw,Am];rfl
  have kt:∀ b p' j',H2 b=some (Tn p' j')->(upd H2 l<|.lst<|ts.map V.ref++[.ref u]) b=some (Tn p' j'):=λb p' j' h=>by
   rw [aq<|bN h fE λz=>nomatch z];exact h
  generalize upd H2 l (.lst<|ts.map V.ref++[.ref u])=H3 at nj Qb kt;obtain⟨v2,g4,e4⟩:=P' nj Qa<|kt _ _ _ eu;refine aN 3 nd<|mR hu<|ae 0<|ae 3 ⟨dl,.ref v2,rfl,g4,?_⟩;refine aH ⟨k - (j+1),by omega,j+1,ts++[u],v2,rfl,Em _,jk,nj,Qb,?_,e4,rfl⟩;rw [Nw];refine(at2.keep kt).append ⟨rfl,λj x c h1 h2=>?_⟩
  match j with
  | 0=>cases h1;cases h2;exact kt _ _ _ eu
  | j+1=>simp at h1
abbrev NFs:List Str:=["rows","ends","steps","told","faces","first","face","end"]
theorem uV:ao NFs ["rows"] (aW CD):=⟨rfl,rfl,rfl,by decide +kernel,rfl,by decide +kernel,by decide +kernel⟩
structure Told(n:Net)(ks:List<|List Key)(tl:List Nt.End):Prop where
 gy:ks.Nodup
 mem:∀ e∈ends n,key n e∈ks↔e∈tl
 of:∀ k∈ks,∃ e∈ends n,k=key n e
theorem Told.len{n:Net}{ks:List (List Key)}{tl:List Nt.End}(h:Told n ks tl):ks.length<=(ends n).length:=by
 have:=h.gy.length_le_of_subset (l₂:=(ends n).map<|key n) λk hk=>by
  obtain⟨e,he,rfl⟩:=h.of k hk;exact Al.mpr ⟨e,he,rfl⟩
 rw [Aa] at this;exact this
open Classical in
theorem Told.add{n:Net}(hN:(n.map (·.1)).Nodup){ks:List (List Key)}{tl:List Nt.End}(h:Told n ks tl){e:Nt.End}(he:e∈ends n):Told n (if key n e∈ks then ks else key n e :: ks) (tl++[e]):=by
 have inj:∀{a b:Nt.End},a∈ends n->b∈ends n->key n a=key n b->a=b:=λ{a b} ha hb k=>by
  obtain⟨z1,h1⟩:=ag.mp ha;obtain⟨z2,h2⟩:=ag.mp hb;exact rA hN (eW h1) (eW h2) k
 by_cases c:key n e∈ks
 ·rw [BR c];refine⟨h.gy,λa ha=>?_,h.of⟩;rw [h.mem a ha,An,Ag];exact⟨λk=> .inl k,λk=>by
   rcases k with k | k
   ·exact k
   ·rw [k];exact(h.mem e he).mp c⟩
 ·rw [BK c];refine⟨Bn.mpr ⟨c,h.gy⟩,λa ha=>?_,λk hk=>?_⟩
  ·rw [Ai,h.mem a ha,An,Ag]
   constructor
   ·rintro (k | k)
    ·exact .inr<|inj ha he k
    ·exact .inl k
   ·rintro (k | k)
    ·exact .inr k
    ·exact .inl<|by rw [k]
  ·rcases Ai.mp hk with k1 | k1
   ·exact⟨e,he,k1⟩
   ·exact h.of k k1
open Classical in
theorem k8q{f:Addr}{fd:FuncData}(F:bM K "faces_of" "faces_of" CD f fd)(T:Txt mg)
  (GO:aV P w K mg base 3 "ends_in_order" ["rows"] FY)
  (GL:aV P w K mg base 3 "left_steps" ["rows"]<|pP 1)
  (GF:aV P w K mg base 3 "face_from" ["steps","first"] pU) :
  aD P w K mg base bP 4 f fd ["rows"] Hi:=by
 refine F.gb uV (λvs H Q E h=>?_) λb0 H vs Q E hr h=>?_
 ·obtain⟨R,as,n,rfl,_⟩:=h;rfl
 obtain⟨R,as,n,rfl,hR,hN,hT,hn,ni,q⟩:=h;have nd:=uV.nd;have EV:=g5 n;have hu:=hr.u1;show Run _ _ _ [some<|.ref R,none,none,none,none,none,none,none] H;refine aN 1 nd (bZ GO hr<|ai<|ae 0<|au ⟨R,as,n,rfl,hR,hn,by omega,λU us H1 s1 n1 e1 Hj=>?_⟩);have pV:us.length=(ends n).length:=by rw [Hj.1];unfold ends;rw [Aa]
 refine d9<|mF<|AJ<|ae 1 (v:= .ref U) ⟨!(us.map V.ref).isEmpty,Or.inl ⟨_,al.of e1,rfl⟩,?_⟩;rw [Bool.not_not]
 by_cases hb:ends n=[]
 ·have zO:us=[]:=Bf.mp (by rw [pV,hb];rfl);subst zO;refine a9<|bY<|cO<|ai<|cO<|au ⟨Z0,λl hl=>au ⟨Z1,λL hL=>?_⟩⟩;have s2:=aJ hl<|.lst [];have s3:=aJ hL<|.lst [.ref l];refine q L [l] _ ((s1.trans s2).trans s3) ((s1.trans s2).free hL) ?_ λl' iX=>by rw [Ag.mp iX];exact s1.free hl
  unfold jq;rw [BR hb];refine⟨aw,rfl,by simp,λhm=>?_,λj l' w h1 h2=>?_⟩
  ·rw [Ag.mp hm,aw] at hL;cases hL
  ·match j with
   | 0=>cases h1;cases h2;exact⟨[],s3 _ _ aw,rfl,λj t e h=>by simp at h⟩
   | j+1=>simp at h1
 have aX:us.map V.ref≠[]:=λh=>hb (Bf.mp<|by have:=CG List.length h;rw [Aa,pV] at this;exact this);have hem:(us.map V.ref).isEmpty=false:=by
  cases h:us.map V.ref with
  | nil=>exact absurd h aX
  | cons a r=>rfl
 rw [hem];refine bp<|aH ?_;refine aN 2 nd (bZ GL hr<|ai<|ae 0<|au ⟨R,as,n,rfl,hR.same s1,hN,hT,hn,by omega,λdl kl H2 s2 n2 e2 v2=>?_⟩);refine aN 3 nd<|q0g T.tU λD hD=>?_;refine aN 4 nd<|cO<|au ⟨Z0,λL hL=>?_⟩;have hSL:cA n H2 dl 1:=⟨kl,e2,v2⟩;have pW:=s1.trans s2;have Hk:L≠D:=λe=>by rw [e,aw] at hL;cases hL
 have lV:H2 L=none:=by rw [aq Hk] at hL;exact hL
 have F1:=g8 pW hD;have jU:=g8 pW lV;have sB:aj H2 (upd (upd H2 D<|jv P w D []) L<|.lst []):=(aJ hD _).trans<|aJ hL _;have uW:bV P w (upd (upd H2 D<|jv P w D []) L<|.lst []) D []:=pT.same<|aJ hL _;have yd:(upd (upd H2 D<|jv P w D []) L<|.lst []) L=some (.lst []):=aw;have uX:=hSL.same sB;have Hl:=sB _ _<|s2 _ _ e1;have uY:∀(j:Nat) (t:Addr) (p:Str×Nt.End),us[j]?=some t->(bw n)[j]?=some p->(upd (upd H2 D<|jv P w D []) L<|.lst []) t=some (TN n p.2):=λj t p h1 h2=>sB _ _<|s2 _ _<|Hj.2 j t p h1 h2;show Run _ _ _ [some<|.ref R,some<|.ref U,some<|.ref dl,some<|.ref D,some<|.ref L,none,none,none] (upd (upd H2 D<|jv P w D []) L<|.lst []);generalize upd (upd H2 D<|jv P w D []) L (.lst [])=H5 at sB uW yd uX Hl uY;have Qc:=pW.trans sB;have nUL:U≠L:=bC (s2 _ _ e1) lV;have nUD:U≠D:=bC (s2 _ _ e1) hD;have tnD:∀{b p j},H5 b=some (Tn p j)->b≠D:=λh=>uW.ne h λφ z=>nomatch z;refine kg<|ae 1 ⟨U,rfl,⟨_,al.of Hl⟩,?_⟩;refine kh (xs:=us.map V.ref) (λi σ H'=>∃(ks:List<|List Key) (tl:List Nt.End) (ls:List Addr) (ws:List<|List Nt.End) (u1 u2 u3:Option V),(∀ b o,b≠D->b≠L->H5 b=some o->H' b=some o)/\bV P w H' D ks/\Told n ks tl /\
  jw n H' L ls ws/\(∀ l∈ls,H5 l=none)/\ls.length<=i/\ku n (ends n) []=ws++ku n ((ends n).drop i) tl/\σ=[some<|.ref R,some<|.ref U,some<|.ref dl,some<|.ref D,some<|.ref L,u1,u2,u3])
  ⟨[],[],[],[],_,_,_,λb o _ _ h=>h,uW,⟨Cd,λe _=>by simp,λk h=>by simp at h⟩,⟨yd,rfl,Cd,by simp,λj l w h=>by simp at h⟩,λl h=>by simp at h,Ak _,rfl,rfl⟩ ?_ ?_ ?_
 ·rintro i σ H' _ ⟨_,_,_,_,_,_,_,kp,_⟩;exact al.of<|kp _ _ nUD nUL Hl
 ·rintro i x σ H' hx ⟨ks,tl,ls,ws,u1,u2,u3,kp,tD,told,hW,hf,BO,uZ,rfl⟩;have hi:i < us.length:=by
   have:=(Ac.mp hx).1;rw [Aa] at this;exact this
  rw [Af,Ab hi] at hx;cases hx;have Qd:i < (bw n).length:=by have:=Hj.1;omega
  have Qe:H5 us[i]=some (TN n (bw n)[i].2):=uY i us[i] (bw n)[i] (Ab hi)<|Ab Qd;have Hm:=q20<|Ab Qd;generalize (bw n)[i].2=e at Qe Hm;have he:e∈ends n:=Aq Hm;have nk:(ends n).drop i=e :: (ends n).drop (i+1):=by
   have Qf:i < (ends n).length:=by omega
   rw [RB Qf]
   congr 1
   have:=Ab Qf;rw [Hm] at this;exact(Option.some.inj this).symm
  have Qg:∀{b p j},H5 b=some (Tn p j)->H' b=some (Tn p j):=λ{b p j} h=>kp _ _ (tnD h) (bN h yd λz=>nomatch z) h;have eX:=Qg Qe;have cR:cA n H' dl 1:=by
   obtain⟨kvs,a,b⟩:=uX;exact⟨kvs,kp _ _ (uW.ne a λφ z=>nomatch z) (bN a yd λz=>nomatch z) a,λe he=>let ⟨u,p,r⟩:=b e he;⟨u,p,Qg r⟩⟩
  refine bx 5 nd ?_;refine d9<|bX (j8g hu)<|ae 5<|ae 3 ⟨key n e,us[i],D,ks,rfl,rfl,eX,tD,_,rfl,?_⟩;refine iS (λc=>?_) λc=>?_
  ·have hz:key n e∉ks:=BZ c;have va:e∉tl:=λh=>hz<|(told.mem e he).mpr h;refine aN 6 nd (bZ GF hr<|ai<|ae 2<|ai<|ae 5<|au ⟨dl,us[i],n,e,rfl,cR,hN,hT,by omega,he,eX,λl ts H6 s6 n6 e6 at6=>?_⟩);have ye:=s6 _ _ hW.lst;have tD6:=tD.same s6;have Hn:L≠l:=bC hW.lst n6;have pI:D≠l:=λk=>tD.some (by rw [k];exact n6);refine eB (jn<|ae 4 ⟨L,rfl,⟨_,ye⟩,ae 6 ⟨_,ye,by rw [Aa];exact cb (by omega),?_⟩⟩);have k7:∀ b o,b≠L->H6 b=some o->(upd H6 L<|.lst<|ls.map V.ref++[.ref l]) b=some o:=λb o hb h=>by rw [aq hb];exact h
   have Qh:(upd H6 L<|.lst<|ls.map V.ref++[.ref l]) L=some (.lst<|ls.map V.ref++[.ref l]):=aw;have yf:bV P w (upd H6 L<|.lst<|ls.map V.ref++[.ref l]) D ks:=tD6.keep (by rw [aq<|CJ Hk]) λb xs h=>by rw [aq<|bN h ye λz=>nomatch z];exact h
   generalize upd H6 L (.lst<|ls.map V.ref++[.ref l])=H7 at k7 Qh yf;have Qi:∀ t p j,H6 t=some (Tn p j)->H7 t=some (Tn p j):=λt p j h=>k7 _ _ (bN h ye λz=>nomatch z) h;have e7:=k7 _ _ (CJ Hn) e6;have Ho:=at6.keep Qi;have Hq:l∉ls:=λhm=>by
    obtain⟨j,hj⟩:=Br hm;have hlen:=hW.len;have hjw:j < ws.length:=by have:=(Ac.mp hj).1;omega
    obtain⟨_,a,_⟩:=hW.at' j l ws[j] hj<|Ab hjw;rw [n6] at a;cases a
   have Hr:jw n H7 L (ls++[l]) (ws++[face n e]):=hW.snoc Qh (λa ha o ho=>k7 _ _ (λq=>hW.out<|q ▸ ha)<|s6 _ _ ho) (λt p j h=>Qi _ _ _<|s6 _ _ h) e7 Ho Hq Hn;have l57:H5 l=none:=by
    cases q5:H5 l with
    | none=>rfl
    | some o=>rw [kp _ _ (CJ pI) (CJ Hn) q5] at n6;cases n6
   have Qj:∀ a∈ls++[l],H5 a=none:=λa ha=>by
    rcases An.mp ha with ha | ha
    ·exact hf a ha
    ·rw [Ag.mp ha];exact l57
   have ui:∀ b o,b≠D->b≠L->H5 b=some o->H7 b=some o:=λb o h1 h2 h=>k7 _ _ h2<|s6 _ _<|kp b o h1 h2 h;have Hs:(ls++[l]).length<=i+1:=by rw [Ae];show ls.length+1<=_;omega
   have Ht:ku n (ends n) []=(ws++[face n e])++ku n ((ends n).drop<|i+1) (tl++face n e):=by
    rw [uZ,nk];show ws++(if e∈tl then _ else _)=_;rw [BK va,Ba];rfl
   have hev:=D7 hT he;have lts:=Ho.1;refine kg<|ae 6 ⟨l,rfl,⟨_,al.of e7⟩,?_⟩;refine kh (xs:=ts.map V.ref) (λm σ H9=>∃(rG:List<|List Key) (u3:Option V),(∀ b o,b≠D->H7 b=some o->H9 b=some o)/\bV P w H9 D rG/\Told n rG (tl++(face n e).take m) /\
    σ=[some<|.ref R,some<|.ref U,some<|.ref dl,some<|.ref D,some<|.ref L,some<|.ref us[i],some<|.ref l,u3]) ⟨ks,_,λb o _ h=>h,yf,by rw [List.take_zero,Bj];exact told,rfl⟩ ?_ ?_ ?_
   ·rintro m σ H9 _ ⟨_,_,k9,_⟩;exact al.of<|k9 _ _ (CJ pI) e7
   ·rintro m x σ H9 hx ⟨rG,u3,k9,yg,gC,rfl⟩;rw [Af,Av] at hx;obtain⟨t,Qk,rfl⟩:=hx;have hmf:m < (face n e).length:=by have:=(Ac.mp Qk).1;omega
    have yh:(face n e)[m]?=some (face n e)[m]:=Ab hmf;have hc:=hev _<|Aq yh;have pX:(face n e).take (m+1)=(face n e).take m++[(face n e)[m]]:=by rw [By,yh];rfl
    have yi:=Ho.2 m t _ Qk yh;generalize (face n e)[m]=c9 at yh hc pX yi;have nD9:t≠D:=λk=>by rw [k] at yi;exact(yf.ne yi λφ z=>nomatch z) rfl
    have ht9:=k9 _ _ nD9 yi;have hle:=gC.len;refine bx 7 nd ?_;refine eB (q3d hu<|ae 3 ⟨D,rfl,⟨_,yg⟩,ae 7 ⟨key n c9,t,rG,rfl,ht9,yg,by omega,λoo Hu=>aH ⟨_,_,λb o hb h=>by rw [aq hb];exact k9 b o hb h,Hu,?_,rfl⟩⟩⟩);rw [pX,<- Ba];exact gC.add hN hc
   ·rintro σ H9 ⟨rG,u3,k9,yg,gC,rfl⟩;rw [Aa,lts,Bq] at gC;refine aH<|aH ⟨rG,tl++face n e,ls++[l],ws++[face n e],_,_,_,λb o h1 h2 h=>k9 b o h1<|ui b o h1 h2 h,yg,gC,?_,Qj,Hs,Ht,rfl⟩;have nd9:∀{b o},H7 b=some o->(∀ φ,o≠HO.ext φ)->b≠D:=λh ho=>yf.ne h ho;refine Hr.keep ?_ (λa ha o ho=>k9 a o ?_ ho) λt p j h=>k9 _ _ (nd9 h λφ z=>nomatch z) h
    ·rw [Hr.lst];exact k9 _ _ (CJ<|CJ Hk) Hr.lst
    ·intro k;have:=Qj a ha;rw [k] at this;exact uW.some this
  ·have hz:key n e∈ks:=CV λh=>c<|BW h;have va:e∈tl:=(told.mem e he).mp hz;refine aH (aH ⟨ks,tl,ls,ws,_,_,_,kp,tD,told,hW,hf,by omega,?_,rfl⟩);rw [uZ,nk];show ws++(if e∈tl then _ else _)=_;rw [BR va]
 ·rintro σ H' ⟨ks,tl,ls,ws,u1,u2,u3,kp,tD,told,hW,hf,BO,uZ,rfl⟩;rw [Aa,pV,List.drop_length] at uZ;have hw2:jq n=ws:=by
   unfold jq;rw [BK hb,uZ];exact Bj _
  have sF:aj H H':=λb o h=>kp b o (bC h F1) (bC h jU)<|Qc _ _ h;refine bY (ae 4<|q L ls H' sF jU (by rw [hw2];exact hW) λl hl=>?_);exact Qc.free<|hf l hl
end
end B4
namespace B4
open PySem L2 Nt bK
abbrev T3(x:Lk):HO:= .tup [.str x.1,.str x.2.1,.str x.2.2]
def l7(H:Hp)(us:List Addr)(ls:List Lk):Prop:=us.length=ls.length/\∀(j:Nat) u x,us[j]?=some u->ls[j]?=some x->H u=some (T3 x)
theorem l7.keep{H H':Hp}{us:List Addr}{ls:List Lk}(h:l7 H us ls)(k:∀ t xs,H t=some (.tup xs)->H' t=some (.tup xs)):l7 H' us ls:=⟨h.1,λj u x h1 h2=>k _ _<|h.2 j u x h1 h2⟩
theorem l7.snoc{H:Hp}{us:List Addr}{ls:List Lk}{u:Addr}{x:Lk}(h:l7 H us ls)(hu:H u=some (T3 x)):l7 H (us++[u]) (ls++[x]):=by
 refine⟨by rw [Ae,Ae,h.1];rfl,λj v y h1 h2=>?_⟩;have hl:=h.1
 by_cases hj:j < us.length
 ·rw [Ay hj] at h1;rw [Ay<|by omega] at h2;exact h.2 j v y h1 h2
 ·rw [Bd<|by omega] at h1 h2;have gM:j - us.length=0:=by
   have:=(Ac.mp h1).1;simp at this;omega
  rw [gM] at h1;rw [<- hl,gM] at h2;cases h1;cases h2;exact hu
def Hv(ls:List Lk):Prop:=ls.Pairwise λx y=>x.1.cps.toList < y.1.cps.toList
def Hw:Sp:=λvs H Q _=>∃(R:Addr) (as:List<|Addr×Addr) (n:Net),vs=[.ref R]/\ah H R as n/\aC n/\n.length<=1000/\(af n).length<=60 /\
 ∀(L:Addr) (us:List Addr) (ls:List Lk) (H':Hp),aj H H'->H L=none->H' L=some (.lst<|us.map V.ref)->l7 H' us ls->Hv ls->(∀ x,x∈ls↔pv n x)->ls.length<=60->Q (.ref L) H'
theorem k79{n:Net}(T:aC n){r p:Nat}{z:Str}(hr:r < n.length)(hz:(row n r)[p]?=some z):(b9 (bw (n.take r)++bL r ((row n r).take p) 0) z).length<=1:=by
 obtain⟨rest,h⟩:=xV hr hz;have h1:b9 (bw n) z=b9 (bw (n.take r)++bL r ((row n r).take p) 0) z++(r,p) :: b9 rest z:=by
  rw [h];unfold b9;rw [QM,Am,List.filter_cons_of_pos<|by simp];rfl
 have h2:(b9 (bw n) z).length=2:=by
  have:=tM n z;rw [T z<|fk (e:=(r,p)) hz] at this;exact this
 rw [h1,Ae,Ao] at h2;omega
section
variable{P:Program}{w:World}{K:PySem.W.Frag}{mg:Str->Option Value}{base:Heap}
abbrev NLk:List Str:=["rows","met","links","point","ties","tie"]
theorem vb:ao NLk ["rows"] (aW CL):=⟨rfl,rfl,rfl,by decide +kernel,rfl,by decide +kernel,by decide +kernel⟩
theorem k8f{f:Addr}{fd:FuncData}(F:bM K "links_of" "links_of" CL f fd)(T:Txt mg):aD P w K mg base bP 1 f fd ["rows"] Hw:=by
 refine F.gb vb (λvs H Q E h=>?_) λb0 H vs Q E hr h=>?_
 ·obtain⟨R,as,n,rfl,_⟩:=h;rfl
 obtain⟨R,as,n,rfl,hR,hT,hn,ni,q⟩:=h;have nd:=vb.nd;have bB:=hR.len;have hu:=hr.u1;show Run _ _ _ [some<|.ref R,none,none,none,none,none] H;refine aN 1 nd<|B7 λdm uw=>?_;refine aN 2 nd<|cO<|au ⟨Z0,λM hM=>?_⟩;have kE:M≠dm:=λe=>by rw [e,aw] at hM;cases hM
 have kF:H M=none:=by rw [aq kE] at hM;exact hM
 have s0:aj H (upd (upd H dm<|.dK []) M<|.lst []):=(aJ uw _).trans<|aJ hM _;have vd:(upd (upd H dm<|.dK []) M<|.lst []) dm=some (.dK []):=by rw [aq<|CJ kE,aw]
 have ve:(upd (upd H dm<|.dK []) M<|.lst []) M=some (.lst []):=aw;show Run _ _ _ [some<|.ref R,some<|.ref dm,some<|.ref M,none,none,none] (upd (upd H dm<|.dK []) M<|.lst []);generalize upd (upd H dm<|.dK []) M (.lst [])=H0 at s0 vd ve;have Hx:(bw n).length=(af n).length:=by rw [<- lJ n 0,Aa];rfl
 refine kg<|ae 0 ⟨R,rfl,⟨_,al.of<|s0 _ _ hR.lst⟩,kh (xs:=as.map λa=>V.ref a.1) (λr σ H'=>∃(kM:List<|Key×V) (us:List Addr) (ls:List Lk) (u1 u2 u3:Option V),aj H H'/\H' dm=some (.dK kM)/\H' M=some (.lst<|us.map V.ref)/\l7 H' us ls/\iG n (bw<|n.take r) kM ls/\σ=[some<|.ref R,some<|.ref dm,some<|.ref M,u1,u2,u3])
  ⟨[],[],[],_,_,_,s0,vd,ve,⟨rfl,λj u x h=>by simp at h⟩,iG.start n,rfl⟩ ?_ ?_ ?_⟩
 ·rintro r σ H' _ ⟨_,_,_,_,_,_,sm,_⟩;exact al.of<|sm _ _ hR.lst
 ·rintro r x σ H' hx ⟨kM,us,ls,u1,u2,u3,sm,ed,eM,fJ,I,rfl⟩;have hi:r < n.length:=by
   have:=(Ac.mp hx).1;rw [Aa] at this;omega
  obtain⟨a,ea,dP,et,el,er⟩:=(hR.same sm).at hi;rw [Af,ea] at hx;cases hx;refine kr rfl (aK.of et) (bx 3 nd<|bx 4 nd ?_);refine kg<|ae 4 ⟨a.2,rfl,⟨_,al.of el⟩,kh (xs:=(row n r).map V.str) (λp σ bU=>∃(kM:List<|Key×V) (us:List Addr) (ls:List Lk) (u3:Option V),aj H bU/\bU a.2=some (Ls<|row n r)/\bU dm=some (.dK kM)/\bU M=some (.lst<|us.map V.ref)/\l7 bU us ls/\iG n (bw (n.take r)++bL r ((row n r).take p) 0) kM ls/\σ=[some<|.ref R,some<|.ref dm,some<|.ref M,some<|.str n[r].1,some<|.ref a.2,u3])
   ⟨kM,us,ls,_,sm,el,ed,eM,fJ,by simpa [bL] using I,rfl⟩ ?_ ?_ ?_⟩
  ·rintro p σ bU _ ⟨_,_,_,_,_,e,_⟩;exact al.of e
  ·rintro p x σ bU hx ⟨kM,us,ls,u3,sm,el,ed,eM,fJ,I,rfl⟩;have hp:p < (row n r).length:=by
    have:=(Ac.mp hx).1;rw [Aa] at this;exact this
   have hz:(row n r)[p]?=some (row n r)[p]:=Ab hp;rw [Af,hz] at hx;cases hx;have jm:=tP (r:=r) hz;have hle:=k79 hT hi hz;have cg:(bw (n.take r)++bL r ((row n r).take p) 0).length<=60:=by
    obtain⟨rest,iJ⟩:=xV hi hz;have h1:=CG List.length iJ;simp only [Ae] at h1 ⊢;omega
   have lM:=I.dS;have lL:=I.lR;have lA:=fJ.1;have Ql:bh n r=n[r].1:=pq hi;have naM:a.2≠M:=λe=>by
    have:=(hR.tup r a n[r] ea<|Ab hi).2;rw [e,kF] at this;cases this
   generalize (row n r)[p]=z at hz jm hle;refine bx 5 nd ?_;refine d9<|MR hu<|ae 5<|ae 1 ⟨dm,_,rfl,bD.k (k:=Sum.inr z) ed,?_⟩;cases jt:b9 (bw (n.take r)++bL r ((row n r).take p) 0) z with
   | nil=>
    rw [I.m0 z jt];show if false=true then _ else _;rw [BK<|by decide];refine tL hu<|ae 3<|ae 1<|ae 5 ⟨dm,_,rfl,cw.k (k:=Sum.inr z) ed (cb<|by omega),aH<|aH ⟨_,us,ls,_,dN sm uw,?_,aw,?_,fJ.keep λt xs h=>?_,?_,rfl⟩⟩
    ·rw [aq<|bN el ed λz=>nomatch z];exact el
    ·rw [aq kE];exact eM
    ·rw [aq<|bN h ed λz=>nomatch z];exact h
    ·rw [jm,<- Ba];have:=I.new (e:=(r,p)) jt;show iG n _ (putK kM (Sum.inr z)<|.str n[r].1) ls;rw [<- Ql];exact this
   | cons b rest=>
    have hr0:rest=[]:=by
     rw [jt] at hle;exact Bf.mp<|by have:rest.length+1<=1:=hle;omega
    subst hr0;have vm:=I.m1 z b [] jt;rw [vm];show if true=true then _ else _;rw [BR rfl];refine eB (jn<|ae 2 ⟨M,rfl,⟨_,eM⟩,cM<|ai<|ae 5<|ai<|mR hu<|ae 1<|ae 5 ⟨dm,.str<|bh n b.1,rfl,by rw [<- vm];exact bD.k (k:=Sum.inr z) ed,ai<|ae 3<|au ⟨(by show 3<=sizeLine;decide),λt ht=>?_⟩⟩⟩);have sT:=aJ ht<|.tup [.str z,.str<|bh n b.1,.str n[r].1];have ntM:t≠M:=λe=>by rw [e,eM] at ht;cases ht
    have x8:(upd bU t<|.tup [.str z,.str<|bh n b.1,.str n[r].1]) t=some (T3 (z,bh n b.1,bh n (r,p).1)):=by
     rw [aw];show _=some (HO.tup [.str z,.str<|bh n b.1,.str<|bh n r]);rw [Ql]
    have kT:∀ c xs,(upd bU t<|.tup [.str z,.str<|bh n b.1,.str n[r].1]) c=some (.tup xs)->(upd (upd bU t<|.tup [.str z,.str<|bh n b.1,.str n[r].1]) M<|.lst<|us.map V.ref++[.ref t]) c=some (.tup xs):=λc xs h=>by
     rw [aq<|bN h (sT _ _ eM) λz=>nomatch z];exact h
    refine⟨_,sT _ _ eM,by rw [Aa];exact cb (by omega),aH<|aH ⟨kM,us++[t],ls++[(z,bh n b.1,bh n (r,p).1)],_,dN (sm.trans sT) kF,?_,?_,?_,?_,?_,rfl⟩⟩
    ·rw [aq naM];exact sT _ _ el
    ·rw [aq<|CJ kE];exact sT _ _ ed
    ·rw [aw,Am];rfl
    ·exact((fJ.keep λc xs h=>sT _ _ h).snoc x8).keep kT
    ·rw [jm,<- Ba];exact I.old (e:=(r,p)) jt
  ·rintro σ bU ⟨kM,us,ls,u3,sm,_,ed,eM,fJ,I,rfl⟩;rw [Aa,Bq] at I;refine aH ⟨kM,us,ls,_,_,_,sm,ed,eM,fJ,?_,rfl⟩;rw [tO hi];exact I
 ·rintro σ H' ⟨kM,us,ls,u1,u2,u3,sm,ed,eM,fJ,I,rfl⟩;rw [Aa,bB,Bq] at I;have lL:=I.lR;have lA:=fJ.1;have aO:us.length < 64:=by omega
  refine bY (bJ j9r T.sorted KJ (ai (ae 2 (au ⟨M,us,ls.map (·.1),rfl,al.of eM,by rw [Aa];exact lA,I.gy,aO,λi t z h1 h2=>?_,λL ps hL hp hs=>?_⟩))))
  ·rw [Af,Av] at h2;obtain⟨x,hx,rfl⟩:=h2;exact⟨_,fJ.2 i t x h1 hx⟩
  have pick:∀ p∈ps,∃ x,x∈ls/\x.1=p.2/\H' p.1=some (T3 x):=λp lC=>by
   have hz:=hp.mem_iff.mp lC;obtain⟨i,hi⟩:=Br hz;rw [List.getElem?_zip_eq_some] at hi;obtain⟨h1,h2⟩:=hi;rw [Af,Av] at h2;obtain⟨x,hx,e⟩:=h2;exact⟨x,Aq hx,e,fJ.2 i _ x h1 hx⟩
  obtain⟨xs,gJ⟩:∃ xs:List Lk,xs.length=ps.length/\∀(j:Nat) p x,ps[j]?=some p->xs[j]?=some x->x∈ls/\x.1=p.2/\H' p.1=some (T3 x):=by
   clear hs hp
   induction ps with
   | nil=>exact⟨[],rfl,λj p x h=>by simp at h⟩
   | cons p r ih=>
    obtain⟨x,q1,q2,q3⟩:=pick p<|Ad ..;obtain⟨xs,l1,l2⟩:=ih λc hc=>pick c<|Aj _ hc;refine⟨x :: xs,by rw [Ao,Ao,l1],λj c y h1 h2=>?_⟩;cases j with
    | zero=>
     cases h1;cases h2;exact⟨q1,q2,q3⟩
    | succ j=>exact l2 j c y (by simpa using h1)<|by simpa using h2
  obtain⟨lx,gJ⟩:=gJ;have lp:ps.length=ls.length:=by rw [hp.length_eq,List.length_zip,Aa];omega
  have sL:=aJ hL<|.lst<|ps.map λp=> .ref p.1;have Qm:Hv xs:=by
   unfold Hv;rw [Bm];intro i j hi hj gY;have a1:=(gJ i ps[i] xs[i] (Ab<|by omega)<|Ab hi).2.1;have a2:=(gJ j ps[j] xs[j] (Ab<|by omega)<|Ab hj).2.1;rw [a1,a2];exact Bm.mp hs i j (by omega) (by omega) gY
  have pY:(xs.map (·.1)).Nodup:=by
   rw [Da,Eu];exact Qm.imp λh e=>by rw [e] at h;exact List.lt_irrefl _ h
  have ib:∀ x,x∈xs↔x∈ls:=λx=>by
   constructor
   ·intro h;obtain⟨j,hj⟩:=Br h;have qU:=(Ac.mp hj).1;exact(gJ j ps[j] x (Ab<|by omega) hj).1
   ·intro h;refine CV λhn=>?_;have Hy:xs.Nodup:=by
     rw [Da] at pY ⊢;rw [Eu] at pY;exact pY.imp λh e=>h<|by rw [e]
    have:=aF Hy (b:=ls.erase x) λz hz=>by
     have vf:z∈ls:=by
      obtain⟨j,hj⟩:=Br hz;have qU:=(Ac.mp hj).1;exact(gJ j ps[j] z (Ab<|by omega) hj).1
     exact(Es λe:z=x=>hn<|e ▸ hz).mpr vf
    rw [Ey h] at this;have:0 < ls.length:=Gf h;omega
  refine q L (ps.map (·.1)) xs _ (sm.trans sL) (g8 sm hL) (by rw [aw,Cf];rfl) ⟨by rw [Aa];omega,λj u x h1 h2=>?_⟩ Qm (λx=>by rw [ib x];exact I.whole hT x) (by omega);rw [Af,Av] at h1;obtain⟨p,pF,rfl⟩:=h1;exact sL _ _ (gJ j p x pF h2).2.2
abbrev Qn(x:Bl):HO:= .tup [.str x.1,.str x.2.1,.bl x.2.2]
def l8(H:Hp)(us:List Addr)(ls:List Bl):Prop:=us.length=ls.length/\∀(j:Nat) u x,us[j]?=some u->ls[j]?=some x->H u=some (Qn x)
theorem l8.same{H H':Hp}{us:List Addr}{ls:List Bl}(h:l8 H us ls)(s:aj H H'):l8 H' us ls:=⟨h.1,λj u x h1 h2=>s _ _<|h.2 j u x h1 h2⟩
def Hz:Sp:=λvs H Q _=>∃(f:Str) (L:Addr) (us:List Addr) (ls:List Bl),vs=[.str f,.ref L]/\H L=some (.lst<|us.map V.ref)/\l8 H us ls/\ls.length<=60 /\
 ∀(d:Addr) (kvs:List<|Key×V) (H':Hp),aj H H'->H d=none->H' d=some (.dK kvs)->dj ls f none kvs []->Q (.ref d) H'
abbrev NSp:List Str:=["first","links","odds","waiting","here","one","other","odd","start","goal"]
theorem vg:ao NSp ["first","links"] (aW CM):=⟨rfl,rfl,rfl,by decide +kernel,rfl,by decide +kernel,by decide +kernel⟩
theorem k6m(wt:List Str)(h:Str):(((wt++[h]).map V.str)[((wt++[h]).map V.str).length - 1]?=some (.str h))/\((wt++[h]).map V.str).dropLast=wt.map V.str:=by
 rw [Am]
 constructor
 ·simp
 ·exact List.dropLast_concat
theorem k4t{f:Addr}{fd:FuncData}(F:bM K "spread" "spread" CM f fd)(T:Txt mg):aD P w K mg base bP 1 f fd ["first","links"] Hz:=by
 refine F.gb vg (λvs H Q E h=>?_) λb0 H vs Q E hr h=>?_
 ·obtain⟨f,L,us,ls,rfl,_⟩:=h;rfl
 obtain⟨ft,L,us,ls,rfl,hL,fJ,h60,q⟩:=h;have nd:=vg.nd;have hu:=hr.u1;have pV:=fJ.1;show Run _ _ _ [some<|.str ft,some<|.ref L,none,none,none,none,none,none,none,none] H;refine aN 2 nd<|q0n hu λd hd=>ae 0<|fF ⟨_,cw.k (k:=Sum.inr ft) aw<|cb<|Bv _,?_⟩;rw [qk];refine aN 3 nd<|cO<|ai<|ae 0<|au ⟨Z1,λM hM=>?_⟩;have kE:M≠d:=λe=>by rw [e,aw] at hM;cases hM
 have kF:H M=none:=by rw [aq kE] at hM;exact hM
 have s0:aj H (upd (upd H d<|.dK<|putK [] (Sum.inr ft)<|.bl false) M<|.lst [.str ft]):=(aJ hd _).trans<|aJ hM _;have vd:(upd (upd H d<|.dK<|putK [] (Sum.inr ft)<|.bl false) M<|.lst [.str ft]) d=some (.dK<|putK [] (Sum.inr ft)<|.bl false):=by rw [aq<|CJ kE,aw]
 have ve:(upd (upd H d<|.dK<|putK [] (Sum.inr ft)<|.bl false) M<|.lst [.str ft]) M=some (Ls [ft]):=aw;show Run _ _ _ [some<|.str ft,some<|.ref L,some<|.ref d,some<|.ref M,none,none,none,none,none,none] (upd (upd H d<|.dK<|putK [] (Sum.inr ft)<|.bl false) M<|.lst [.str ft]);generalize upd (upd H d<|.dK<|putK [] (Sum.inr ft)<|.bl false) M (.lst [.str ft])=H0 at s0 vd ve;refine wN (λm σ H'=>m<=1000/\∃(kvs:List<|Key×V) (wt:List Str) (u4 u5 u6 u7 u8 u9:Option V),aj H H'/\H' d=some (.dK kvs)/\H' M=some (Ls wt)/\dj ls ft none kvs wt/\m=2 * (1+2 * ls.length - kvs.length)+wt.length /\
   σ=[some<|.str ft,some<|.ref L,some<|.ref d,some<|.ref M,u4,u5,u6,u7,u8,u9]) (m0:=2 * (1+2 * ls.length - 1)+1)
  ⟨by omega,_,[ft],_,_,_,_,_,_,s0,vd,ve,dj.start ls ft,rfl,rfl⟩ ?_
 rintro m σ H1 ⟨hm,kvs,wt,u4,u5,u6,u7,u8,u9,s1,Qo,HE,I,em,rfl⟩;refine AJ<|ae 3 (v:= .ref M) ⟨!wt.isEmpty,Or.inl ⟨wt.map V.str,al.of HE,by cases wt <;> rfl⟩,?_⟩
 rcases List.eq_nil_or_concat wt with e | ⟨j3,hh,e⟩
 ·subst e;rw [BK<|by decide];exact bY<|ae 2<|q d kvs H1 s1 hd Qo I
 rw [List.concat_eq_append] at e;subst e;rw [BR<|by cases j3 <;> rfl];obtain⟨hy,iy⟩:=k6m j3 hh;refine aN 4 nd<|Wn CP NK NQ Uv<|ae 3 (v:= .ref M) ⟨Or.inl ⟨rfl,_,al.of HE⟩,M,_,.str hh,rfl,rfl,HE,hy,?_⟩;rw [iy];have I1:=I.pop;have lw:(j3++[hh]).length=j3.length+1:=by rw [Ae];rfl
 rw [lw] at em;have Qp:∀{H':Hp},aj H H'->H' L=some (.lst<|us.map V.ref):=λs=>s _ _ hL;show Run _ _ _ [some<|.str ft,some<|.ref L,some<|.ref d,some<|.ref M,some<|.str hh,u5,u6,u7,u8,u9] (upd H1 M<|Ls j3);have s2:aj H (upd H1 M<|Ls j3):=dN s1 kF;have Qq:(upd H1 M<|Ls j3) d=some (.dK kvs):=by rw [aq<|CJ kE];exact Qo
 have Qr:(upd H1 M<|Ls j3) M=some (Ls j3):=aw;generalize upd H1 M (Ls j3)=H2 at s2 Qq Qr;refine kg<|ae 1 ⟨L,rfl,⟨_,al.of<|Qp s2⟩,kh (xs:=us.map V.ref) (λj σ H'=>∃(kvs:List<|Key×V) (wt:List Str) (u5 u6 u7 u8 u9:Option V),aj H H'/\H' d=some (.dK kvs)/\H' M=some (Ls wt)/\dj ls ft (some hh) kvs wt/\2 * (1+2 * ls.length - kvs.length)+wt.length < m /\
   (∀ l∈ls.take j,(l.1=hh->has kvs l.2.1)/\(l.2.1=hh->has kvs l.1))/\σ=[some<|.str ft,some<|.ref L,some<|.ref d,some<|.ref M,some<|.str hh,u5,u6,u7,u8,u9])
  ⟨kvs,j3,_,_,_,_,_,s2,Qq,Qr,I1,by omega,λl hl=>by simp at hl,rfl⟩ ?_ ?_ ?_⟩
 ·rintro j σ H' _ ⟨_,_,_,_,_,_,_,sm,_⟩;exact al.of<|Qp sm
 ·rintro j x σ H3 hx ⟨kvs,wt,u5,u6,u7,u8,u9,s3,ed,eM,I,aO,cg,rfl⟩;rw [Af,Av] at hx;obtain⟨u,lN,rfl⟩:=hx;have hj:j < ls.length:=by
   have:=(Ac.mp lN).1;omega
  have Qs:ls[j]?=some ls[j]:=Ab hj;have pQ:=(fJ.same s3).2 j u _ lN Qs;have ib:ls[j]∈ls:=Cb hj;have sr:∀ l∈ls.take (j+1),l∈ls.take j\/l=ls[j]:=λl hl=>by
   rw [By,Qs] at hl
   rcases An.mp hl with q | q
   ·exact .inl q
   ·exact .inr<|by simpa using q
  generalize ls[j]=lx at pQ ib sr;obtain⟨on,ot,od⟩:=lx;refine Pq rfl (aK.of pQ) (bx 5 nd<|bx 6 nd<|bx 7 nd ?_);show Run _ _ _ [some<|.str ft,some<|.ref L,some<|.ref d,some<|.ref M,some<|.str hh,some<|.str on,some<|.str ot,some<|.bl od,u8,u9] H3;refine AK<|cM<|ai<|cM<|ai<|ae 5<|ai<|ae 6<|au ⟨Z2,λt1 jT=>?_⟩;refine ai<|cM<|ai<|ae 6<|ai<|ae 5<|au ⟨Z2,λt2 fH=>au ⟨Z2,λtt htt=>?_⟩⟩;have n1:=aJ jT<|.tup [.str on,.str ot];have n2:=aJ fH<|.tup [.str ot,.str on];have n3:=aJ htt<|.tup [.ref t1,.ref t2];have e1:=n3 _ _<|n2 _ _<|aw (H:=H3) (a:=t1) (o:= .tup [.str on,.str ot]);have e2:=n3 _ _<|aw (H:=upd H3 t1<|.tup [.str on,.str ot]) (a:=t2) (o:= .tup [.str ot,.str on]);have e3:=aw (H:=upd (upd H3 t1<|.tup [.str on,.str ot]) t2<|.tup [.str ot,.str on]) (a:=tt) (o:= .tup [.ref t1,.ref t2]);have n:=n1.trans<|n2.trans n3;refine⟨tt,rfl,⟨_,aK.of e3⟩,?_⟩;generalize upd (upd (upd H3 t1<|.tup [.str on,.str ot]) t2<|.tup [.str ot,.str on]) tt (.tup [.ref t1,.ref t2])=H4 at e1 e2 e3 n;refine AO (xs:=[.ref t1,.ref t2]) (λi σ H'=>∃(kvs:List<|Key×V) (wt:List Str) (u8 u9:Option V),aj H H'/\H' d=some (.dK kvs)/\H' M=some (Ls wt)/\H' t1=some (.tup [.str on,.str ot])/\H' t2=some (.tup [.str ot,.str on])/\H' tt=some (.tup [.ref t1,.ref t2])/\dj ls ft (some hh) kvs wt/\2 * (1+2 * ls.length - kvs.length)+wt.length < m /\
   (∀ l∈ls.take j,(l.1=hh->has kvs l.2.1)/\(l.2.1=hh->has kvs l.1))/\(0 < i->on=hh->has kvs ot)/\(1 < i->ot=hh->has kvs on)/\σ=[some<|.str ft,some<|.ref L,some<|.ref d,some<|.ref M,some<|.str hh,some<|.str on,some<|.str ot,some<|.bl od,u8,u9])
   ⟨kvs,wt,_,_,s3.trans n,n _ _ ed,n _ _ eM,e1,e2,e3,I,aO,cg,λh=>absurd h (by decide),λh=>absurd h (by decide),rfl⟩ ?_ ?_ ?_
  ·rintro i σ H' _ ⟨_,_,_,_,_,_,_,_,_,e,_⟩;exact aK.of e
  ·rintro i x σ H5 hx ⟨kvs,wt,u8,u9,s5,ed,eM,e1,e2,e3,I,aO,cg,d1,d2,rfl⟩;obtain⟨st,gl,t,rfl,et,HG,dk⟩:∃ st gl t,x = .ref t/\H5 t=some (.tup [.str st,.str gl])/\rk ls st gl od/\∀ i8,(∀ y,has kvs y->has i8 y)->(st=hh->has i8 gl)->(0 < i+1->on=hh->has i8 ot)/\(1 < i+1->ot=hh->has i8 on):=by
    match i with
    | 0=>
     cases hx;exact⟨on,ot,t1,rfl,e1,.inl ib,λi8 mo h=>⟨λ_=>h,λh=>absurd h<|by decide⟩⟩
    | 1=>
     cases hx;exact⟨ot,on,t2,rfl,e2,.inr ib,λi8 mo h=>⟨λ_ e=>mo _ (d1 (by decide) e),λ_=>h⟩⟩
    | i+2=>simp at hx
   refine kr rfl (aK.of et) (bx 8 nd<|bx 9 nd ?_);show Run _ _ _ [some<|.str ft,some<|.ref L,some<|.ref d,some<|.ref M,some<|.str hh,some<|.str on,some<|.str ot,some<|.bl od,some<|.str st,some<|.str gl] H5;have skip:(st=hh->has kvs gl)->∃(kvs:List<|Key×V) (wt:List Str) (u8 u9:Option V),aj H H5/\H5 d=some (.dK kvs)/\H5 M=some (Ls wt)/\H5 t1=some (.tup [.str on,.str ot])/\H5 t2=some (.tup [.str ot,.str on])/\H5 tt=some (.tup [.ref t1,.ref t2])/\dj ls ft (some hh) kvs wt/\2 * (1+2 * ls.length - kvs.length)+wt.length < m /\
     (∀ l∈ls.take j,(l.1=hh->has kvs l.2.1)/\(l.2.1=hh->has kvs l.1))/\(0 < i+1->on=hh->has kvs ot)/\(1 < i+1->ot=hh->has kvs on)/\[some<|V.str ft,some<|.ref L,some<|.ref d,some<|.ref M,some<|.str hh,some<|.str on,some<|.str ot,some<|.bl od,some<|.str st,some<|.str gl]=[some<|.str ft,some<|.ref L,some<|.ref d,some<|.ref M,some<|.str hh,some<|.str on,some<|.str ot,some<|.bl od,u8,u9]:=λh=>
    ⟨kvs,wt,_,_,s5,ed,eM,e1,e2,e3,I,aO,cg,(dk kvs (λ_ h=>h) h).1,(dk kvs (λ_ h=>h) h).2,rfl⟩
   refine d9<|iU<|oz<|bX dA<|ae 8<|ae 4 ⟨rfl,_,rfl,?_⟩
   by_cases cR:st=hh
   ·rw [BR<|BW<|by rw [cR]];refine oB<|Wu hu<|ae 9<|ae 2 ⟨d,_,rfl,bD.k (k:=Sum.inr gl) ed,?_⟩;cases hg:aB kvs (Sum.inr gl) with
    | some v=>
     show if false=true then _ else _;rw [BK<|by decide];exact aH<|aH<|skip λ_=>⟨v,hg⟩
    | none=>
     show if true=true then _ else _;rw [BR rfl];have hhh:has kvs hh:=by
      rcases I.Zh with q
      exact q
     obtain⟨v,hv⟩:=hhh;obtain⟨b,rfl,_⟩:=I.val hh v hv;subst cR;have I':=I.add (o:=od) hg hv HG;have lk:=I.len;have lk':=I'.len;have DZ:(putK kvs (Sum.inr gl)<|.bl<|b != od).length=kvs.length+1:=by
      have ub:=I.jS hg;have:=CG List.length<|EF kvs (Sum.inr gl)<|.bl<|b != od;rw [BK ub,Ae,Aa,Aa] at this;exact this
     refine tL hu (mE zp<|mR hu<|ae 2<|ae 4 ⟨d,.bl b,rfl,by rw [<- hv];exact bD.k (k:=Sum.inr st) ed,ae 7 ⟨rfl,?_⟩⟩);rw [zj];refine ae 2 (ae 9 ⟨d,_,rfl,cw.k (k:=Sum.inr gl) ed (cb<|by omega),?_⟩);have Qt:(upd H5 d<|.dK<|putK kvs (Sum.inr gl)<|.bl<|b != od) M=some (Ls wt):=by rw [aq kE];exact eM
     refine eB (jn<|ae 3 ⟨M,rfl,⟨_,Qt⟩,ae 9 ⟨_,Qt,by rw [Aa];exact cb (by omega),?_⟩⟩);have kT:∀ c xs,H5 c=some (.tup xs)->(upd (upd H5 d<|.dK<|putK kvs (Sum.inr gl)<|.bl<|b != od) M<|.lst<|wt.map V.str++[.str gl]) c=some (.tup xs):=λc xs h=>by
      rw [aq (bN h eM λz=>nomatch z),aq<|bN h ed λz=>nomatch z];exact h
     have mo:∀ y,has kvs y->has (putK kvs (Sum.inr gl)<|.bl<|b != od) y:=λy h=>ua h;have hn:=dk _ mo (λ_=>⟨.bl<|b != od,by rw [d8,BR rfl]⟩);refine aH<|aH ⟨_,wt++[gl],_,_,dN (dN s5 hd) kF,?_,?_,kT _ _ e1,kT _ _ e2,kT _ _ e3,I',?_,λl hl=>⟨λe=>mo _<|(cg l hl).1 e,λe=>mo _<|(cg l hl).2 e⟩,hn.1,hn.2,rfl⟩
     ·rw [aq<|CJ kE];exact aw
     ·rw [aw];show some (HO.lst<|wt.map V.str++[.str gl])=some (HO.lst<|(wt++[gl]).map V.str);rw [Am];rfl
     ·rw [DZ,Ae];rw [DZ] at lk';show _+(wt.length+1) < m;omega
   ·rw [BK λh=>cR<|V.str.inj<|BZ h];show if false=true then _ else _;rw [BK<|by decide];exact aH<|aH<|skip λh=>absurd h cR
  ·rintro σ H5 ⟨kvs,wt,u8,u9,s5,ed,eM,_,_,_,I,aO,cg,d1,d2,rfl⟩;refine aH ⟨kvs,wt,_,_,_,_,_,s5,ed,eM,I,aO,λl hl=>?_,rfl⟩
   rcases sr l hl with q | q
   ·exact cg l q
   ·subst q;exact⟨d1 (by show 0 < 2;decide),d2<|by show 1 < 2;decide⟩
 ·rintro σ H3 ⟨kvs,wt,u5,u6,u7,u8,u9,s3,ed,eM,I,aO,cg,rfl⟩;rw [Aa,pV,Bq] at cg;refine aH ⟨_,aO,by omega,kvs,wt,_,_,_,_,_,_,s3,ed,eM,I.close λy o ht=>?_,rfl,rfl⟩
  rcases ht with h | h
  ·exact(cg _ h).1 rfl
  ·exact(cg _ h).2 rfl
end
end B4
namespace L2
open PySem PySem.Spec PyProof.Rows
structure Xo(h:Heap)(e T:Addr)(C fl:Value):Prop where
 ex:∃ oe vs,h.get? e=some oe/\oe.cls=C/\oe.dict=none/\oe.data = .fields vs/\vs[1]?=some (.ref T)/\vs[2]?=some .none
 ne:T≠e
 tr:∃ oT ts,h.get? T=some oT/\oT.data = .fields ts/\ts[3]?=some fl
structure Kp(fs bad:List Addr)(h h':Heap):Prop where
 keep:∀ b o,h.get? b=some o->b∉fs->b∉bad->h'.get? b=some o
 slot:∀ b o,h.get? b=some o->b∈fs->∃ sl,h'.get? b=some {o with slots:=sl}
theorem j62(o:Obj)(f:Array Value->Array Value):(o.mapFields f).dict=o.dict:=by
 obtain⟨c,d,dt,sl⟩:=o;cases dt <;> rfl
section
variable{M:Model}{A:Around}{E:Value->Shared->Prop}{s:Shared}
theorem Qu{base:Heap}{env:Env}{outer:List Env}{L e:Addr}{oe:Obj}{vs:Array Value}{head:Value}{nx:Bool}{Q:Unit->Shared->Prop}(iw:A.frames=some (env :: outer))(hl:s.heap.FunFrames base<|env :: outer)(hf:env.frame=some L)
  (he:s.heap.get? e=some oe) (hd:oe.data = .fields vs) (nn:oe.dict=none) (h1:1 < vs.size) (h2:vs[2]?=some .none)
  (h:∀ h' T,s.heap.get? T=none->Xo h' e T oe.cls .none->Kp (dg<|env :: outer) [e] s.heap h'->Q () {s with heap:=h'}) :
  wpAny M A (do let a <- frameOf env;let pl <- entryPlaceOf L nx;let b <- EntryCells.newEntry head a .none (rawInt L) .none pl;setField (.ref e) 1 b) (λ_ s'=>wpAny M A (setFlight (.ref e) none) Q E s') E s:=by
 have Qv:e∉dg (env :: outer):=λhm=>by
  obtain⟨_,o,ho,hn⟩:=hl.mem hm;rw [he] at ho;cases ho;exact hn vs hd
 refine BJ<|wpAny_frameOf_fun iw hl hf λha sa=>?_;refine BJ<|wpAny_entryPlaceOf λpl ip=>?_;unfold EntryCells.newEntry newFields;refine BJ<|DR ?_<|ip.sizeOk5 _ _ _ _ _;generalize hT:({cls:= .type "traceback",dict:=none,data:= .fields ([head,.ref L,.none,rawInt L,.none]++(if pl.isEmpty then List.replicate 6 Value.none else pl)).toArray}:Obj)=oT;have ea:ha.get? e=some oe:=(sa.2.1 e Qv).trans he;have eb:(ha.push oT).get? e=some oe:=Ah _ ea;have tb:(ha.push oT).get? ha.objs.size=some oT:=Ar ha (by rw [<- hT];rfl);have HH:ha.objs.size≠e:=Cw<|As ea;refine DW eb hd h1 ?_;have dc:=KN hd (·.setIfInBounds 1 (Value.ref ha.objs.size));have ec:=Ch (Obj.mapFields (·.setIfInBounds 1 (Value.ref ha.objs.size))) eb<|JR dc;have tc:((ha.push oT).update e (Obj.mapFields (·.setIfInBounds 1 (Value.ref ha.objs.size)))).get? ha.objs.size=some oT:=(Bs _ _<|CJ HH).trans tb;unfold setFlight;refine BJ (HX ec dc (x:= .ref ha.objs.size) (by simp [h1]) ?_);rw [BR (show(Value.ref ha.objs.size != Value.none)=true from by simp)];have dT:oT.data = .fields ([head,.ref L,.none,rawInt L,.none]++(if pl.isEmpty then List.replicate 6 Value.none else pl)).toArray:=by rw [<- hT]
 have sz:3 < ([head,.ref L,.none,rawInt L,.none]++(if pl.isEmpty then List.replicate 6 Value.none else pl)).toArray.size:=by
  simp only [Au,Ae,Ao,Eb];omega
 refine DW tc dT sz<|h _ ha.objs.size (by
  cases hq:s.heap.get? ha.objs.size with
  | none=>rfl
  | some o=>
   obtain⟨sl,z⟩:=sa.2.2 _ o hq;exact absurd (As z)<|Ct _) ?_ ?_
 ·have dd:=KN dT (·.setIfInBounds 3 ((none:Option Addr).elim Value.none λf=>rawInt f));refine⟨⟨_,_,(Bs _ _ HH).trans ec,Obj.cls_mapFields _ _,by rw [j62];exact nn,dc,by simp [h1],by rw [Array.getElem?_setIfInBounds_ne<|by decide];exact h2⟩,HH,⟨_,_,Ch _ tc<|JR dd,dd,?_⟩⟩;rw [Fk sz];rfl
 ·have kp:∀ b o,b≠e->ha.get? b=some o->(((ha.push oT).update e (Obj.mapFields (·.setIfInBounds 1 (Value.ref ha.objs.size)))).update ha.objs.size (Obj.mapFields (·.setIfInBounds 3 ((none:Option Addr).elim Value.none λf=>rawInt f)))).get? b=some o:=λb o hb q=>by
   rw [Bs _ _<|Cw<|As q,Bs _ _<|CJ hb];exact Ah _ q
  refine⟨λb o q nf nb=>kp b o (λz=>nb<|by simp [z])<|(sa.2.1 b nf).trans q,λb o q hb=>?_⟩;obtain⟨sl,z⟩:=sa.2.2 b o q;exact⟨sl,kp b _ (λy=>Qv<|y ▸ hb) z⟩
theorem k8c{base:Heap}{env:Env}{outer:List Env}{L e:Addr}{oe:Obj}{vs:Array Value}{Q:Unit->Shared->Prop}(iw:A.frames=some (env :: outer))(hl:s.heap.FunFrames base<|env :: outer)(hf:env.frame=some L)
  (he:s.heap.get? e=some oe) (hd:oe.data = .fields vs) (nn:oe.dict=none) (h1:vs[1]?=some .none) (h2:vs[2]?=some .none)
  (h:∀ h' T,s.heap.get? T=none->Xo h' e T oe.cls .none->Kp (dg<|env :: outer) [e] s.heap h'->Q () {s with heap:=h'}) :
  wpAny M A (noteFrame (.ref e) env) (λ_ s'=>wpAny M A (setFlight (.ref e) none) Q E s') E s:=by
 unfold noteFrame;simp only [hf];refine BJ<|HX he hd h1 ?_;rw [BK<|by decide];exact Qu iw hl hf he hd nn (Ej.mp h1).1 h2 h
theorem q4k{base:Heap}{env:Env}{outer:List Env}{L e T:Addr}{C:Value}{Q:Unit->Shared->Prop}(iw:A.frames=some (env :: outer))(hl:s.heap.FunFrames base<|env :: outer)(hf:env.frame=some L)(x:Xo s.heap e T C .none)
  (h:∀ h' T',s.heap.get? T'=none->Xo h' e T' C .none->Kp (dg<|env :: outer) [e,T] s.heap h'->Q () {s with heap:=h'}) :
  wpAny M A (noteFrame (.ref e) env) (λ_ s'=>wpAny M A (setFlight (.ref e) none) Q E s') E s:=by
 obtain⟨⟨oe,vs,he,hc,nn,hd,h1,h2⟩,aX,⟨oT,ts,hT,dT,h3⟩⟩:=x;subst hc;unfold noteFrame;simp only [hf];refine BJ<|HX he hd h1 ?_;rw [BR (show(Value.ref T != Value.none)=true from by simp)];refine BJ<|HX hT dT h3 ?_;rw [BK (show ¬((Value.none == rawInt L)=true) from by simp [rawInt])];refine BJ<|DW hT dT (Ej.mp h3).1 ?_;have nT:∀ b,b≠T->(s.heap.update T (Obj.mapFields (·.setIfInBounds 3 Value.none))).get? b=s.heap.get? b:=λb hb=>Bs _ _<|CJ hb;have Qw:∀ b o,s.heap.get? b=some o->(∀ vs,o.data ≠ .fields vs)->b≠T:=λb o q hn z=>by
  rw [z,hT] at q;cases q;exact hn ts dT
 have nf:T∉dg (env :: outer):=λhm=>by
  obtain⟨_,o,ho,hn⟩:=hl.mem hm;exact Qw T o ho hn rfl
 refine Qu iw (hl.of_keeps λb o q hn=>⟨o,(nT b<|Qw b o q hn).trans q,rfl⟩) hf ((nT e<|CJ aX).trans he) hd nn (Ej.mp h1).1 h2 λh' T' z x k=>h h' T' ?_ x ⟨λb o q n1 n2=>?_,λb o q hb=>?_⟩
 ·cases hq:s.heap.get? T' with
  | none=>rfl
  | some o=>
   by_cases y:T'=T
   ·have:=Ch (Obj.mapFields (·.setIfInBounds 3 Value.none)) hT<|JR<|KN dT _;rw [y] at z;exact absurd (this.symm.trans z)<|by simp
   ·have:=(nT T' y).trans hq;exact absurd (this.symm.trans z)<|by simp
 ·have n3:b≠T:=λy=>n2 (by simp [y]);exact k.keep b o ((nT b n3).trans q) n1 λy=>n2<|by simp at y;simp [y]
 ·exact k.slot b o ((nT b λy=>nf<|y ▸ hb).trans q) hb
theorem k3w{e T:Addr}{C:Value}{Q:Unit->Shared->Prop}(x:Xo s.heap e T C .none)(h:∀ h',Xo h' e T C .none->(∀ b o,b≠T->s.heap.get? b=some o->h'.get? b=some o)->Q () {s with heap:=h'}):wpAny M A (setFlight (.ref e) none) Q E s:=by
 obtain⟨⟨oe,vs,he,hc,nn,hd,h1,h2⟩,aX,⟨oT,ts,hT,dT,h3⟩⟩:=x;unfold setFlight;refine BJ<|HX he hd h1 ?_;rw [BR (show(Value.ref T != Value.none)=true from by simp)];have sz:=(Ej.mp h3).1;have dd:=KN dT (·.setIfInBounds 3 ((none:Option Addr).elim Value.none λf=>rawInt f));refine DW hT dT sz<|h _ ⟨⟨oe,vs,(Bs _ _ aX).trans he,hc,nn,hd,h1,h2⟩,aX,⟨_,_,Ch _ hT<|JR dd,dd,?_⟩⟩ λb o hb q=>(Bs _ _<|CJ hb).trans q;rw [Fk sz];rfl
end
theorem HI{fs f2 bad:List Addr}{H H':Hp}{h h1 h2:Heap}(u:Un fs [] H H' h h1)(k:Kp f2 bad h1 h2)(hf:∀ b o,h.get? b=some o->b∈f2->b∈fs)(hb:∀ b∈bad,h.get? b=none):Un fs [] H H' h h2:=by
 have nb:∀ b o,h.get? b=some o->b∉bad:=λb o q z=>by rw [hb b z] at q;cases q
 refine⟨λb o q n nf _=>k.keep b o (u.keep b o q n nf<|by simp) (λz=>nf<|hf b o q z)<|nb b o q,λb o q n hm _=>?_,u.free,λb o q _=>?_,u.dF,u.dn,u.dG⟩
 ·obtain⟨sl,z⟩:=u.slot b o q n hm<|by simp
  by_cases y:b∈f2
  ·obtain⟨v8,z'⟩:=k.slot b _ z y;exact⟨v8,z'⟩
  ·exact⟨sl,k.keep b _ z y<|nb b o q⟩
 ·obtain⟨o',z⟩:=u.there b o q<|by simp
  by_cases y:b∈f2
  ·obtain⟨v8,z'⟩:=k.slot b _ z y;exact⟨_,z'⟩
  ·exact⟨o',k.keep b _ z y<|nb b o q⟩
theorem Qx{P:Program}{w:World}{f2 bad:List Addr}{H:Hp}{h1 h2:Heap}(x:b7 P w H h1)(k:Kp f2 bad h1 h2)(hf:∀ b∈f2,H b=none)(hb:∀ b∈bad,H b=none):b7 P w H h2:=λa o e=>by
 refine(x a o e).fb (λb u hh q=>k.keep b u q (λz=>?_) λz=>?_) (λ_ q=>q) λ_ _ q=>q
 ·have:=hf b z
  rcases hh with y | y
  ·rw [y,e] at this;cases this
  ·rw [y] at this;cases this
 ·have:=hb b z
  rcases hh with y | y
  ·rw [y,e] at this;cases this
  ·rw [y] at this;cases this
theorem q6r{P:Program}{w:World}{H:Hp}{h:Heap}{a:Addr}{o:HO}(x:ax P w H h a o):∃ u,h.get? a=some u:=by
 cases o with
 | lst xs=>obtain⟨_,_,_,_,q⟩:=x;exact⟨_,q⟩
 | tup xs=>obtain⟨_,_,_,u,q,_⟩:=x;exact⟨_,q⟩
 | dK kvs=>obtain⟨_,_,_,_,u,_,_,q,_⟩:=x;exact⟨_,q⟩
 | dT kvs=>obtain⟨_,_,_,_,u,_,_,q,_⟩:=x;exact⟨_,q⟩
 | set S n=>obtain⟨u,_,_,_,q,_⟩:=x;exact⟨_,q⟩
 | ins C dx fs=>obtain⟨_,_,_,q,_⟩:=x;exact⟨_,q⟩
 | own y=>exact x
 | xd fs=>obtain⟨_,⟨_,_,_,q,_⟩,_⟩:=x;exact⟨_,q⟩
 | v5 lo hi=>obtain⟨_,_,_,q⟩:=x;exact⟨_,q⟩
 | cJ ob u=>obtain⟨q,_⟩:=x;exact⟨_,q⟩
 | mr ps=>exact⟨_,x⟩
 | met f y=>exact⟨_,x⟩
 | ext φ=>obtain⟨_,q,_⟩:=x;exact q
def XF(P:Program)(w:World):fU:=λouter H s E e s'=>∃(ea T:Addr) (C:Value) (H':Hp),e = .ref ea/\E C none H'/\s'.os=s.os/\AllBare s'.gens/\Un (dg outer) [] H H' s.heap s'.heap/\b7 P w H' s'.heap/\Xo s'.heap ea T C .none /\
 s.heap.get? ea=none/\s.heap.get? T=none/\H' ea=none/\H' T=none
section
variable{P:Program}{w:World}{K:PySem.W.Frag}{mg:Str->Option Value}{base:Heap}{N:List Str}{qual:Str}{scope:Scope}{f:Addr}{cd:Value}{A:Around}{outer:List Env}{s:Shared}{H:Hp}{E:XK}
theorem q3i:dg (envOfC qual scope s.heap.objs.size f cd :: outer)=s.heap.objs.size :: dg outer:=rfl
theorem HK{b:Addr}{fs ex:List Addr}{Ha Hb:Hp}{h h1:Heap}(u:Un fs ex Ha Hb h h1)(hx:b∉ex)(n:h1.get? b=none):h.get? b=none:=by
 cases q:h.get? b with
 | none=>rfl
 | some o=>obtain⟨o',z⟩:=u.there b o q hx;rw [n] at z;cases z
theorem HL{P:Program}{w:World}{Ha:Hp}{h1:Heap}{b:Addr}(x:b7 P w Ha h1)(n:h1.get? b=none):Ha b=none:=by
 cases q:Ha b with
 | none=>rfl
 | some o=>
  exfalso
  obtain⟨u,z⟩:=q6r<|x b o q;rw [n] at z;cases z
end
abbrev l9:List Value:=[.type "ValueError",.type "Exception",.type "BaseException",.type "object"]
def XC(K:PySem.W.Frag)(C:Addr):Prop:=PySem.W.excIn K C l9 "ValueError.__new__" = true
theorem XC.obj{K:PySem.W.Frag}{h:Heap}{C:Addr}(q:XC K C)(X:K.In h):∃ bm N nm qn bs hdct sn sub ab col dd k0 k1 k2 k3 k5 mN,h.get? C=some (excClassObj nm qn C N bs bm hdct sn sub ab col dd k0 k1 k2 k3 k5 "ValueError.__new__")/\h.Ns N mN/\mN "__init__" = none/\OwnTail h l9 bm:=by
 unfold XC PySem.W.excIn at q
 split at q
 ·rename_i dd cd sl ho
  split at q
  ·rename_i D bm k0 k1 k2 k3 n k5 hm hs;simp only [Bk,KQ,Bool.not_eq_true'] at q;obtain⟨⟨⟨⟨⟨eD,en⟩,vh⟩,ht⟩,aA⟩,uJ⟩:=q;obtain⟨nm,bs,mro,ns,qn,hd,sn,sub,ab,col,del⟩:=cd
   dsimp only at hm vh aA uJ
   subst eD en hm vh;have esl:sl=#[k0,k1,k2,k3,some<|.builtin "ValueError.__new__",k5]:=by
    cases sl;simp only at hs;rw [hs]
   subst esl;exact⟨bm,ns,nm,qn,bs,hd,sn,sub,ab,col,dd,k0,k1,k2,k3,k5,_,X _ _ ho,.of_isNs<|PySem.W.isNs_of_in X aA,PySem.W.nsMap_none_of_in X aA uJ,PySem.W.tail_of_in X ht⟩
  ·cases q
 ·cases q
section
variable{X:Cx}{σ:St}{H:Hp}{D:Ends}{rest:List Stmt}
def Rz(X:Cx)(E:St->XK):Prop:=∀(pins:List<|Addr×Obj) (σ:St) (H:Hp) (s:Shared) (h':Heap) (e C:Addr) (args:List Value),Inv X pins σ H s->Heap.MadeExcOf s.heap h' e (.ref C) args->E σ (.ref C) none H->X.xe (.ref e) {s with heap:=h'}
theorem yj{E:St->XK}(hz:Rz X E){x:Str}{C:Addr}{a:Expr}{np cp pos:Pos}(hm:X.mg x=some (.ref C))(hC:XC X.K C)(hc:X.calm=true)(h:Ea X [a] σ H λvs H1=>vs.length<=sizeLine/\E σ (.ref C) none H1)(hg:Gl X x:=by rfl)(cX:(x == ("__debug__" : Str))=false:=by decide)
  (he:starEach [a] X.env=(false,eval a X.env) :: starEach [] X.env:=by rfl):Run X (.Raise (some<|.Call (.Name x np) [a] [] cp) none pos :: rest) D σ H:=by
 refine jD (t:=λD σ H=>Ea X [a] σ H λvs H1=>vs.length<=sizeLine/\E σ (.ref C) none H1) ?_ h;intro pins s σ H D I h;obtain⟨bm,N,nm,qn,bs,hdct,sn,sub,ab,col,dd,k0,k1,k2,k3,k5,mN,oC,oN,oi,oT⟩:=hC.obj I.ok.mod.nJ;refine wpAny_Raise_call_subT (C:=C) (nm:=nm) (q:=qn) (N:=N) (bs:=bs) (bm:=bm) (hdct:=hdct) (sn:=sn) (sub:=sub) (ab:=ab) (col:=col) (dd:=dd) (k0:=k0) (k1:=k1) (k2:=k2) (k3:=k3) (k5:=k5) PySem.F.excBase_ValueError (mN:=mN) (oT.hasType PySem.F.excBase_ValueError.hasBase) (I.ok.hd hc) (by rw [he];rfl) oi<|rV I hg hm ⟨rfl,?_⟩ cX;have q:=h.run cp pins s I;rw [he] at q ⊢;refine JV<|aE q λus s2 ⟨vs,H2,I2,r,z2,q2⟩=>⟨rfl,by rw [<- r.length];exact z2,I2.bk _ _ oC,oN.keeps I2.bk,oT.keeps I2.bk,λh' e hx=>hz pins σ H2 s2 h' e C us I2 hx q2⟩
end
section
variable{P:Program}{w:World}{K:PySem.W.Frag}{mg:Str->Option Value}{base:Heap}{N:List Str}{qual:Str}{scope:Scope}{f:Addr}{cd:Value}{A:Around}{outer:List Env}{s:Shared}{H:Hp}{E:XK}
theorem q5k{h h':Heap}(k:∀ b o,h.get? b=some o->h'.get? b=some o):Kp [] [] h h':=⟨λb o q _ _=>k b o q,λb o q z=>absurd z<|by simp⟩
theorem q8a:Rz (eJ (XF P w) P w K mg base N qual scope f cd A outer s H E) (λ_=>E):=by
 intro pins σ H1 s1 h' e C args I hx hE;obtain⟨t,he,_,_⟩:=hx.there;show wpAny (model P w) (A.deeper<|envOfC qual scope s.heap.objs.size f cd) (leaving (envOfC qual scope s.heap.objs.size f cd)<|.ref e) _ _ _;unfold leaving;have n0:H1 e=none:=HL I.aA hx.new;have k1:=q5k hx.keeps;refine BJ<|k8c (s:={s1 with heap:=h'}) (base:=base) (outer:=outer) I.ok.frames (I.stack.of_keeps λb o q _=>⟨o,hx.keeps b o q,rfl⟩) rfl he rfl rfl rfl rfl λh2 T z x k=>?_;have HM:b7 P w H1 h':=I.aA.kept hx.keeps;have un1:Un (dg outer) [] H H1 s.heap h':=HI (H:=H) (h:=s.heap) I.base k1 (λb o q hb=>absurd hb<|by simp) λb hb=>absurd hb (by simp);have nT:s1.heap.get? T=none:=by
  cases q:s1.heap.get? T with
  | none=>rfl
  | some o=>have:=hx.keeps _ _ q;exact absurd (this.symm.trans z)<|by simp
 have ns:s.heap.get? e=none:=HK (ex:=[]) (Hb:=H1) I.base (by simp) hx.new;refine⟨e,T,.ref C,H1,rfl,hE,I.os,I.bare,HI un1 k (λb o q hb=>?_) λb hb=>?_,Qx HM k (λb hb=>I.dw b hb) λb hb=>?_,x,ns,HK (ex:=[]) (Hb:=H1) I.base (by simp) nT,n0,HL I.aA nT⟩
 ·rw [q3i] at hb
  rcases Ai.mp hb with y | y
  ·exact absurd (As q)<|by rw [y];exact Ct _
  ·exact y
 ·rw [Ag.mp hb];exact ns
 ·rw [Ag.mp hb];exact n0
def Qy(N:List Str)(qual:Str)(scope:Scope)(P:Program)(w:World)(K:PySem.W.Frag)(mg:Str->Option Value)(base:Heap)(b:tj):Cx:=eJ (XF P w) P w K mg base N qual scope b.f b.bF b.A b.outer b.s b.H b.E
theorem bM.gx{x:Str}{st:Stmt}{fd:FuncData}{ps:List Str}{k:Nat}{sp:Sp}(F:bM K x qual st f fd)(S:ao N ps<|aW st)(len:∀ vs H Q E,sp vs H Q E->vs.length=ps.length)
  (cY:∀(b:tj) (H:Hp) (vs:List V) (Q:VK),bj k (b.A.deeper<|envOfC qual (aW st) b.s.heap.objs.size b.f b.bF)->sp vs H Q b.E->Run (Qy N qual (aW st) P w K mg base b) (jg st) (En Q) (start N vs) H):aD P w K mg base (XF P w) (k+1) f fd ps sp:=by
 obtain⟨oc,od,kV,doc,pm,an,bF,ct,jz,rfl,lk,ii⟩:=F.ex;refine Kv lk ii S len λA outer s H vs Q E hr d6=>?_;exact⟨_,om,cY ⟨f,bF,A,outer,s,H,E⟩ H vs Q hr d6⟩
theorem yk{b:tj}:Rz (Qy N qual scope P w K mg base b) (λ_=>b.E):=q8a
end
structure gD(P:Program)(w:World)(K:PySem.W.Frag)(mg:Str->Option Value)(base:Heap)(k:Nat)(x:Str)(ps:List Str)(sp:Sp):Prop where
 ex:∃ f fd,aD P w K mg base (XF P w) k f fd ps sp/\Binds K fd ps []/\PySem.W.keepIn K (.ref f)=true/\mg x=some (.ref f)
theorem gD.mono{P:Program}{w:World}{K:PySem.W.Frag}{mg:Str->Option Value}{base:Heap}{j k:Nat}{x:Str}{ps:List Str}{sp:Sp}(h:gD P w K mg base j x ps sp)(le:j<=k):gD P w K mg base k x ps sp:=
 let ⟨f,fd,F,r⟩:=h.ex;⟨f,fd,F.mono le,r⟩
theorem q76{X:Cx}{k:Nat}{ps:List Str}{sp:Sp}{x:Str}{e:Expr}{es:List Expr}{σ:St}{H:Hp}{Q:VK}{E:XK}{p pos:Pos}(G:gD X.prog X.w X.K X.mg X.base k x ps sp)(hr:bj k X.A)(hx:qz (XF X.prog X.w) X E)
  (h:Ea X (e :: es) σ H λvs H1=>sp vs H1 Q E) (hg:Gl X x:=by rfl) (cX:(x == ("__debug__" : Str))=false:=by decide) (hs:noStar (e :: es)=true:=by rfl):Ev X (.Call (.Name x p) (e :: es) [] pos) σ H Q:=
 let ⟨_,_,F,b,kp,m⟩:=G.ex;Lr F hr m kp b hx h hg cX hs
theorem Df.HP{P:Program}{w:World}{K:PySem.W.Frag}{mg:Str->Option Value}{h base:Heap}{k:Nat}{x:Str}{st:Stmt}{ps:List Str}{sp:Sp}(d:Df K x st)(X:K.In h)(G:h.Ns mainGlobals mg)
  (hb:∀(kV doc pm:Value) (an:Option Addr) (bF ct:Value) (us:List Value),us.length=ps.length->bindArgs (PySem.W.fnOf x x (mC st) (jg st) (aW st) .none kV doc pm an bF ct) ⟨us,[]⟩=pure (ps.zip us))
  (ok:∀{f:Addr} {fd:FuncData},bM K x x st f fd->aD P w K mg base (XF P w) k f fd ps sp):gD P w K mg base k x ps sp:=
 let ⟨f,fd,a,F⟩:=d;⟨f,fd,ok F,F.binds hb,F.kp,IW X G a⟩
def HQ(CX:fU)(X:Cx)(σ:St)(E:XK):Prop:=∀(pins:List<|Addr×Obj) (H:Hp) (s:Shared) (e:Value) (s':Shared),Inv X pins σ H s->CX X.stack H s E e s'->X.xe e s'
section
variable{X:Cx}{CX:fU}{k:Nat}{f:Addr}{fd:FuncData}{ps:List Str}{sp:Sp}{E:XK}{x:Str}{p pos:Pos}{e:Expr}{es:List Expr}{σ:St}{H:Hp}{Q:VK}
theorem k96(F:aD X.prog X.w X.K X.mg X.base CX k f fd ps sp)(hr:bj k X.A)(hm:X.mg x=some (.ref f))(hk:PySem.W.keepIn X.K (.ref f)=true)(hb:Binds X.K fd ps [])(hx:HQ CX X σ E)(h:Ea X (e :: es) σ H λvs H1=>sp vs H1 Q E)
  (hg:Gl X x:=by rfl) (cX:(x == ("__debug__" : Str))=false:=by decide) (he:starEach (e :: es) X.env=(false,eval e X.env) :: starEach es X.env:=by rfl) (iR:(backTo pos<|starEach es X.env).any (·.1)=false:=by rfl):Ev X (.Call (.Name x p) (e :: es) [] pos) σ H Q:=by
 refine⟨λpins s I=>JG<|rV I hg hm ?_ cX⟩;refine PySem.W.callWith_K (h₀:=X.base) I.ok.mod.nJ hk (aE (h.run pos pins s I) λus s1 ⟨vs,H1,I1,r,q⟩=>⟨I1.dY,?_⟩) he iR;have hl:us.length=ps.length:=by rw [<- r.length];exact F.len _ _ _ _ q
 have jf:(us++[]).length=ps.length:=by rw [Bj];exact hl
 have i4:=hb s1 us I1.dY jf;rw [Bj] at i4;refine QZ<|HY (F.run X.A X.stack s1 H1 ⟨us,[]⟩ us vs Q E hr I1.su i4 r q) λr s' hq=>?_;cases r with
 | error y=>exact hx pins H1 s1 y s' I1 hq
 | ok fl=>
  cases fl with
  | ret u=>exact I1.after hq
  | next=>exact False.elim hq
  | brk=>exact False.elim hq
  | cont=>exact False.elim hq
theorem q12(G:gD X.prog X.w X.K X.mg X.base k x ps sp)(hr:bj k X.A)(hx:HQ (XF X.prog X.w) X σ E)(h:Ea X (e :: es) σ H λvs H1=>sp vs H1 Q E)
  (hg:Gl X x:=by rfl) (cX:(x == ("__debug__" : Str))=false:=by decide) (he:starEach (e :: es) X.env=(false,eval e X.env) :: starEach es X.env:=by rfl) (iR:(backTo pos<|starEach es X.env).any (·.1)=false:=by rfl):Ev X (.Call (.Name x p) (e :: es) [] pos) σ H Q:=
 let ⟨_,_,F,b,kp,m⟩:=G.ex;k96 F hr m kp b hx h hg cX he iR
end
abbrev XO(oe:Obj):HO:= .cJ oe<|.own 0
structure yl(oe:Obj)(C:Value):Prop where
 cls:oe.cls=C
 dict:oe.dict=none
 data:∃ vs,oe.data = .fields vs/\vs[2]?=some .none
abbrev Cx.bW(X:Cx)(p:List<|Addr×Obj):Cx:={X with pn:=X.pn++p}
structure vi(X:Cx)(pins:List<|Addr×Obj)(b:Addr):Prop where
 l:b≠X.env.locals
 c:∀ x c,X.env.cells.lookup x=some c->c≠b
 p:∀ q∈X.pn++pins,q.1≠b
 f:b∉X.fs
 s:X.s₀.heap.get? b=none
section
variable{X:Cx}{pins:List (Addr×Obj)}{σ:St}{H:Hp}{s:Shared}{b:Addr}
theorem HR(I:Inv X pins σ H s)(hex:X.ex=[])(n:s.heap.get? b=none):vi X pins b:=by
 refine⟨λz=>?_,λx c e z=>?_,λq hq z=>?_,λz=>?_,HK I.base (by rw [hex];simp) n⟩
 ·obtain⟨m,⟨o,_,_,ho,_⟩,_⟩:=I.loc;rw [<- z,n] at ho;cases ho
 ·obtain⟨v,o,ho,_⟩:=I.cell x c e;rw [z,n] at ho;cases ho
 ·have:=(I.pin q hq).1;rw [z,n] at this;cases this
 ·obtain⟨_,o,ho,_⟩:=I.cG.mem z;rw [n] at ho;cases ho
theorem Inv.kp{bad:List Addr}{h':Heap}{t':Nat}(I:Inv X pins σ H s)(hex:X.ex=[])(k:Kp (dg X.stack) bad s.heap h')(ha:∀ b∈bad,vi X pins b)(hn:∀ b∈bad,H b=none):Inv X pins σ H {s with heap:=h',toks:=t'}:=by
 have kc:∀ x c,X.env.cells.lookup x=some c->∀ v,s.heap.IsCell c v->h'.IsCell c v:=λx c e v ⟨o,ho,hd⟩=>by
  by_cases y:c∈dg X.stack
  ·obtain⟨sl,z⟩:=k.slot c o ho y;exact⟨_,z,hd⟩
  ·exact⟨o,k.keep c o ho y λw=>(ha c w).c x c e rfl,hd⟩
 have kl:∀ m,s.heap.Ns X.env.locals m->h'.Ns X.env.locals m:=λm hm=>by
  obtain⟨o,es,ep,ho,r⟩:=hm
  by_cases y:X.env.locals∈dg X.stack
  ·obtain⟨sl,z⟩:=k.slot _ o ho y;exact⟨_,es,ep,z,r⟩
  ·exact⟨o,es,ep,k.keep _ o ho y λw=>(ha _ w).l rfl,r⟩
 refine⟨I.ok,I.os,I.bare,?_,?_,λx c e=>?_,I.free,I.bq,λp hp=>?_,Qx I.aA k (λb hb=>I.dw b hb) hn,I.len⟩
 ·have u:=I.base;rw [hex] at u ⊢;refine HI u k (λb o q hb=>?_) λb hb=>(ha b hb).s
  rcases Ai.mp (I.c8 b hb) with y | y
  ·exact absurd (Bg (As q) I.ok.above)<|by rw [y];exact Ct _
  ·exact y
 ·obtain⟨m,hm,hl⟩:=I.loc;refine⟨m,kl m hm,λi x v e1 e2 e3=>?_⟩;obtain⟨u,r,q⟩:=hl i x v e1 e2 e3;refine⟨u,r,?_⟩
  rcases q with q | ⟨y,c,e,z⟩
  ·exact .inl q
  ·exact .inr ⟨y,c,e,kc x c e _ z⟩
 ·obtain⟨v,z⟩:=I.cell x c e;exact⟨v,kc x c e v z⟩
 ·obtain⟨e,n,ne,nf,d⟩:=I.pin p hp;refine⟨k.keep _ _ e (λy=>?_) λw=>(ha _ w).p p hp rfl,n,ne,nf,d⟩
  rcases Ai.mp (I.c8 _ y) with z | z
  ·exact ne z
  ·exact nf z
theorem Inv.vj{o:HO}(I:Inv X pins σ H s)(hex:X.ex=[])(a:vi X pins b)(n:H b=none)(ho:ax X.prog X.w (upd H b o) s.heap b o):Inv X pins σ (upd H b o) s:=by
 have u:=I.base;have ne:∀ c o',H c=some o'->c≠b:=λc o' q z=>by rw [z,n] at q;cases q
 refine⟨I.ok,I.os,I.bare,⟨u.keep,u.slot,λc o' q n' hx=>?_,u.there,λc xs q=>?_,λc o' v q=>?_,λc ps q=>?_⟩,I.loc,I.cell,by rw [aq<|CJ a.l];exact I.free,λx c e=>by rw [aq<|a.c x c e];exact I.bq x c e,λp hp=>?_,λc o' q=>?_,I.len⟩
 ·have:c≠b:=λz=>by rw [z,a.s] at q;cases q
  rw [aq this];exact u.free c o' q n' hx
 ·have q':=u.dF c xs q;rw [aq<|ne _ _ q'];exact q'
 ·have q':=u.dn c o' v q;rw [aq<|ne _ _ q'];exact q'
 ·obtain⟨m,q'⟩:=u.dG c ps q;exact⟨m,by rw [aq<|ne _ _ q'];exact q'⟩
 ·obtain⟨e,n',r⟩:=I.pin p hp;exact⟨e,by rw [aq<|a.p p hp];exact n',r⟩
 ·by_cases y:c=b
  ·subst y;rw [aw] at q;cases q;exact ho
  ·rw [aq y] at q;exact(I.aA c o' q).fb (λ_ _ _ z=>z) (λd z=>by rw [aq<|ne _ _ z];exact z) λd xs z=>by rw [aq<|ne _ _ z];exact z
end
def Cgt(X:Cx)(Φ:Value->St->Hp->Prop)(e:Value)(s':Shared):Prop:=∃(pins:List<|Addr×Obj) (σ:St) (H:Hp) (ea T:Addr) (C:Value),e = .ref ea/\Inv X pins σ H s'/\Xo s'.heap ea T C .none/\vi X pins ea/\vi X pins T/\H ea=none/\H T=none/\Φ C σ H
abbrev ym(X:Cx)(p:List<|Addr×Obj)(Φ:Value->St->Hp->Prop):Cx:=(X.bW p).dq<|Cgt (X.bW p) Φ
theorem q8p{X:Cx}{p:List (Addr×Obj)}{Φ:Value->St->Hp->Prop}{σ:St}(hex:X.ex=[]):HQ (XF X.prog X.w) (ym X p Φ) σ (λC _ H'=>Φ C σ H'):=by
 rintro pins H s e s' I ⟨ea,T,C,H',rfl,hE,os,bare,un,aA,x,n1,n2,n3,n4⟩;have I2:=I.call' (ch:=[]) os un aA bare (λb z=>absurd z<|by simp);have J:Inv (X.bW p) pins σ H s:=I.bH;exact⟨pins,σ,H',ea,T,C,rfl,I2.bH,x,HR J hex n1,HR J hex n2,n3,n4,hE⟩
abbrev gE(X:Cx)(p:List<|Addr×Obj)(ea:Addr):Cx:={X with A:=X.A.mark<|some<|.ref ea,calm:=false,pn:=X.pn++p,xe:=λ_ _=>False}
theorem Inv.hd{X:Cx}{p pins:List (Addr×Obj)}{σ:St}{H:Hp}{s:Shared}{ea:Addr}(I:Inv (X.bW p) pins σ H s):Inv (gE X p ea) pins σ H s:=
 ⟨⟨I.ok.mod,I.ok.kind,I.ok.glob,I.ok.blt,I.ok.above,I.ok.inj,I.ok.has,I.ok.kN,(λz=>(nomatch z)),I.ok.frames,I.ok.j7,I.ok.qm,I.ok.bs,I.ok.jd,I.ok.fe,I.ok.fQ,I.ok.cG,I.ok.j8⟩,I.os,I.bare,I.base,I.loc,I.cell,I.free,I.bq,I.pin,I.aA,I.len⟩
theorem Inv.HU{X:Cx}{p pins vk:List (Addr×Obj)}{σ:St}{H:Hp}{s:Shared}{ea:Addr}(I:Inv (gE X p ea) pins σ H s)(hc:X.calm=true->X.A.handled=none):Inv (X.bW p) pins σ H s:=
 ⟨⟨I.ok.mod,I.ok.kind,I.ok.glob,I.ok.blt,I.ok.above,I.ok.inj,I.ok.has,I.ok.kN,hc,I.ok.frames,I.ok.j7,I.ok.qm,I.ok.bs,I.ok.jd,I.ok.fe,I.ok.fQ,I.ok.cG,I.ok.j8⟩,I.os,I.bare,I.base,I.loc,I.cell,I.free,I.bq,I.pin,I.aA,I.len⟩
theorem Inv.p5{X:Cx}{p pins:List (Addr×Obj)}{σ:St}{H:Hp}{s:Shared}(I:Inv X p σ H s):Inv (X.bW p) [] σ H s:=
 ⟨⟨I.ok.mod,I.ok.kind,I.ok.glob,I.ok.blt,I.ok.above,I.ok.inj,I.ok.has,I.ok.kN,I.ok.hd,I.ok.frames,I.ok.j7,I.ok.qm,I.ok.bs,I.ok.jd,I.ok.fe,I.ok.fQ,I.ok.cG,I.ok.j8⟩,I.os,I.bare,I.base,I.loc,I.cell,I.free,I.bq,λq hq=>I.pin q (by simpa using hq),I.aA,I.len⟩
theorem Inv.iL{X:Cx}{p pins:List (Addr×Obj)}{σ:St}{H:Hp}{s:Shared}(I:Inv (X.bW p) pins σ H s):Inv X p σ H s:=
 ⟨⟨I.ok.mod,I.ok.kind,I.ok.glob,I.ok.blt,I.ok.above,I.ok.inj,I.ok.has,I.ok.kN,I.ok.hd,I.ok.frames,I.ok.j7,I.ok.qm,I.ok.bs,I.ok.jd,I.ok.fe,I.ok.fQ,I.ok.cG,I.ok.j8⟩,I.os,I.bare,I.base,I.loc,I.cell,I.free,I.bq,λq hq=>I.pin q<|Aw _ hq,I.aA,I.len⟩
def rH(K:PySem.W.Frag)(C S:Addr):Bool:=match K.lookup C with
 | some ⟨_,_,.cls cd,_⟩=>cd.mro.contains<|.ref S
 | _=>false
theorem q6y{K:PySem.W.Frag}{h:Heap}{C S:Addr}(X:K.In h)(q:rH K C S=true){nm qn:Str}{N:Addr}{bs bm:List Value}{hdct:Bool}{sn:List Str}{sub:List Value}{ab:Bool}{col:Option Bool}{dd:Option Addr}{k0 k1 k2 k3 k5:Option Value}{nid:String}
  (oC:h.get? C=some (excClassObj nm qn C N bs bm hdct sn sub ab col dd k0 k1 k2 k3 k5 nid)):(Value.ref C :: bm).contains (.ref S)=true:=by
 unfold rH at q
 split at q
 ·rename_i ho;have:=(X _ _ ho).symm.trans oC;cases this;exact q
 ·cases q
section
variable{M:Model}{A:Around}{E:Value->Shared->Prop}{K:PySem.W.Frag}{s:Shared}
theorem k4z{e C S:Addr}{oe:Obj}{Q:Bool->Shared->Prop}(X:K.In s.heap)(hC:XC K C)(hS:XC K S)(hm:rH K C S=true)(he:s.heap.get? e=some oe)(hc:oe.cls = .ref C)(h:Q true s):wpAny M A (excMatches (.ref e)<|.ref S) Q E s:=by
 obtain⟨bm,N,nm,qn,bs,hdct,sn,sub,ab,col,dd,k0,k1,k2,k3,k5,mN,oC,oN,oi,oT⟩:=hC.obj X;obtain⟨bm',N',nm',qn',bs',Qz,sn',x0a,ab',x0b,gQ,k0',AZ,k2',k3',k5',mN',oS,oN',oi',oT'⟩:=hS.obj X;have c1:=q6y X hm oC;have c2:(Value.ref S :: bm').contains (.type "BaseException")=true:=by rw [List.contains_cons,oT'.hasType PySem.F.excBase_ValueError.hasBase,Bool.or_true]
 have f:=tc_notTuple;obtain⟨hh,g,d,tk,os⟩:=s;unfold excMatches
 repeat (first | (with_reducible refine wpAny_loadPart_at he ?_;rw [hc]) | with_reducible refine wpAny_loadPart_at oS ?_ | (with_reducible refine wpAny_isSubtype_exc oS ?_;rw [c2]) | (with_reducible refine wpAny_isSubtype_exc oC ?_;rw [c1]) | wp_step)
 exact h
end
section
variable{X:Cx}{pins:List (Addr×Obj)}{σ:St}{H:Hp}{s:Shared}
theorem Inv.cF{M:Model}{A:Around}{E:Value->Shared->Prop}{Q:Unit->Shared->Prop}{i:Nat}{n:Str}{pos:Pos}(I:Inv X pins σ H s)(hN:X.N.Nodup)(hi:X.N[i]?=some n)(hl:X.env.scope.names.lookup n=some .local)
  (h:∀ s',Inv X pins (σ.set i none) H s'->Q () s'):wpAny M A (do bindName X.env n .none;unbindBehindTheSuite X.env n pos) Q E s:=by
 obtain⟨m,hn,HV⟩:=id I.loc;have nK:(X.env.scope.kind == .class || (X.env.scope.kind == .module && X.env.locals != X.env.globals))=false:=by rw [I.ok.kind];rfl
 have hiσ:i < σ.length:=by rw [I.len];exact(Ac.mp hi).1
 obtain⟨oL,_,_,je,_⟩:=id hn;refine wpAny_nameGoes_keeps hl hn nK λh' v fS hs=>h _ ?_;have low:∀ b o,X.s₀.heap.get? b=some o->b≠X.env.locals:=λb o q=>Bp<|Bg (As q) I.ok.above;refine⟨I.ok,I.os,I.bare,⟨λb o q n' hb hx=>(hs.2 b<|low b o q).trans<|I.base.keep b o q n' hb hx,λb o q n' hb hx=>?_,I.base.free,λb o q hx=>?_,I.base.dF,I.base.dn,I.base.dG⟩,⟨_,fS,λj y v' e1 e2 e3=>?_⟩,λy c q=>?_,I.free,I.bq,λp hp=>?_,λb u q=>?_,by rw [Dk];exact I.len⟩
 ·obtain⟨sl,z⟩:=I.base.slot b o q n' hb hx;exact⟨sl,(hs.2 b<|low b o q).trans z⟩
 ·obtain⟨o',z⟩:=I.base.there b o q hx;exact⟨o',(hs.2 b<|low b o q).trans z⟩
 ·by_cases hj:j=i
  ·subst hj;rw [Gd hiσ] at e2;cases e2
  ·rw [Gp<|CJ hj] at e2;obtain⟨u,r,q⟩:=HV j y v' e1 e2 e3;refine⟨u,r,?_⟩
   rcases q with ⟨k,z⟩ | ⟨k,c,z,w⟩
   ·have:y≠n:=λz=>hj<|yS hN e1<|z ▸ hi;exact .inl ⟨k,by simp [this,z]⟩
   ·exact .inr ⟨k,c,z,w.sameBut hs<|I.jy y c z⟩
 ·obtain⟨v2,z⟩:=I.cell y c q;exact⟨v2,z.sameBut hs<|I.jy y c q⟩
 ·obtain⟨e,n',ne,nf,d⟩:=I.pin p hp;exact⟨(hs.2 p.1 ne).trans e,n',ne,nf,d⟩
 ·refine(I.aA b u q).fb (λc w' hc z=>(hs.2 c ?_).trans z) (λ_ z=>z) λ_ _ z=>z;rintro rfl
  rcases hc with hc | hc
  ·rw [<- hc,I.free] at q;cases q
  ·rw [I.free] at hc;cases hc
end
def q5r(X:Cx)(D:Ends)(rest:List Stmt)(i:Nat):Ends:={nx:=λσ H=>Run X rest D (σ.set i none) H,rt:=D.rt,bk:=λσ H=>D.bk (σ.set i none) H,ct:=λσ H=>D.ct (σ.set i none) H}
theorem q3x{X:Cx}{σ:St}{H:Hp}{D:Ends}{rest body nq:List Stmt}{b₀:Stmt}{x n:Str}{S:Addr}{np hp pos:Pos}(i:Nat)(Φ:Value->St->Hp->Prop)(hm:X.mg x=some (.ref S))(hS:XC X.K S)(hN:X.N.Nodup)
  (hb:∀ p,Run (ym X p Φ) body {D with nx:=λσ' H'=>Run X rest D σ' H'} σ H)
  (hh:∀ C σ' H',Φ C σ' H'->∃ Ca,C = .ref Ca/\XC X.K Ca/\rH X.K Ca S=true/\∀ p ea oe,yl oe C->H' ea=none->Run (gE X p ea) (b₀ :: nq) (q5r X D rest i) (σ'.set i<|some<|.ref ea) (upd H' ea<|XO oe))
  (hi:X.N[i]?=some n:=by rfl) (hl:X.env.scope.names.lookup n=some .local:=by rfl) (hex:X.ex=[]:=by rfl) (cR:X.stack=X.env :: X.outer:=by rfl) (iw:X.env.frame=some X.env.locals:=by rfl)
  (rU:X.fn n=true\/X.env.scope.names.lookup n=some .local:=by first | exact .inl rfl | exact .inr rfl) (hg:Gl X x:=by rfl) (cX:(x == ("__debug__" : Str))=false:=by decide) :
  Run X (.Try body [.ExceptHandler (some<|.Name x np) (some n) (b₀ :: nq) hp] [] [] pos :: rest) D σ H:=by
 refine jD (t:=λD' σ H=>∀ p,Run (ym X p Φ) body {D with nx:=λσ' H'=>Run X rest D σ' H'} σ H/\D'={D with nx:=λσ' H'=>Run X rest D σ' H'}) ?_ λp=>⟨hb p,rfl⟩;intro p0 s σ H D' I h;obtain⟨hb,rfl⟩:=h p0;refine wpAny_Try_except<|CW (hb.run [] s<|(I.p5 (pins:=[])).dq _) (λf s1 q=>?_) λe s1 q=>?_
 ·have out:∀{pp:List (Addr×Obj)} {σ':St} {H':Hp},Inv (ym X p0 Φ) pp σ' H' s1->Inv X p0 σ' H' s1:=λJ=>(J.bH).iL;cases f with
  | next=>
   obtain⟨σ',H',J,q⟩:=q;exact J1 p0 s1 σ' H' _ (out J) q
  | brk=>obtain⟨σ',H',J,q⟩:=q;exact⟨σ',H',out J,q⟩
  | cont=>obtain⟨σ',H',J,q⟩:=q;exact⟨σ',H',out J,q⟩
  | ret u=>obtain⟨v,σ',H',J,r,q⟩:=q;exact⟨v,σ',H',out J,r,q⟩
 ·obtain⟨pp,σ',H',ea,T,C,rfl,J,x1,a1,a2,n1,n2,hΦ⟩:=q;obtain⟨Ca,rfl,hC,oM,HZ⟩:=hh C σ' H' hΦ;have fr:(X.bW p0).A.frames=some (X.env :: X.outer):=by rw [<- cR];exact J.ok.frames
  have j7:s1.heap.FunFrames X.base (X.env :: X.outer):=by rw [<- cR];exact J.stack
  refine q4k fr j7 iw x1 λh2 T' z x2 k=>?_;have k':Kp (dg (X.bW p0).stack) [ea,T] s1.heap h2:=by
   show Kp (dg X.stack) [ea,T] s1.heap h2;rw [cR];exact k
  have J2:Inv (X.bW p0) pp σ' H' {s1 with heap:=h2}:=J.kp (t':=s1.toks) hex k' (λb hb=>by
   rcases Ai.mp hb with y | y
   ·rw [y];exact a1
   ·rw [Ag.mp y];exact a2) (λb hb=>by
   rcases Ai.mp hb with y | y
   ·rw [y];exact n1
   ·rw [Ag.mp y];exact n2)
  have a3:=HR J hex z;have n3:H' T'=none:=HL J.aA z;have J3:Inv (gE X p0 ea) pp σ' H' {s1 with heap:=h2}:=J2.hd;obtain⟨⟨oe,vs,he,hc,nn,hd,h1,jl⟩,aX,htr⟩:=id x2;refine wpAny_handleBy_cons (codeAny_handlers_test<|rV J3 hg hm ?_ cX) (by intro q;cases q);refine k4z J3.dY hC hS oM he hc ?_;refine codeAny_handlers_suite_as<|k3w x2 λh3 x3 k3=>?_;have J4:Inv (gE X p0 ea) pp σ' H' {s1 with heap:=h3}:=J3.kp (s:={s1 with heap:=h2}) (t':=s1.toks) (bad:=[T']) hex ⟨λb o q _ nb=>k3 b o (λy=>nb<|by simp [y]) q,λb o q hb=>⟨o.slots,k3 b o (λy=>by
   obtain⟨_,o',gN,fS⟩:=J3.stack.mem hb;obtain⟨oT,ts,hT,dT,_⟩:=htr;rw [y] at gN;have:=gN.symm.trans hT;cases this;exact fS _ dT) q⟩⟩ (λb hb=>by rw [Ag.mp hb];exact⟨a3.l,a3.c,a3.p,a3.f,a3.s⟩) λb hb=>by rw [Ag.mp hb];exact n3
  obtain⟨⟨QA,vs3,QE,hc3,Ia,hd3,yn,vp⟩,_,_⟩:=x3;have J5:Inv (gE X p0 ea) pp σ' (upd H' ea<|XO QA) {s1 with heap:=h3}:=J4.vj hex ⟨a1.l,a1.c,a1.p,a1.f,a1.s⟩ n1 ⟨QE,⟨_,QE⟩⟩;refine yU (X:=gE X p0 ea) J5 hN hi (Or.inl hl) (v:= .ref ea) rfl (λs4 J6=>?_) rU;refine CW ((HZ p0 ea QA ⟨hc3,Ia,vs3,hd3,vp⟩ n1).run pp s4 J6) (λf s5 q=>?_) λ_ _ z=>z.elim;have out:∀{σ2:St} {H2:Hp} {s6:Shared},Inv (gE X p0 ea) pp σ2 H2 s6->Inv X p0 σ2 H2 s6:=λJ=>((J.HU (vk:=[]) J2.ok.hd).iL);cases f with
  | next=>
   obtain⟨σ2,H2,J7,q⟩:=q;exact J7.cF hN hi hl λs6 J8=>⟨_,H2,out J8,q⟩
  | brk=>
   obtain⟨σ2,H2,J7,q⟩:=q;exact J7.cF hN hi hl λs6 J8=>⟨_,H2,out J8,q⟩
  | cont=>
   obtain⟨σ2,H2,J7,q⟩:=q;exact J7.cF hN hi hl λs6 J8=>⟨_,H2,out J8,q⟩
  | ret u=>
   obtain⟨v,σ2,H2,J7,r,q⟩:=q;exact J7.cF hN hi hl λs6 J8=>⟨v,_,H2,out J8,r,q⟩
open PySem.W
section
variable{prog:Program}{w:World}{A:Around}{E:Value->Shared->Prop}{s:Shared}{K:Frag}{a C:Addr}{o:Obj}
def me(K:Frag)(C:Addr):Bool:=findIn K (.ref C) "__getattribute__" == some (some<|.builtin "BaseException.__getattribute__") && findIn K (.ref C) "__getattr__" == some none && findIn K (.ref C) "__class__" == some (some<|.builtin "object.__class__") &&
 mroIn K C (.type "object") == some true && mroIn K C (.type "BaseException") == some true && (clsIn K C).isSome
theorem q0t{Q:Option Value->Shared->Prop}(X:K.In s.heap)(I:InstAt s.heap a o C none)(q:me K C=true)(hq:Q (some<|.ref C) {s with toks:=s.toks+1}):wpAny (model prog w) A (getAttr? (.ref a) "__class__") Q E s:=by
 unfold me at q;simp only [Bk,KQ] at q;obtain⟨⟨⟨⟨⟨h1,h2⟩,h3⟩,h4⟩,h5⟩,_⟩:=q;obtain⟨hh,g,d,t,os⟩:=s;have L0:=I.type (M:=model prog w);have L1:=looks_findIn (M:=model prog w) X h1;have L2:=looks_findIn (M:=model prog w) X h2;have L3:=looks_findIn (M:=model prog w) X h3;have L5:=looks_mroIn (M:=model prog w) X h5;unfold getAttr? getAttrBy? getAttrBy;refine BJ<|wpAny_mkText<|BJ<|JF<|CK<|BJ<|L0.at (BJ<|L1.at ?_);show wpAny _ _ (getAttrByItsOwn _ _ _ _ _ _) _ _ _;unfold getAttrByItsOwn hookBefore callGetattribute boundAndCalled;have f3:=F.attr_ValueError.ga.bind<|.ref a;refine BJ ?_;show wpAny _ _ (typeLookup (.ref C) "__getattr__") _ _ _;refine L2.at ?_;refine BJ<|JF<|CK ?_;rw [BK<|by decide];rw [f3];refine BJ<|BL ?_;refine QZ<|PK F.attr_ValueError.ga.plain F.entry_bexc_ga ?_;have hk:builtinKind "BaseException.__getattribute__" = some .slot:=by decide +kernel
 have d6:splitId "BaseException.__getattribute__" = some ("BaseException","__getattribute__"):=by decide +kernel
 have ha:=F.args_bexc_ga (.ref a)<|.str "__class__" t;simp only [checkBuiltinCall,hk,d6];refine BJ ?_;unfold isInstance;have LB:Looks (model prog w) hh (isSubtype (.ref C)<|.type "BaseException") true:=L5
 repeat lk
 have hid:(toString "getset_descriptor"++toString "."++toString (Str.ofString "__get__").toString:String) = "getset_descriptor.__get__":=by decide +kernel
 rw [hid];refine wpAny_run (c:= .call (.builtin "getset_descriptor.__get__") ⟨[.builtin "object.__class__",.ref a,.ref C],[]⟩) (h:=none) ?_;refine class_get (s:=⟨hh,g,d,t+1,os⟩) (K:=K) X I h4 ?_
 repeat lk
 exact hq
theorem QH(q:me K C=true):KitX K (.ref a) (.ref C) (λh=>∃ o,InstAt h a o C none) where
 ty:=λ_ _ _ ⟨_,I⟩=>I.type
 it:=λ_ _ X _=>by
  unfold me at q;rw [Bk] at q;have z:=q.2;unfold clsIn at z
  split at z
  ·rename_i ho;intro A' Q' E' s' k r;unfold isType loadHead;exact BJ<|wpAny_loadPart (k _ _<|X _ _ ho)<|BL r
  ·cases z
 ne:=λh tp dd its n sl X Ib=>by
  unfold me at q;rw [Bk] at q;have z:=q.2;refine Dx.mpr λy=>?_;have e:C=tp:=Value.ref.inj<|beq_iff_eq.mp y;subst e;unfold clsIn at z
  split at z
  ·rename_i ho;cases (X _ _ ho).symm.trans Ib
  ·cases z
 ca:=λX ⟨_,I⟩ k=>q0t X I q k
end
end L2
namespace L2
open PySem PySem.Spec PyProof.Rows
theorem QI{h:Heap}{ea C:Addr}{oe:Obj}(he:h.get? ea=some oe)(x:yl oe<|.ref C):PySem.W.InstAt h ea oe C none:=by
 obtain⟨vs,hd,_⟩:=x.data;refine⟨he,x.cls,?_,?_⟩
 ·unfold PySem.W.notCls;rw [hd]
 ·rw [x.dict];exact True.intro
theorem yo{X:Cx}:eI X (.builtin "isinstance") (λxs H Q=>∃ ea C oe c v b,xs=[.ref ea,v]/\(∀ u,RelV v u->u=c)/\H ea=some (XO oe)/\yl oe (.ref C)/\me X.K C=true/\PySem.W.kitOne X.K (.ref C) c=some b/\Q (.bl b) H):=by
 intro pins s σ H xs us Q I r h;obtain⟨ea,C,oe,c,v,b,rfl,hv,hH,ix,hl,e,q⟩:=h;obtain⟨u,w',rfl,ru,d7⟩:=vals2 r;cases (show u=Value.ref ea from ru);cases hv _ d7;have he:s.heap.get? ea=some oe:=(show ax X.prog X.w H s.heap ea (XO oe) from I.aA ea _ hH).1;exact FN (QH hl) I.dY ⟨oe,QI he ix⟩ e (λz=>nomatch z) λtk=>⟨.bl b,H,I.tok tk,rfl,q⟩
section
variable{prog:Program}{w:World}{A:Around}{E:Value->Shared->Prop}{s:Shared}
end
section
variable{X:Cx}{tg:Expr}
end
section
variable{X:Cx}{elt tg iter:Expr}{ifs:List Expr}{scope:Scope}{pos:Pos}{N':List Str}{n:Nat}{wi:TI}{g:TG}{tc:TT}{te:TE}
end
section
variable{X:Cx}{elt tg iter c:Expr}{ifs:List Expr}{scope:Scope}{pos p:Pos}{wi:TI}{σ:St}{H:Hp}{Q:VK}{T:Bool->Hp->Prop}{rest:List Stmt}{D:Ends}
end
section
variable{X:Cx}{k:Nat}{ps:List Str}{sp:Addr->Obj->Sp}{E:XK}{x:Str}{p pos:Pos}{e:Expr}{es:List Expr}{σ:St}{H:Hp}{Q:VK}
end
end L2
namespace Nt
open PySem L2
section
variable{n:Net}{z:Str}{r k:Nat}
theorem q6z(h:r < n.length):row n r=n[r].2:=by unfold row;rw [Ab h];rfl
theorem QN(h:r < n.length):af (n.take<|r+1)=af (n.take r)++row n r:=by
 rw [q6z h];unfold af;rw [By,Ab h,Dh];simp
end
end Nt
namespace L2
open PySem PySem.Spec PyProof.Rows
section
variable{X:Cx}{σ:St}{H:Hp}
end
end L2
namespace L2
open PySem Nt
section
variable{X:Cx}{elt tg:Expr}{ifs:List Expr}{scope:Scope}{σ:St}{H:Hp}{N':List Str}{A:Addr}{after:Hp->Prop}
end
section
variable{X:Cx}{σ:St}{H:Hp}{Q:VK}{o e e1:Expr}{pos p1 p2 p3 p4:Pos}{j1:Nat}
end
end L2
namespace Nt
open PySem L2 Classical
theorem k7j{ls:List Bl}{f x y:Str}{b c:Bool}(h:Way ls f x b)(g:Way ls x y c):∃ d,Way ls f y d:=by
 induction g with
 | here=>exact⟨b,h⟩
 | there _ m ih=>obtain⟨d,hd⟩:=ih;exact⟨_,.there hd m⟩
 | back _ m ih=>obtain⟨d,hd⟩:=ih;exact⟨_,.back hd m⟩
theorem QO{l1 l2:List Bl}(hm:∀ x y o,(x,y,o)∈l1->∃ o',rk l2 x y o'){f x:Str}{b:Bool}(h:Way l1 f x b):∃ d,Way l2 f x d:=by
 induction h with
 | here=>exact⟨_,.here⟩
 | there _ m ih=>
  obtain⟨d,hd⟩:=ih;obtain⟨o',t | t⟩:=hm _ _ _ m
  ·exact⟨_,.there hd t⟩
  ·exact⟨_,.back hd t⟩
 | back _ m ih=>
  obtain⟨d,hd⟩:=ih;obtain⟨o',t | t⟩:=hm _ _ _ m
  ·exact⟨_,.back hd t⟩
  ·exact⟨_,.there hd t⟩
noncomputable def Ic(n:Net)(T:List Str):List Bl:=((ends n).filter λe=>decide (∃ z,aM n e=some z/\z∈T)).map λe=>(bh n e.1,bh n (other n e).1,false)
theorem c7{n:Net}{T:List Str}{x y:Str}{o:Bool}:(x,y,o)∈Ic n T↔∃ e z,aM n e=some z/\z∈T/\x=bh n e.1/\y=bh n (other n e).1/\o=false:=by
 unfold Ic;rw [Al]
 constructor
 ·rintro ⟨e,he,q⟩;obtain⟨z,hz,ht⟩:=BZ (Cz.mp he).2;exact⟨e,z,hz,ht,(CG (·.1) q).symm,(CG (·.2.1) q).symm,(CG (·.2.2) q).symm⟩
 ·rintro ⟨e,z,hz,ht,rfl,rfl,rfl⟩;exact⟨e,Cz.mpr ⟨ag.mpr ⟨z,hz⟩,BW ⟨z,hz,ht⟩⟩,rfl⟩
def Rt(n:Net)(T:List Str)(x y:Str):Prop:=∃ b,Way (Ic n T) x y b
theorem Rt.refl(n:Net)(T:List Str)(x:Str):Rt n T x x:=⟨_,.here⟩
theorem Rt.trans{n:Net}{T:List Str}{x y z:Str}(h:Rt n T x y)(g:Rt n T y z):Rt n T x z:=by
 obtain⟨_,h⟩:=h;obtain⟨_,g⟩:=g;exact k7j h g
theorem Rt.step{n:Net}{T:List Str}{e:End}{z:Str}(h:aM n e=some z)(hz:z∈T):Rt n T (bh n e.1) (bh n (other n e).1):=⟨_,.there .here<|c7.mpr ⟨e,z,h,hz,rfl,rfl,rfl⟩⟩
theorem Rt.ind{n:Net}(Tw:aC n){T:List Str}{P:Str->Prop}{x y:Str}(h:Rt n T x y)(hx:P x)(hs:∀ e z,aM n e=some z->z∈T->P (bh n e.1)->P (bh n (other n e).1)):P y:=by
 obtain⟨b,h⟩:=h
 induction h with
 | here=>exact hx
 | there _ m ih=>
  obtain⟨e,z,he,hz,rfl,rfl,rfl⟩:=c7.mp m;exact hs e z he hz ih
 | back _ m ih=>
  obtain⟨e,z,he,hz,rfl,rfl,rfl⟩:=c7.mp m;have o:=iB Tw he;have:=hs (other n e) z o.1 hz ih;rw [o.2.1] at this;exact this
theorem q4f{n:Net}(Tw:aC n)(hg:fw n)(h0:0 < n.length){T:List Str}(h:∀ e z,aM n e=some z->Rt n T (bh n e.1) (bh n (other n e).1)):∀ x∈n.map (·.1),Rt n T (eR n) x:=by
 intro x hx;obtain⟨r,hr,rfl⟩:=Al.mp hx;refine hg (λx=>Rt n T (eR n) x) ⟨n[0],Cb h0,?_⟩ (λr hr s hs z zr zs w=>?_) r hr
 ·have:eR n=n[0].1:=pq h0;rw [<- this];exact Rt.refl ..
 ·obtain⟨i,hi,rfl⟩:=Dm.mp hr;obtain⟨j,hj,rfl⟩:=Dm.mp hs;obtain⟨p,hp⟩:=Br zr;obtain⟨q,hq⟩:=Br zs;have h1:aM n (i,p)=some z:=by show(row n i)[p]?=_;rw [jO hi];exact hp
  have h2:aM n (j,q)=some z:=by show(row n j)[q]?=_;rw [jO hj];exact hq
  rcases (rj Tw h1).mp h2 with e | e
  ·have:j=i:=CG (·.1) e;subst this;exact w
  ·have:=h (i,p) z h1;rw [<- e] at this;rw [show bh n ((i,p):End).1=n[i].1 from pq hi,show bh n ((j,q):End).1=n[j].1 from pq hj] at this;exact w.trans this
theorem k95{α:Type} [DecidableEq α] {a b:List α} (ha:a.Nodup) (hb:b.Nodup) (hs:∀ x∈a,x∈b):a.length=b.length↔∀ x∈b,x∈a:=by
 constructor
 ·intro h x hx;refine CV λhn=>?_;have:=aF (b:=b.erase x) ha λz hz=>(Es λe:z=x=>hn<|e ▸ hz).mpr<|hs z hz;rw [Ey hx] at this;have:0 < b.length:=Gf hx;omega
 ·intro h;have h1:=aF ha hs;have h2:=aF hb h;omega
section
variable{n:Net}{z:Str}
def gF(n:Net):Prop:=∀ x∈n.map (·.1),Rt n (af n) (eR n) x
end
def dW(ls:List Lk):List Bl:=ls.map λx=>(x.2.1,x.2.2,false)
theorem q4q{n:Net}(T:aC n){ls:List Lk}(h:∀ x,x∈ls↔pv n x){f x:Str}:(∃ b,Way (dW ls) f x b)↔Rt n (af n) f x:=by
 have mem:∀{x y:Str} {o:Bool},(x,y,o)∈dW ls↔∃ l∈ls,x=l.2.1/\y=l.2.2/\o=false:=λ{x y o}=>by
  unfold dW;rw [Al]
  constructor
  ·rintro ⟨l,hl,q⟩;exact⟨l,hl,(CG (·.1) q).symm,(CG (·.2.1) q).symm,(CG (·.2.2) q).symm⟩
  ·rintro ⟨l,hl,rfl,rfl,rfl⟩;exact⟨l,hl,rfl⟩
 constructor
 ·rintro ⟨b,w⟩;refine QO (λx y o hm=>?_) w;obtain⟨l,hl,rfl,rfl,rfl⟩:=mem.mp hm;obtain⟨e,he,h1,h2⟩:=Zn T<|(h l).mp hl;exact⟨false,.inl<|c7.mpr ⟨e,l.1,he,fk he,h1,h2,rfl⟩⟩
 ·rintro ⟨b,w⟩;refine QO (λx y o hm=>?_) w;obtain⟨e,z,he,hz,rfl,rfl,rfl⟩:=c7.mp hm
  rcases Zo T he with q | q
  ·exact⟨false,.inl<|mem.mpr ⟨_,(h _).mpr q,rfl,rfl,rfl⟩⟩
  ·exact⟨false,.inr<|mem.mpr ⟨_,(h _).mpr q,rfl,rfl,rfl⟩⟩
theorem k29{n:Net}(T:aC n)(hN:(n.map (·.1)).Nodup)(h0:0 < n.length){ls:List Lk}(h:∀ x,x∈ls↔pv n x){kvs:List (Key×V)}(I:dj (dW ls) (eR n) none kvs []):kvs.length=n.length↔gF n:=by
 have key:∀ x,Sum.inr x∈kvs.map (·.1)↔Rt n (af n) (eR n) x:=λx=>by
  rw [<- q4q T h]
  constructor
  ·intro hx;cases hv:aB kvs (Sum.inr x) with
   | none=>exact absurd hx<|I.jS hv
   | some v=>
    obtain⟨b,_,w⟩:=I.val x v hv;exact⟨b,w⟩
  ·rintro ⟨b,w⟩;obtain⟨b',qY⟩:=I.whole x b w;exact Zw qY
 have names:∀ x,Rt n (af n) (eR n) x->x∈n.map (·.1):=λx hx=>hx.ind T (P:=λx=>x∈n.map (·.1)) (rp h0) λe z he _ _=>rp<|Zq T he;have pj:((n.map (·.1)).map (Sum.inr:Str->Key)).Nodup:=JQ _ (λa b h e=>h<|Sum.inr.inj e) hN;have k:=k95 I.gy pj λk hk=>by
  obtain⟨x,rfl,_⟩:=I.txt k hk;exact Al.mpr ⟨x,names x<|(key x).mp hk,rfl⟩
 rw [Aa,Aa,Aa] at k;rw [k]
 constructor
 ·exact λq x hx=>(key x).mp<|q _<|Al.mpr ⟨x,hx,rfl⟩
 ·intro q y hy;obtain⟨x,hx,rfl⟩:=Al.mp hy;exact(key x).mpr<|q x hx
section
variable{H0 H:Hp}{d l0 a:Addr}{done:List (Str×End)}{kvs:List (Key×V)}{ks:List Str}{z:Str}{e:End}
end
end Nt
namespace L2
open PySem PySem.Spec PyProof.Rows
theorem k56{X:Cx}:eI X (.builtin "len") (λxs H Q=>∃ a zs,xs=[V.ref a]/\H a=some (de X.prog X.w a zs)/\Q (.int zs.length) H):=by
 intro pins s σ H xs us Q I r h;obtain⟨a,zs,rfl,ha,q⟩:=h;obtain⟨u,rfl,ru⟩:=vals1 r;cases ru;obtain⟨o,es,ep,t,ho,hx,hd,T⟩:=(I.aA a _ ha).1;have hl:es.size=zs.length:=by have:=T.keys.length_eq;simpa using this
 refine call_len_set ho hx hd T.fits (by have:=T.few;omega) ?_;rw [hl];exact⟨.int zs.length,H,I.tok _,⟨_,rfl⟩,q⟩
end L2
namespace B4
open PySem L2 Nt bK bT
open PyProof.Rows (sortedS)
open Classical
def nr(c:Nat):Bool:=decide (c∈lets.cps.toList)
def aQ(z:Str):Bool:=decide (1<=z.length/\z.length<=8) && z.cps.toList.all nr
def mh(K:PySem.W.Frag):Sp:=λvs H Q _=>∃ v,vs=[v] /\
 ((∃ z,v = .str z/\z.length<=100000/\∀ H',aj H H'->Q (.bl<|aQ z) H')\/∃ t,cW K H v t/\PySem.W.kitOne K t (.type "str")=some false/\Q (.bl false) H)
theorem q4r(K:PySem.W.Frag):PySem.W.kitOne K (.type "str") (.type "str")=some true:=by rfl
def p7:Sp:=λvs H Q _=>∃(R:Addr) (as:List<|Addr×Addr) (n:Net),vs=[.ref R]/\ah H R as n/\n.length<=1000/\(af n).length<=900/\(∀ zs:List Str,zs.Nodup->(∀ z∈zs,z∈af n)->zs.length < 64) /\
 ∀(L:Addr) (ss:List Str) (H':Hp),aj H H'->H L=none->H' L=some (Ls ss)->ss.Nodup->sortedS ss=true->(∀ z,z∈ss↔z∈af n)->Q (.ref L) H'
theorem QP{zs:List Str}{z:Str}(h:zs.Nodup):(added zs z).Nodup:=by
 unfold added
 split
 ·exact h
 ·rename_i hz;exact kd h hz
theorem k7k{zs:List Str}{z y:Str}:y∈added zs z↔y∈zs\/y=z:=by
 unfold added
 split
 ·rename_i hz;refine⟨.inl,λh=>h.elim id λe=>?_⟩;rw [e];exact hz
 ·rw [An,Ag]
theorem QQ{n:Net}{r:Nat}(h:r < n.length):af (n.take<|r+1)=af (n.take r)++row n r:=by
 rw [jO h];unfold af;rw [By,Ab h,Dh];simp
def Ie:Sp:=λvs H Q _=>∃(R:Addr) (as:List<|Addr×Addr) (n:Net),vs=[.ref R]/\ah H R as n/\n.length<=1000/\∀(L:Addr) (H':Hp),aj H H'->H L=none->H' L=some (Ls (n.map (·.1)))->Q (.ref L) H'
theorem l8.snoc{H:Hp}{us:List Addr}{ls:List Bl}{u:Addr}{x:Bl}(h:l8 H us ls)(hu:H u=some (Qn x)):l8 H (us++[u]) (ls++[x]):=by
 refine⟨by rw [Ae,Ae,h.1];rfl,λj v y h1 h2=>?_⟩;have hl:=h.1
 by_cases hj:j < us.length
 ·rw [Ay hj] at h1;rw [Ay<|by omega] at h2;exact h.2 j v y h1 h2
 ·rw [Bd<|by omega] at h1 h2;have gM:j - us.length=0:=by
   have:=(Ac.mp h1).1;simp at this;omega
  rw [gM] at h1;rw [<- hl,gM] at h2;cases h1;cases h2;exact hu
noncomputable def p8:Sp:=λvs H Q _=>∃(R:Addr) (as:List<|Addr×Addr) (n:Net),vs=[.ref R]/\ah H R as n/\aC n/\(n.map (·.1)).Nodup/\0 < n.length/\n.length<=60/\(af n).length<=60/\∀ H',aj H H'->Q (.bl<|decide (gF n)) H'
theorem k4i{ls:List Lk}{i:Nat}(h:i < ls.length):dW (ls.take<|i+1)=dW (ls.take i)++[((ls[i]).2.1,(ls[i]).2.2,false)]:=by
 unfold dW;rw [By,Ab h,Am];rfl
def ce:List Str:=["NoNet","Broken","NoPlane","NoTie","NoText"]
structure Cl(K:PySem.W.Frag)(mg:Str->Option Value)(c:Str->Addr):Prop where
 net:mg "NetError" = some (.ref<|c "NetError")
 Ig:XC K<|c "NetError"
 at':∀ x∈ce,mg x=some (.ref<|c x)/\XC K (c x)/\rH K (c x) (c "NetError")=true/\me K (c x)=true/\PySem.W.kitOne K (.ref<|c x) (.type "ValueError")=some true
 vq:∀ x∈ce,∀ y∈ce,PySem.W.kitOne K (.ref<|c x) (.ref<|c y)=some (decide (x=y))
def jx(K:PySem.W.Frag)(x:Str):Addr:=match PySem.W.nsIn K mainGlobals x with
 | some (some<|.ref a)=>a
 | _=>0
def Ih(K:PySem.W.Frag):Bool:=(PySem.W.nsIn K mainGlobals "NetError" == some (some<|.ref<|jx K "NetError")) && PySem.W.excIn K (jx K "NetError") l9 "ValueError.__new__" &&
 ce.all λx=>(PySem.W.nsIn K mainGlobals x == some (some<|.ref<|jx K x)) && PySem.W.excIn K (jx K x) l9 "ValueError.__new__" && rH K (jx K x) (jx K "NetError") && me K (jx K x) && (PySem.W.kitOne K (.ref<|jx K x) (.type "ValueError") == some true) &&
  ce.all λy=>PySem.W.kitOne K (.ref<|jx K x) (.ref<|jx K y) == some (decide (x=y))
theorem q8m{K:PySem.W.Frag}{h:Heap}{mg:Str->Option Value}(X:K.In h)(G:h.Ns mainGlobals mg)(q:Ih K=true):Cl K mg (jx K):=by
 unfold Ih at q;simp only [Bk,Cq,KQ] at q;obtain⟨⟨q1,q2⟩,q3⟩:=q;exact⟨IW X G q1,q2,λx hx=>by obtain⟨⟨⟨⟨⟨a1,a2⟩,a3⟩,a4⟩,a5⟩,_⟩:=q3 x hx;exact⟨IW X G a1,a2,a3,a4,a5⟩,λx hx y hy=>(q3 x hx).2 y hy⟩
structure Good(n:Net):Prop where
 twice:aC n
 names:(n.map (·.1)).Nodup
 pos:0 < n.length
 few:n.length<=60
 less:(af n).length<=60
 nA:∀ x∈n.map (·.1),aQ x=true/\x.length<=8
 nC:∀ z∈af n,aQ z=true/\z.length<=8
noncomputable def Flt(n:Net)(ss:List Str):Prop:=(n.length:Int) - (ss.length:Int)+((jq n).length:Int)=2
noncomputable def Ii:Sp:=λvs H Q _=>∃(R:Addr) (as:List<|Addr×Addr) (n:Net),vs=[.ref R]/\ah H R as n/\Good n/\∀ ss H',aj H H'->ss.Nodup->(∀ z,z∈ss↔z∈af n)->Q (.bl<|decide (Flt n ss)) H'
theorem q1q{zs:List Str}(h:zs.Nodup):(made zs).length=zs.length:=by
 have h2:=BI zs;have h3:=aF h λz hz=>(wI zs z).mpr hz;omega
section
variable{P:Program}{w:World}{K:PySem.W.Frag}{mg:Str->Option Value}{base:Heap}
theorem Ij:ao ["thing"] ["thing"] (aW w9):=⟨rfl,rfl,rfl,by decide +kernel,rfl,by decide +kernel,by decide +kernel⟩
theorem q7u{f:Addr}{fd:FuncData}(F:bM K "is_name" "is_name" w9 f fd)(T:Txt mg):aD P w K mg base bP 1 f fd ["thing"] (mh K):=by
 refine F.gb Ij (λvs H Q E h=>?_) λb0 H vs Q E hr h=>?_
 ·obtain⟨v,rfl,_⟩:=h;rfl
 obtain⟨us,hs,rs⟩:=T.signs;obtain⟨um,hm,rm⟩:=T.most;obtain⟨v,rfl,h⟩:=h;show Run _ _ _ [some v] H;refine d9<|mF<|ou<|bJ Va T.qP FT<|ai<|ae 0<|ai<|Li (.ty "str") T.C6 PyProof.Rows.boot_str rfl (au ?_)
 rcases h with ⟨z,rfl,hz,q⟩ | ⟨t,ty,e,q⟩
 ·refine⟨_,_,_,true,rfl,.str z,q4r K,true,rfl,bp<|aH ?_⟩;refine d9<|iU<|oA<|bX zq<|bJ KL T.len CZ<|ai<|ae 0<|au ⟨z,rfl,small hz,ay ⟨_,_,rfl,rfl,_,rfl,?_⟩⟩;refine iS (λc=>?_) λc=>?_
  ·have c':=BZ c;have e:aQ z=false:=by
    unfold aQ;rw [BX<|by omega];rfl
   refine a9<|bY<|fF ?_;have:=q H<|aj.refl H;rw [e] at this;exact this
  ·have c':¬((z.length:Int) < 1):=λh=>c<|BW h;refine qH<|bX Kk<|bJ KL T.len CZ<|ai<|ae 0<|au ⟨z,rfl,small hz,oq hm rm ⟨_,_,rfl,rfl,_,rfl,?_⟩⟩;refine iS (λd=>?_) λd=>?_
   ·have d':=BZ d;have e:aQ z=false:=by
     unfold aQ;rw [BX<|by omega];rfl
    refine bY<|fF ?_;have:=q H<|aj.refl H;rw [e] at this;exact this
   ·have d':¬((8:Int) < (z.length:Int)):=λh=>d<|BW h;refine aH<|bY<|bJ (AF rfl) T.all NZ<|ai<|qI (aW w9) ["thing"] ["thing","sign"] 1 (U6 bE) ?_;refine ae 0 ⟨z,rfl,λD hD=>?_⟩;refine VH (x:= "sign") (σ:=[some<|.str z]) (λc=> .bl<|nr c) (cb (n:=z.cps.size)<|by have:z.cps.size=z.length:=rfl;omega) (λ_ _ _ _ _ v v0 H' R hR=>bx 1 (show(["thing","sign"]:List Str).Nodup by decide +kernel) hR) (λ_ _ _ _ _ c H' R _ hR=>?_) ?_
    ·refine mE Tr<|ae 1<|oq hs rs ⟨_,_,rfl,rfl,?_⟩;rw [StrLaws.found_one];exact hR
    ·refine au ⟨D,z.cps.toList.map nr,rfl,al.of (by rw [aw,Cf];rfl),?_⟩;have e:aQ z=(z.cps.toList.map nr).all id:=by
      unfold aQ;rw [BW (by omega),TY,UJ];rfl
     have:=q _<|aJ hD<|.lst<|z.cps.toList.map λc=>V.bl<|nr c;rw [e] at this;exact this
 ·exact⟨_,t,_,false,rfl,ty,e,false,rfl,a9<|bY<|fF q⟩
abbrev vt:List Str:=["rows"]
abbrev vw:List Str:=["rows","point","ties","tie"]
theorem j4:ao vt ["rows"] (aW xf):=⟨rfl,rfl,rfl,by decide +kernel,rfl,by decide +kernel,by decide +kernel⟩
theorem Ik:vw.Nodup:=by decide +kernel
theorem q3a{f:Addr}{fd:FuncData}(F:bM K "ties_of" "ties_of" xf f fd)(T:Txt mg):aD P w K mg base bP 1 f fd ["rows"] p7:=by
 refine F.gb j4 (λvs H Q E h=>?_) λb0 H vs Q E hr h=>?_
 ·obtain⟨R,as,n,rfl,_⟩:=h;rfl
 obtain⟨R,as,n,rfl,hR,hn,ht,db,q⟩:=h;have nd:=j4.nd;have bB:=hR.len;have sub:∀(zs:List Str) (r:Nat) (ys:List Str),zs.Nodup->(∀ z,z∈zs->z∈af n)->zs.length < 64:=λzs r ys h1 h2=>db zs h1 h2;have Il:∀ r,r < n.length->∀ z,z∈af (n.take r)\/z∈row n r->z∈af n:=λr px z hz=>by
  have e:af n=af (n.take<|r+1)++af (n.drop<|r+1):=by
   unfold af;rw [<- Dh,Cj]
  rw [e,QQ px]
  rcases hz with h | h <;> simp [h]
 show Run _ _ _ [some<|.ref R] H;refine bY<|bJ (Wm rfl) T.sorted KJ<|ai<|XR (aW xf) vt vw 3 (iQ bE)<|ae 0 ⟨R,rfl,⟨_,al.of hR.lst⟩,λD hD cl C s₀ H₀ ex=>?_⟩;refine rE (xs:=as.map λa=>V.ref a.1) (λr σ' H'=>(∃ v1 v2 v3,σ'=[some<|.ref R]++[v1,v2,v3])/\∃ zs:List Str,aj H H'/\H' D=some (de P w D zs)/\zs.Nodup/\∀ z,z∈zs↔z∈af (n.take r)) ⟨⟨none,none,none,rfl⟩,[],aJ hD _,aw,Cd,λz=>Iff.rfl⟩ ?_ ?_ ?_
 ·rintro r σ' H' _ ⟨_,zs,sm,_⟩;exact al.of<|sm _ _ hR.lst
 ·rintro r x σ' H' hx ⟨⟨v1,v2,v3,rfl⟩,zs,sm,eD,zn,zm⟩;have hi:r < n.length:=by
   have:=(Ac.mp hx).1;rw [Aa] at this;omega
  obtain⟨a,ea,dP,et,el,er⟩:=(hR.same sm).at hi;rw [Af,ea] at hx;cases hx;refine kr rfl (aK.of et) (bx 1 Ik<|bx 2 Ik ?_);refine gS ?_;rw [BR rfl];refine XQ rfl rfl (iQ bE) (ae 2 ⟨a.2,rfl,⟨_,al.of el⟩,?_⟩);have Im:a.2≠D:=bN el eD λz=>nomatch z;refine rE (xs:=(row n r).map V.str) (λp σ' bU=>(∃ v3,σ'=[some<|.ref R]++[some<|.str n[r].1,some<|.ref a.2,v3])/\∃ zs:List Str,(∀ b o,b≠D->H' b=some o->bU b=some o)/\bU D=some (de P w D zs)/\zs.Nodup/\∀ z,z∈zs↔z∈af (n.take r)\/z∈(row n r).take p)
   ⟨⟨_,rfl⟩,zs,λb o _ h=>h,eD,zn,λz=>by rw [zm z];simp⟩ ?_ ?_ ?_
  ·rintro p σ' bU _ ⟨_,zs,kb,_⟩;exact al.of<|kb _ _ Im el
  ·rintro p x σ' bU hx ⟨⟨v3,rfl⟩,zs,kb,ju,yp,yq⟩;rw [Af,Av] at hx;obtain⟨z,hz,rfl⟩:=hx;refine bx 3 Ik ?_;refine gS ?_;rw [BR rfl];have hl:zs.length < 64:=db zs yp λy hy=>Il r hi y<|((yq y).mp hy).imp id λh=>List.mem_of_mem_take h;refine XN (ae 3 ⟨z,zs,rfl,ju,by omega,⟨_,rfl⟩,added zs z,λb o hb h=>by rw [aq hb];exact kb b o hb h,aw,QP yp,λy=>?_⟩);rw [k7k,yq y,By,hz,or_assoc];simp
  ·rintro σ' bU ⟨⟨v3,rfl⟩,zs,kb,ju,yp,yq⟩;refine⟨⟨_,_,_,rfl⟩,zs,λb o h=>kb b o (bC h hD)<|sm _ _ h,ju,yp,λz=>?_⟩;rw [yq z,Aa,Bq,QQ hi,An]
 ·rintro σ' H' ⟨_,zs,sm,eD,zn,zm⟩;rw [Aa,bB,Bq] at zm;refine au ⟨D,zs,rfl,eD,db zs zn λy hy=>(zm y).mp hy,λl ss hl hp hs=>?_⟩;exact q l ss _ (sm.trans<|aJ hl _) (g8 sm hl) aw (hp.nodup_iff.mpr zn) hs λz=>by rw [hp.mem_iff,zm z]
abbrev vx:List Str:=["rows"]
abbrev vy:List Str:=["rows","point","ties"]
theorem q8b:ao vx ["rows"] (aW xc):=⟨rfl,rfl,rfl,by decide +kernel,rfl,by decide +kernel,by decide +kernel⟩
theorem QR:vy.Nodup:=by decide +kernel
theorem k55{f:Addr}{fd:FuncData}(F:bM K "points_of" "points_of" xc f fd)(T:Txt mg):aD P w K mg base bP 1 f fd ["rows"] Ie:=by
 refine F.gb q8b (λvs H Q E h=>?_) λb0 H vs Q E hr h=>?_
 ·obtain⟨R,as,n,rfl,_⟩:=h;rfl
 obtain⟨R,as,n,rfl,hR,hn,q⟩:=h;have bB:=hR.len;show Run _ _ _ [some<|.ref R] H;refine bY<|qI (aW xc) vx vy 2 (iQ bE)<|ae 0 ⟨R,rfl,⟨_,al.of hR.lst⟩,λD hD=>?_⟩;refine qT (xs:=as.map λa=>V.ref a.1) (λi σ' H'=>(∃ v1 v2,σ'=[some<|.ref R]++[v1,v2])/\H'=upd H D (Ls ((n.take i).map (·.1)))) ⟨⟨none,none,rfl⟩,rfl⟩ ?_ ?_ ?_
 ·rintro i σ' H' _ ⟨_,rfl⟩;exact al.of<|aJ hD _ _ _ hR.lst
 ·rintro i x σ' H' hx ⟨⟨v1,v2,rfl⟩,rfl⟩;have hi:i < n.length:=by
   have:=(Ac.mp hx).1;rw [Aa] at this;omega
  obtain⟨a,ea,dP,et,el,er⟩:=(hR.same (aJ hD (Ls ((n.take i).map (·.1))))).at hi;rw [Af,ea] at hx;cases hx;intro cl C' s₀ H₀ ex;refine kr rfl (aK.of et) (bx 1 QR<|bx 2 QR ?_);intro cl C' s₀ H₀ ex;refine gS ?_;rw [BR rfl];intro cl C' s₀ H₀ ex;refine ae 1 ⟨_,aw,?_,⟨_,_,rfl⟩,?_⟩
  ·rw [Aa,Aa,Be];exact cb<|by omega
  ·rw [qk,By,Ab hi,Am];exact xi
 ·rintro σ' H' ⟨_,rfl⟩;rw [Aa,bB,Bq];exact q D _ (aJ hD _) hD aw
abbrev QU:List Str:=["rows","links"]
abbrev vz:List Str:=["rows","links","tie","one","other"]
theorem vA:ao QU ["rows"] (aW xa):=⟨rfl,rfl,rfl,by decide +kernel,rfl,by decide +kernel,by decide +kernel⟩
theorem Io:vz.Nodup:=by decide +kernel
theorem q8s{f:Addr}{fd:FuncData}(F:bM K "hangs_together" "hangs_together" xa f fd)(T:Txt mg)(GL:aV P w K mg base 1 "links_of" ["rows"] Hw)(GS:aV P w K mg base 1 "spread" ["first","links"] Hz) :
  aD P w K mg base bP 2 f fd ["rows"] p8:=by
 refine F.gb vA (λvs H Q E h=>?_) λb0 H vs Q E hr h=>?_
 ·obtain⟨R,as,n,rfl,_⟩:=h;rfl
 obtain⟨R,as,n,rfl,hR,hT,hN,h0,hn,ni,q⟩:=h;have nd:=vA.nd;have bB:=hR.len;show Run _ _ _ [some<|.ref R,none] H;refine LJ 1 (aW xa) QU vz 3 nd (iQ bE) (bZ GL hr<|ai<|ae 0<|au ⟨R,as,n,rfl,hR,hT,by omega,ni,λL us ls H1 s1 n1 eL fJ MG ib hlen=>?_⟩);refine⟨L,rfl,⟨_,al.of eL⟩,λD hD=>?_⟩;have pV:=fJ.1;refine qT (xs:=us.map V.ref) (λi σ' H'=>(∃ v1 v2 v3,σ'=[some<|.ref R,none]++[v1,v2,v3])/\∃ ws:List Addr,aj H1 H'/\H' D=some (.lst<|ws.map V.ref)/\l8 H' ws (dW<|ls.take i)) ⟨⟨_,_,_,rfl⟩,[],aJ hD _,aw,rfl,λj u x h=>by simp at h⟩ ?_ ?_ ?_
 ·rintro i σ' H' _ ⟨_,ws,sm,_⟩;exact al.of<|sm _ _ eL
 ·rintro i x σ' H' hx ⟨⟨v1,v2,v3,rfl⟩,ws,sm,eD,ja⟩;rw [Af,Av] at hx;obtain⟨u,lN,rfl⟩:=hx;have hi:i < ls.length:=by
   have:=(Ac.mp lN).1;omega
  have pQ:=sm _ _<|fJ.2 i u _ lN<|Ab hi;rw [k4i hi];have lw:ws.length<=i:=by
   have:=ja.1;unfold dW at this;rw [Aa,Be] at this;omega
  generalize ls[i]=lx at pQ;obtain⟨ti,on,ot⟩:=lx;intro cl C' s₀ H₀ ex;refine Pq rfl (aK.of pQ) (bx 2 Io<|bx 3 Io<|bx 4 Io ?_);intro cl C' s₀ H₀ ex;refine gS<|a9 ?_;intro cl C' s₀ H₀ ex;refine cM (ai<|ae 3<|ai<|ae 4<|ai<|fF<|au ⟨(by show 3<=sizeLine;decide),λt eX=>?_⟩);have xS:t≠D:=λe=>by rw [e,eD] at eX;cases eX
  have sT:=aJ eX<|.tup [.str on,.str ot,.bl false];refine⟨_,sT _ _ eD,by rw [Aa];exact cb (by omega),⟨_,_,_,rfl⟩,ws++[t],dN (sm.trans sT) hD,?_,?_⟩
  ·rw [aw,Am];rfl
  ·refine l8.snoc ⟨ja.1,λj v y h1 h2=>?_⟩ ?_
   ·have e:=sT _ _<|ja.2 j v y h1 h2;rw [aq<|bN e (sT _ _ eD) λz=>nomatch z];exact e
   ·rw [aq xS];exact aw
 ·rintro σ' H2 ⟨_,ws,s2,eD,ja⟩;rw [Aa,pV,Bq] at ja;have kD:aj H H2:=s1.trans s2;have Ip:=hR.same kD;obtain⟨a0,ZK,pB,xN,EL,ZL⟩:=Ip.at h0;rw [<- pq h0] at xN;show Run _ _ _ [some<|.ref R,some<|.ref D] H2;refine bY<|mE dA<|bJ U3 T.len CZ<|ai<|bZ GS hr<|ai<|aS cC<|aS cf<|ae 0<|ay ⟨R,_,_,.ref a0.1,rfl,rfl,al.of Ip.lst,pB,ay ⟨a0.1,_,_,.str<|bh n 0,rfl,rfl,aK.of xN,rfl,?_⟩⟩;refine ai (ae 1<|au ⟨eR n,D,ws,dW ls,rfl,eD,ja,by unfold dW;rw [Aa];omega,λd kvs H3 s3 nd3 ed3 I=>au ⟨d,kvs,rfl,ed3,?_⟩⟩);refine bJ cZ T.len CZ<|ai<|ae 0<|au ⟨R,_,rfl,.inl<|al.of<|s3 _ _ Ip.lst,rfl,?_⟩;rw [Aa,bB];have k:=k29 hT hN h0 ib I;have e:decide (V.int (kvs.length:Int)=V.int (n.length:Int))=decide (gF n):=by
   rw [decide_eq_decide,<- k]
   constructor
   ·intro h;have:=V.int.inj h;omega
   ·intro h;rw [h]
  rw [e];exact q H3<|kD.trans s3
abbrev rJ:List Str:=["rows","points"]
abbrev QY:List Str:=["rows","points","point"]
theorem vB:ao rJ ["rows"] (aW mU):=⟨rfl,rfl,rfl,by decide +kernel,rfl,by decide +kernel,by decide +kernel⟩
theorem q7v:QY.Nodup:=by decide +kernel
abbrev p9:List Str:=["rows","names"]
abbrev vC:List Str:=["rows","names","point","ties","tie"]
abbrev vD:List Str:=["rows","names","tie"]
theorem vE:ao p9 ["rows"] (aW tQ):=⟨rfl,rfl,rfl,by decide +kernel,rfl,by decide +kernel,by decide +kernel⟩
theorem Iq:vC.Nodup:=by decide +kernel
theorem q5y:vD.Nodup:=by decide +kernel
abbrev NPl:List Str:=["rows"]
theorem vF:ao NPl ["rows"] (aW CI):=⟨rfl,rfl,rfl,by decide +kernel,rfl,by decide +kernel,by decide +kernel⟩
theorem k8b{f:Addr}{fd:FuncData}(F:bM K "is_plane" "is_plane" CI f fd)(T:Txt mg)(GT:aV P w K mg base 4 "ties_of" ["rows"] p7)(GF:aV P w K mg base 4 "faces_of" ["rows"] Hi) :
  aD P w K mg base bP 5 f fd ["rows"] Ii:=by
 refine F.gb vF (λvs H Q E h=>?_) λb0 H vs Q E hr h=>?_
 ·obtain⟨R,as,n,rfl,_⟩:=h;rfl
 obtain⟨R,as,n,rfl,hR,g,q⟩:=h;have nd:=vF.nd;have bB:=hR.len;have hn:=g.few;have ni:=g.less;show Run _ _ _ [some<|.ref R] H;refine bY<|mE dA<|aI dZ<|aI Tl<|bJ cZ T.len CZ<|ai<|ae 0<|au ⟨R,_,rfl,.inl<|al.of hR.lst,?_⟩;refine bJ cZ T.len CZ (ai<|bZ GT hr<|ai<|ae 0<|au ⟨R,as,n,rfl,hR,by omega,by omega,λzs h1 h2=>by have:=aF h1 h2;omega,λL ss H1 s1 n1 e1 snd so mem=>au ⟨L,_,rfl,.inl<|al.of e1,?_⟩⟩);refine⟨_,_,rfl,rfl,bJ cZ T.len CZ<|ai<|bZ GF hr<|ai<|ae 0<|au ⟨R,as,n,rfl,hR.same s1,g.names,g.twice,by omega,by omega,λM ls H2 s2 n2 hW fW=>au ⟨M,_,rfl,.inl<|al.of hW.lst,?_⟩⟩⟩;refine⟨_,_,rfl,rfl,ay ⟨rfl,?_⟩⟩;rw [Aa,Aa,Aa,bB,hW.len];have e:decide (V.int ((n.length:Int) - (ss.length:Int)+((jq n).length:Int))=V.int 2)=decide (Flt n ss):=decide_eq_decide.mpr ⟨λh=>V.int.inj h,λh=>CG V.int h⟩;rw [e];exact q ss H2 (s1.trans s2) snd mem
abbrev NVt:List Str:=["rows"]
theorem vG:ao NVt ["rows"] (aW CH):=⟨rfl,rfl,rfl,by decide +kernel,rfl,by decide +kernel,by decide +kernel⟩
open PyProof.Rows (sortedS)
def jb(n:Net)(z:Str):Bool:=aQ z && decide ((af n).count z=2)
def gtB(n:Net):Bool:=(af n).all<|jb n
def Ir:Sp:=λvs H Q _=>∃(R:Addr) (as:List<|Addr×Addr) (n:Net),vs=[.ref R]/\ah H R as n/\n.length<=60/\(af n).length<=200/\(∀ z∈af n,z.length<=1000)/\∀ H',aj H H'->Q (.bl<|gtB n) H'
theorem q57{f:Addr}{fd:FuncData}(F:bM K "has_good_ties" "has_good_ties" tQ f fd)(T:Txt mg)(GI:aV P w K mg base 1 "is_name" ["thing"]<|mh K) :
  aD P w K mg base bP 2 f fd ["rows"] Ir:=by
 refine F.gb vE (λvs H Q E h=>?_) λb0 H vs Q E hr h=>?_
 ·obtain⟨R,as,n,rfl,_⟩:=h;rfl
 obtain⟨R,as,n,rfl,hR,hn,ni,vf,q⟩:=h;have nd:=vE.nd;have bB:=hR.len;show Run _ _ _ [some<|.ref R,none] H;refine aN 1 nd<|Nk (aW tQ) p9 vC 3 (iQ bE)<|ae 0 ⟨R,rfl,⟨_,al.of hR.lst⟩,λD hD cl C s₀ H₀ ex=>?_⟩;refine rE (xs:=as.map λa=>V.ref a.1) (λr σ' H'=>(∃ v1 v2 v3,σ'=[some<|.ref R,none]++[v1,v2,v3])/\aj H H'/\H' D=some (Ls<|af<|n.take r)) ⟨⟨none,none,none,rfl⟩,aJ hD _,aw⟩ ?_ ?_ ?_
 ·rintro r σ' H' _ ⟨_,sm,_⟩;exact al.of<|sm _ _ hR.lst
 ·rintro r x σ' H' hx ⟨⟨v1,v2,v3,rfl⟩,sm,eD⟩;have hi:r < n.length:=by
   have:=(Ac.mp hx).1;rw [Aa] at this;omega
  obtain⟨a,ea,dP,et,el,er⟩:=(hR.same sm).at hi;rw [Af,ea] at hx;cases hx;have Im:a.2≠D:=λe=>by
   have:=(hR.tup r a n[r] ea<|Ab hi).2;rw [e,hD] at this;cases this
  refine kr rfl (aK.of et) (bx 2 Iq<|bx 3 Iq<|gS<|a9 ?_);refine Nj rfl rfl (iQ bE) (ae 3 ⟨a.2,rfl,⟨_,al.of el⟩,?_⟩);refine rE (xs:=(row n r).map V.str) (λp σ' bU=>(∃ v3,σ'=[some<|.ref R,none]++[some<|.str n[r].1,some<|.ref a.2,v3])/\(∀ b o,b≠D->H' b=some o->bU b=some o)/\bU D=some (Ls<|af (n.take r)++(row n r).take p)) ⟨⟨_,rfl⟩,λb o _ h=>h,by rw [eD];simp⟩ ?_ ?_ ?_
  ·rintro p σ' bU _ ⟨_,kb,_⟩;exact al.of<|kb _ _ Im el
  ·rintro p x σ' bU hx ⟨⟨v3,rfl⟩,kb,ju⟩;rw [Af,Av] at hx;obtain⟨z,hz,rfl⟩:=hx;refine bx 4 Iq<|gS<|a9 ?_;refine A7<|ae 4 ⟨_,ju,?_,⟨_,rfl⟩,λb o hb h=>by rw [aq hb];exact kb b o hb h,?_⟩
   ·have h1:=wU n r;have h2:=gZ n r;rw [Aa,Ae,Be];exact cb<|by omega
   ·rw [aw,By,hz];show _=some (HO.lst<|List.map V.str<|_++(_++[z]));rw [<- Ba,Am (l₂:=[z])];rfl
  ·rintro σ' bU ⟨⟨v3,rfl⟩,kb,ju⟩;refine⟨⟨_,_,_,rfl⟩,λb o h=>kb b o (bC h hD)<|sm _ _ h,?_⟩;rw [ju,Aa,Bq,QN hi]
 rintro σ' H2 ⟨_,s2,eD⟩;rw [Aa,bB,Bq] at eD;show Run _ _ _ [some<|.ref R,some<|.ref D] H2;refine bY<|bJ (AF rfl) T.all NZ<|ai<|qI (aW tQ) p9 vD 1 (iQ bE)<|ae 1 ⟨D,rfl,⟨_,al.of eD⟩,λD2 x6=>?_⟩;refine qT (xs:=(af n).map V.str) (λi σ' H'=>(∃ v,σ'=[some<|.ref R,some<|.ref D]++[v])/\aj H2 H'/\H' D2=some (.lst<|(((af n).take i).map<|jb n).map V.bl)) ⟨⟨none,rfl⟩,aJ x6 _,aw⟩ ?_ ?_ ?_
 ·rintro i σ' H' _ ⟨_,sm,_⟩;exact al.of<|sm _ _ eD
 ·rintro i x σ' H' hx ⟨⟨v,rfl⟩,sm,vH⟩;have hi:=(Ac.mp hx).1;rw [Aa] at hi;rw [Af,Av] at hx;obtain⟨z,hz,rfl⟩:=hx;have va:=Aq hz;have lz:=vf z va;have pX:(((af n).take<|i+1).map<|jb n).map V.bl=(((af n).take i).map<|jb n).map V.bl++[V.bl<|jb n z]:=by rw [By,hz,Am,Am];rfl
  have lD:((((af n).take i).map<|jb n).map V.bl).length < sizeLine:=by rw [Aa,Aa,Be];exact cb<|by omega
  intro vI C' s₀ H₀ ex;refine bx 2 q5y ?_;intro vI C' s₀ H₀ ex;refine gS<|a9 ?_;intro vI C' s₀ H₀ ex;refine Vj (bZ GI hr<|ai<|ae 2<|au ⟨_,rfl,.inl ⟨z,rfl,by omega,λH3 s3=>⟨_,rfl,?_⟩⟩⟩);cases g7:aQ z with
  | false=>
   refine bp ⟨_,s3 _ _ vH,lD,⟨_,rfl⟩,dN (sm.trans s3) x6,?_⟩;rw [aw,pX,show jb n z=false by unfold jb;rw [g7];rfl]
  | true=>
   refine a9<|Vk<|mE dA<|B6 CP PySem.F.slot_list_count PySem.F.type_list_count k97<|ae 1 (v:= .ref D) ⟨Or.inl ⟨rfl,_,al.of<|s3 _ _<|sm _ _ eD⟩,ae 2 ⟨D,af n,z,rfl,rfl,al.of<|s3 _ _<|sm _ _ eD,ay ⟨rfl,?_⟩⟩⟩;refine⟨_,s3 _ _ vH,lD,⟨_,rfl⟩,dN (sm.trans s3) x6,?_⟩;have ec:decide (V.int (((af n).count z:Nat):Int)=V.int 2)=decide ((af n).count z=2):=decide_eq_decide.mpr ⟨λh=>by have:=V.int.inj h;omega,λh=>by rw [h];rfl⟩;rw [aw,pX,show jb n z=decide ((af n).count z=2) by unfold jb;rw [g7];rfl,<- ec]
 rintro σ' H3 ⟨_,s3,vH⟩;rw [Aa,Bq] at vH;refine au ⟨D2,_,rfl,al.of vH,?_⟩;have ea:((af n).map<|jb n).all id=gtB n:=by
  unfold gtB;rw [UJ];rfl
 rw [ea];exact q H3<|s2.trans s3
open PyProof.Rows (sortedS)
def kG(n:Net):Bool:=!(n.map (·.1)).isEmpty && decide (n.map (·.1)).Nodup && (n.map (·.1)).all aQ
theorem Q0:∀(zs acc:List Str),acc.Nodup->(zs.foldl added acc).Nodup
 | [],acc,h=>h
 | z :: zs,acc,h=>Q0 zs (added acc z)<|QP h
theorem yr(zs:List Str):(made zs).Nodup:=Q0 zs [] Cd
def Iu:Sp:=λvs H Q _=>∃(R:Addr) (as:List<|Addr×Addr) (n:Net),vs=[.ref R]/\ah H R as n/\n.length<=60/\(∀ z∈n.map (·.1),z.length<=1000)/\∀ H',aj H H'->Q (.bl<|kG n) H'
theorem q5v{f:Addr}{fd:FuncData}(F:bM K "has_good_points" "has_good_points" mU f fd)(T:Txt mg)(GP:aV P w K mg base 1 "points_of" ["rows"] Ie)(GI:aV P w K mg base 1 "is_name" ["thing"]<|mh K) :
  aD P w K mg base bP 2 f fd ["rows"] Iu:=by
 refine F.gb vB (λvs H Q E h=>?_) λb0 H vs Q E hr h=>?_
 ·obtain⟨R,as,n,rfl,_⟩:=h;rfl
 obtain⟨R,as,n,rfl,hR,hn,vf,q⟩:=h;have nd:=vB.nd;show Run _ _ _ [some<|.ref R,none] H;refine aN 1 nd (bZ GP hr<|ai<|ae 0<|au ⟨R,as,n,rfl,hR,by omega,λL H1 s1 n1 e1=>?_⟩);show Run _ _ _ [some<|.ref R,some<|.ref L] H1;refine d9 (iU (oA (mF (AJ (ae 1 (v:= .ref L) ⟨!((n.map (·.1)).map V.str).isEmpty,Or.inl ⟨_,al.of e1,rfl⟩,?_⟩)))))
 by_cases h0:n=[]
 ·subst h0;refine a9<|a9<|bY<|fF ?_;exact q H1 s1
 have aX:((n.map (·.1)).map V.str).isEmpty=false:=by
  cases n with
  | nil=>exact absurd rfl h0
  | cons a r=>rfl
 have jc:(n.map (·.1)).isEmpty=false:=by
  cases n with
  | nil=>exact absurd rfl h0
  | cons a r=>rfl
 rw [aX];refine bp (qH<|bX zq<|bJ k56 T.len CZ<|ai<|sV (Wl rfl) T.tU TQ<|ai<|ae 1<|au ⟨L,_,rfl,al.of e1,by rw [Aa];omega,λa ha=>au ⟨a,_,rfl,aw,?_⟩⟩);have s2:=aJ ha (de (tu rJ "has_good_points" (aW mU) P w K mg base b0).prog (tu rJ "has_good_points" (aW mU) P w K mg base b0).w a (made (n.map (·.1))));have e2:=s2 _ _ e1;generalize upd H1 a (de (tu rJ "has_good_points" (aW mU) P w K mg base b0).prog (tu rJ "has_good_points" (aW mU) P w K mg base b0).w a (made (n.map (·.1))))=H2 at s2 e2 ⊢;refine bJ cZ T.len CZ<|ai<|ae 1<|au ⟨L,_,rfl,.inl<|al.of e2,_,_,rfl,rfl,_,rfl,?_⟩;rw [Aa]
 by_cases hN:(n.map (·.1)).Nodup
 case neg=>
  have lt:(made (n.map (·.1))).length < (n.map (·.1)).length:=by
   have le:=BI (n.map (·.1));refine Fg le λe=>hN ?_;exact(mX (yr _) (λz hz=>(wI _ z).mp hz)<|by omega).nodup_iff.mp<|yr _
  rw [BW (show(((made (n.map (·.1))).length:Nat):Int) < (((n.map (·.1)).length:Nat):Int) by omega)];refine a9<|bY<|fF ?_;have:kG n=false:=by
   unfold kG;rw [BX hN,Gw,SM]
  rw [<- this];exact q H2<|s1.trans s2
 rw [q1q hN,BX<|Int.lt_irrefl _];refine bp<|aH<|bY<|bJ (AF rfl) T.all NZ<|ai<|qI (aW mU) rJ QY 1 (iQ bE)<|ae 1 ⟨L,rfl,⟨_,al.of e2⟩,λD hD=>?_⟩;refine qT (xs:=(n.map (·.1)).map V.str) (λi σ' H'=>(∃ v,σ'=[some<|.ref R,some<|.ref L]++[v])/\aj H2 H'/\H' D=some (.lst ((((n.map (·.1)).take i).map aQ).map V.bl))) ⟨⟨none,rfl⟩,aJ hD _,aw⟩ ?_ ?_ ?_
 ·rintro i σ' H' _ ⟨_,sm,_⟩;exact al.of<|sm _ _ e2
 ·rintro i x σ' H' hx ⟨⟨v,rfl⟩,sm,eD⟩;have hi:=(Ac.mp hx).1;rw [Aa,Aa] at hi;rw [Af,Av] at hx;obtain⟨z,hz,rfl⟩:=hx;have lz:=vf z<|Aq hz;have pX:(((n.map (·.1)).take<|i+1).map aQ).map V.bl=(((n.map (·.1)).take i).map aQ).map V.bl++[V.bl<|aQ z]:=by rw [By,hz,Am,Am];rfl
  intro vI C' s₀ H₀ ex;refine bx 2 q7v ?_;intro vI C' s₀ H₀ ex;refine gS<|a9 ?_;intro vI C' s₀ H₀ ex;refine bZ GI hr<|ai<|ae 2<|au ⟨_,rfl,.inl ⟨z,rfl,by omega,λH3 s3=>⟨_,s3 _ _ eD,?_,⟨_,rfl⟩,dN (sm.trans s3) hD,?_⟩⟩⟩
  ·rw [Aa,Aa,Be];exact cb<|by omega
  ·rw [aw,pX]
 rintro σ' H3 ⟨_,s3,eD⟩;rw [Aa,Bq] at eD;refine au ⟨D,_,rfl,al.of eD,?_⟩;have ea:((n.map (·.1)).map aQ).all id=kG n:=by
  unfold kG;rw [jc,BW hN,UJ];rfl
 rw [ea];exact q H3<|s1.trans<|s2.trans s3
theorem kH{z:Str}(h:aQ z=true):z.length<=8:=by
 unfold aQ at h;simp only [Bk,CN] at h;omega
theorem k39{n:Net}(hn:n.length<=60)(ht:(af n).length<=60)(h1:kG n=true)(h2:gtB n=true):Good n:=by
 unfold kG at h1;rw [Bk,Bk] at h1;obtain⟨⟨a,b⟩,c⟩:=h1;unfold gtB at h2;rw [Cq] at h2 c;have jl:∀ z∈af n,aQ z=true/\(af n).count z=2:=λz hz=>by
  have:=h2 z hz;unfold jb at this;rw [Bk,CN] at this;exact this
 refine⟨λz hz=>(jl z hz).2,BZ b,?_,hn,ht,λx hx=>⟨c x hx,kH<|c x hx⟩,λz hz=>⟨(jl z hz).1,kH (jl z hz).1⟩⟩;cases n with
 | nil=>cases a
 | cons r n=>exact Em _
def Iv(c:Str->Addr):Sp:=λvs H Q E=>∃(R:Addr) (as:List<|Addr×Addr) (n:Net),vs=[.ref R]/\ah H R as n/\n.length<=60/\(af n).length<=60/\(∀ z∈n.map (·.1),z.length<=1000)/\(∀ z∈af n,z.length<=1000) /\
 (¬ Good n → ∀ H', aj H H' → E (.ref<|c "NoNet") none H') ∧ (Good n → (¬ gF n → ∀ H', aj H H' → E (.ref<|c "Broken") none H') ∧
  ∀ ss:List Str,ss.Nodup->(∀ z,z∈ss↔z∈af n)->(gF n->¬ Flt n ss->∀ H',aj H H'->E (.ref<|c "NoPlane") none H')/\(gF n->Flt n ss->∀ H',aj H H'->Q (.bl true) H'))
theorem Q1{n:Net}(g:Good n):kG n=true/\gtB n=true:=by
 constructor
 ·unfold kG;have p:=g.pos;rw [BW g.names,Bool.and_true,Bk];refine⟨?_,Cq.mpr λx hx=>(g.nA x hx).1⟩;cases n with
  | nil=>cases p
  | cons r n=>rfl
 ·unfold gtB;refine Cq.mpr λz hz=>?_;unfold jb;rw [(g.nC z hz).1,BW<|g.twice z hz];rfl
open Classical
theorem q4n{f:Addr}{fd:FuncData}{c:Str->Addr}(F:bM K "vet" "vet" CH f fd)(T:Txt mg)(cl:Cl K mg c)(GP:aV P w K mg base 5 "has_good_points" ["rows"] Iu)(GT:aV P w K mg base 5 "has_good_ties" ["rows"] Ir)(GH:aV P w K mg base 5 "hangs_together" ["rows"] p8)(GF:aV P w K mg base 5 "is_plane" ["rows"] Ii) :
  aD P w K mg base (XF P w) 6 f fd ["rows"] (Iv c):=by
 refine F.gx vG (λvs H Q E h=>?_) λb0 H vs Q hr h=>?_
 ·obtain⟨R,as,n,rfl,_⟩:=h;rfl
 obtain⟨R,as,n,rfl,hR,hn,ht,pF,jT,qN,qG⟩:=h;have nd:=vG.nd;have mN:("NoNet" : Str)∈ce:=by decide
 have mB:("Broken" : Str)∈ce:=by decide
 have mP:("NoPlane" : Str)∈ce:=by decide
 show Run _ _ _ [some<|.ref R] H;refine d9<|mF<|ou<|bZ GP hr<|ai<|ae 0<|au ⟨R,as,n,rfl,hR,hn,pF,λH1 s1=>⟨_,rfl,?_⟩⟩;cases e1:kG n with
 | false=>exact a9<|yj yk (cl.at' _ mN).1 (cl.at' _ mN).2.1 rfl (ai<|cN<|au ⟨Z1,qN (λg=>by rw [(Q1 g).1] at e1;cases e1) _ s1⟩)
 | true=>
 refine bp<|aH ?_;refine d9 (mF<|ou<|bZ GT hr<|ai<|ae 0<|au ⟨R,as,n,rfl,hR.same s1,hn,by omega,jT,λH2 s2=>⟨_,rfl,?_⟩⟩);have pW:=s1.trans s2;cases e2:gtB n with
 | false=>exact a9<|yj yk (cl.at' _ mN).1 (cl.at' _ mN).2.1 rfl (ai<|cN<|au ⟨Z1,qN (λg=>by rw [(Q1 g).2] at e2;cases e2) _ pW⟩)
 | true=>
 refine bp<|aH ?_;have g:=k39 hn ht e1 e2;obtain⟨qB,qQ⟩:=qG g;refine d9<|mF<|ou<|bZ GH hr<|ai<|ae 0<|au ⟨R,as,n,rfl,hR.same pW,g.twice,g.names,g.pos,g.few,g.less,λH3 s3=>⟨_,rfl,?_⟩⟩;have Iw:=pW.trans s3
 by_cases hw:gF n
 ·rw [BW hw];refine bp<|aH<|d9<|mF<|ou<|bZ GF hr<|ai<|ae 0<|au ⟨R,as,n,rfl,hR.same Iw,g,λss H4 s4 snd mem=>⟨_,rfl,?_⟩⟩;have Q2:=Iw.trans s4
  by_cases hf:Flt n ss
  ·rw [BW hf];exact bp<|aH<|bY<|fF<|(qQ ss snd mem).2 hw hf _ Q2
  ·rw [BX hf];exact a9<|yj yk (cl.at' _ mP).1 (cl.at' _ mP).2.1 rfl (ai<|cN<|au ⟨Z1,(qQ ss snd mem).1 hw hf _ Q2⟩)
 ·rw [BX hw];exact a9<|yj yk (cl.at' _ mB).1 (cl.at' _ mB).2.1 rfl (ai<|cN<|au ⟨Z1,qB hw _ Iw⟩)
end
end B4
namespace L2
open PySem PySem.Spec PyProof.Rows
def qb(b:Bool):Value->Bool
 | .bool c=>b == c
 | _=>false
theorem rK{b:Bool}{v:Value}(h:qb b v=true):v = .bool b:=by
 cases v with
 | bool c=>rw [show b=c by simpa [qb] using h]
 | _=>cases h
theorem q29{prog:Program}{w:World}{A:Around}{E:Value->Shared->Prop}{s:Shared}{b:Bool}{Q:Int->Shared->Prop}
  (h:Q (if b=true then 1 else 0) {s with toks:=s.toks+1}):wpAny (model prog w) A (pyHash<|.bool b) Q E s:=by
 show wpAny _ _ (pyHashByItsType<|.bool b) _ _ _;refine PySem.W.pyHash_slot (T:= "bool") rfl PySem.F.slot_bool_hash PySem.F.entry_int_hash (PySem.F.args_int_hash_1 _) rfl (.inl rfl) ?_;have e:Builtin.«int.__hash__» {pos:=[Value.bool b]}=retInt (if b=true then 1 else 0):=by
  cases b <;> rfl
 rw [e];unfold retInt;refine BJ<|wpAny_mkInt<|BL ⟨_,_,rfl,?_⟩;have r:reduceHash (if b=true then 1 else 0)=(if b=true then 1 else 0):=by cases b <;> rfl
 rw [r];exact h
def nD(prog:Program)(w:World):PySem.KeyKind prog w Bool where
 is:=qb
 hash:=λb=>if b=true then 1 else 0
 inj:=λv a b ha hb=>by
  have e:=(rK ha).symm.trans<|rK hb
  injection e
 byValue:=λk v h=>by
  rw [rK h];rfl
 pyHash:=λhv h=>by
  rw [rK hv];exact q29 h
 eqBool:=λ{A E s a b u v Q} hu hv h=>by
  have e:=zJ (A:=A) (s:=s) (y:= .bl a) (x:= .bl b) (u:=u) (v:=v) (rK hu) (rK hv) rfl rfl;refine e _ _ _ _ ?_;have r:cH (.bl a) (.bl b)=decide (a=b):=by cases a <;> cases b <;> rfl
  rw [r];exact h
 «strs»:=λk x t v h=>nomatch h
abbrev BE:=List Bool×Addr×V
def BP(p:BE)(q:List Bool×Addr×Value):Prop:=p.1=q.1/\p.2.1=q.2.1/\RelV p.2.2 q.2.2
def eS(P:Program)(w:World)(a:Addr)(xs:List BE):HO:= .ext λh=>(a == sysModules)=false/\∃ vs,Paired BP xs vs/\∃ o es ep,h.get? a=some o/\o.ExactDict/\o.data = .dict es ep/\es.toList=vs.map (entryOfKey<|tupleKind<|nD P w)/\(vs.map (·.1)).Nodup
section
variable{P:Program}{w:World}{H:Hp}{h:Heap}{a:Addr}{xs:List BE}
theorem Q3(hd:(a == sysModules)=false){vs:List (List Bool×Addr×Value)}(r:Paired BP xs vs){o:Obj}{es:Array DictEntry}{ep:Nat}(h1:h.get? a=some o)(h2:o.ExactDict)(h3:o.data = .dict es ep) (h4:es.toList=vs.map (entryOfKey<|tupleKind<|nD P w)) (h5:(vs.map (·.1)).Nodup):ax P w H h a (eS P w a xs):=
 ⟨⟨hd,vs,r,o,es,ep,h1,h2,h3,h4,h5⟩,⟨o,h1⟩,λ_ _ ⟨hd,vs,r,o,es,ep,h1,h2⟩ k=>⟨hd,vs,r,o,es,ep,k _ h1,h2⟩⟩
theorem Iy{ks:List Bool}(ok:b7 P w H h)(e:H a=some (.tup<|ks.map V.bl)):(tupleKind<|nD P w).is h ks a:=by
 obtain⟨_,its,r,o,h1,h2,n,h3⟩:=(show ax P w H h a (.tup<|ks.map V.bl) from ok a _ e);refine⟨o,its.toArray,n,h1,h2,h3,?_⟩;have q:∀{ks:List Bool} {its:List Value},av (ks.map V.bl) its->ItemsAre (nD P w) ks its:=by
  intro ks
  induction ks with
  | nil=>intro its r;cases r;exact .nil
  | cons k ks ih=>
   intro its r;cases r with
   | cons r t=>exact .cons (by cases (show _=Value.bool k from r);exact IK k)<|ih t
 simpa using q r
theorem Q4(ok:b7 P w H h)(e:H a=some (eS P w a xs))(ht:∀ x∈xs,H x.2.1=some (.tup<|x.1.map V.bl)):(a == sysModules)=false/\∃ vs,Paired BP xs vs/\h.DictOfH (tupleKind<|nD P w) a vs:=by
 obtain⟨⟨hd,vs,r,o,es,ep,h1,h2,h3,h4,h5⟩,_⟩:=(show ax P w H h a (eS P w a xs) from ok a _ e);refine⟨hd,vs,r,o,es,ep,h1,h2,h3,h4,λx hx=>?_,h5⟩;have all:∀{l:List BE} {m:List (List Bool×Addr×Value)},Paired BP l m->(∀ x∈l,H x.2.1=some (.tup<|x.1.map V.bl))->∀ x∈m,(tupleKind<|nD P w).is h x.1 x.2.1:=by
  intro l m q
  induction q with
  | nil=>intro _ x hx;exact nomatch hx
  | @cons p q ps qs hq t ih=>
   intro hl x hx
   rcases Ai.mp hx with e | hx
   ·subst e;have:=hl p<|Ad ..;rw [hq.1,hq.2.1] at this;exact Iy ok this
   ·exact ih (λy hy=>hl y<|Aj _ hy) x hx
 exact all r ht x hx
end
section
variable{X:Cx}{pins:List (Addr×Obj)}{σ:St}{H:Hp}{s:Shared}{a b:Addr}{xs:List BE}{v:V}{u r:Value}{A:Around}{E:Value->Shared->Prop}
theorem q3t{l:List BE}{m:List (List Bool×Addr×Value)}(q:Paired BP l m):m.map (·.1)=l.map (·.1):=by
 induction q with
 | nil=>rfl
 | cons hq _ ih=>rw [Bb,Bb,ih,hq.1]
theorem k3k{m:List (List Bool×Addr×Value)}{k:List Bool}(h:k∉m.map (·.1)):atKey m k=none:=by
 unfold atKey;rw [Eh.mpr λx hx e=>h<|Al.mpr ⟨x,hx,by simpa using e⟩];rfl
theorem Iz{k:List Bool}{Q:Unit->Shared->Prop}(hu:A.units+1 < cLine)(I:Inv X pins σ H s)(e:H a=some (eS X.prog X.w a xs))(ht:∀ x∈xs,H x.2.1=some (.tup<|x.1.map V.bl))(hl:xs.length < 100)(eb:H b=some (.tup<|k.map V.bl))(hk:k∉xs.map (·.1))(rv:RelV v r)
  (h:∀ s',Inv X pins σ (upd H a<|eS X.prog X.w a<|xs++[(k,b,v)]) s'->Q () s'):wpAny (model X.prog X.w) A (dictSet a (.ref b) r) Q E s:=by
 obtain⟨hd,vs,rel,dd⟩:=Q4 I.aA e ht;have hn:vs.length<=sizeLine:=by rw [<- Paired.length rel,EY];omega
 have room:(tupleKind<|nD X.prog X.w).room A:=by first | exact hu | exact QV hu | exact Gb (Fc _) hu
 refine wpAny_dictSet_heap (hsz:=hn) room (Iy I.aA eb) dd λh' gQ hs=>h _ ?_;obtain⟨q,es,ep,hq,h2,h3,h4,_,h5⟩:=gQ;have ak:atKey vs k=none:=k3k (by rw [q3t rel];exact hk);have da:storedH vs k b r=vs++[(k,b,r)]:=by
  unfold storedH;rw [ak];rfl
 rw [da] at h4 h5;exact kZ I (by rw [e];exact True.intro) hs ⟨q,hq⟩<|Q3 hd (Paired.snoc rel ⟨rfl,rfl,rv⟩) hq h2 h3 h4 h5
end
section
variable{X:Cx}{σ:St}{H:Hp}{Q:VK}
theorem k5n{k1 v1 k2 v2 k3 v3:Expr}{pos:Pos}(hu:X.A.units+1 < cLine)
  (h : ∀ d, H d = none → Ev X k1 σ (upd H d<|eS X.prog X.w d []) λy1 H1 => Ev X v1 σ H1 λx1 H2 => Ev X k2 σ H2 λy2 H3 => Ev X v2 σ H3 λx2 H4 => Ev X k3 σ H4 λy3 H5 => Ev X v3 σ H5 λx3 H6 =>
   ∃ b1 b2 b3 c1 c2 c3,y1 = .ref b1/\y2 = .ref b2/\y3 = .ref b3/\H6 b1=some (.tup<|c1.map V.bl)/\H6 b2=some (.tup<|c2.map V.bl)/\H6 b3=some (.tup<|c3.map V.bl)/\[c1,c2,c3].Nodup/\H6 d=some (eS X.prog X.w d [])/\Q (.ref d) (upd H6 d<|eS X.prog X.w d [(c1,b1,x1),(c2,b2,x2),(c3,b3,x3)])) :
  Ev X (.Dict [some k1,some k2,some k3] [v1,v2,v3] pos) σ H Q:=by
 refine⟨λpins s I=>wpAny_Dict_any rfl rfl (by simp) (by show 3<=15;decide) ?_⟩;have I0:Inv X pins σ (upd H s.heap.objs.size<|eS X.prog X.w s.heap.objs.size []) {s with heap:=s.heap.push {cls:= .type "dict",data:= .dict #[]}}:=by
  refine I.laid (a:=s.heap.objs.size) (t':=s.toks) (λ_ _ q=>Ah _ q) (Ak _) ?_;obtain⟨_,hd,vs,r,o,es,ep,h1,h2,h3,h4,_,h5⟩:=z6 (P:=X.prog) (w:=X.w) (H:=H) s.heap I.big;exact Q3 hd .nil (Ar (ho:=rfl) ..) ⟨rfl,rfl,rfl⟩ rfl rfl Cd
 show wpAny _ _ (evalPairs [(eval k1 X.env,do let x <- eval v1 X.env;standAt pos;pure x),(eval k2 X.env,do let x <- eval v2 X.env;standAt pos;pure x),(eval k3 X.env,do let x <- eval v3 X.env;standAt pos;pure x)]) _ _ _;unfold evalPairs;refine BJ<|aE ((h _ I.fresh).run pins _ I0) λkv s1 ⟨y,H1,I1,r1,h1⟩=>?_;refine BJ<|CK<|BJ<|aE (h1.run pins s1 I1) λvv s2 ⟨x,H2,I2,r2,h2⟩=>?_;refine BJ<|FJ<|BL ?_;unfold evalPairs;refine BJ<|CK<|BJ<|aE (h2.run pins s2 I2) λlX s3 ⟨y2,H3,I3,r3,h3⟩=>?_;refine BJ<|CK<|BJ<|aE (h3.run pins s3 I3) λvv2 s4 ⟨x2,H4,I4,r4,h4⟩=>?_;refine BJ<|FJ<|BL ?_;unfold evalPairs;refine BJ<|CK<|BJ<|aE (h4.run pins s4 I4) λkv3 s5 ⟨y3,H5,I5,r5,h5⟩=>?_;refine BJ<|CK<|BJ<|aE (h5.run pins s5 I5) λQ5 s6 ⟨x3,H6,I6,r6,b1,b2,b3,c1,c2,c3,ey1,ey2,ey3,yt,IA,Q6,nd,ed,q⟩=>?_;refine BJ<|FJ<|BL ?_;unfold evalPairs;refine BJ<|CK<|BL<|BL<|BL<|BL ?_;subst ey1 ey2 ey3;cases (show kv=Value.ref b1 from r1);cases (show lX=Value.ref b2 from r3);cases (show kv3=Value.ref b3 from r5);simp only [Bn,Ai,Bt,FQ,not_or,not_false_eq_true,Cd,and_true] at nd;obtain⟨⟨n12,IB⟩,n23⟩:=nd;have q1:b1≠s.heap.objs.size:=bN yt ed λz=>nomatch z;have q2:b2≠s.heap.objs.size:=bN IA ed λz=>nomatch z;have q3:b3≠s.heap.objs.size:=bN Q6 ed λz=>nomatch z;unfold storeAll;rw [Ek];refine BJ (BJ<|Iz hu I6 ed (λx hx=>nomatch hx) (by decide) yt (by simp) r2 λs7 I7=>BL ?_);show wpAny _ _ (forIn [(Value.ref b2,vv2),(Value.ref b3,Q5)] _ _) _ _ _;rw [Ek];refine BJ<|BJ<|Iz hu I7 aw (λx hx=>?_) (by show 1 < 100;decide) (by rw [aq q2];exact IA) (by simpa using CJ n12) r4 λs8 I8=>BL ?_
 ·rw [Ag.mp hx,aq q1];exact yt
 rw [qk] at I8;show wpAny _ _ (forIn [(Value.ref b3,Q5)] _ _) _ _ _;rw [Ek];refine BJ<|BJ<|Iz hu I8 aw (λx hx=>?_) (by show 2 < 100;decide) (by rw [aq q3];exact Q6) (by simpa using ⟨CJ IB,CJ n23⟩) r6 λs9 I9=>BL ?_
 ·rcases Ai.mp hx with rfl | hx
  ·rw [aq q1];exact yt
  ·rw [Ag.mp hx,aq q2];exact IA
 rw [qk] at I9;exact BL ⟨.ref _,_,I9,rfl,q⟩
def yu(xs:List BE)(k:List Bool):Option V:=(xs.find? λx=>decide (x.1=k)).map (·.2.2)
theorem q8j{l:List BE}{m:List (List Bool×Addr×Value)}(q:Paired BP l m)(k:List Bool):cT (yu l k) ((atKey m k).map (·.2)):=by
 induction q with
 | nil=>exact trivial
 | @cons p q ps qs hq t ih=>
  unfold yu atKey at *;rw [Dz,Dz,hq.1]
  by_cases e:q.1=k
  ·simp only [e,decide_true];exact hq.2.2
  ·simp only [e,decide_false];exact ih
theorem q2n{o e f:Expr}{ap cp:Pos}(hu:X.A.units+1 < cLine) (h:Ev X o σ H λx H1=>∃ a xs,x = .ref a/\H1 a=some (eS X.prog X.w a xs)/\Ev X e σ H1 λy H2=>Ev X f σ H2 λz H3=>∃ b k,y = .ref b/\H3 b=some (.tup<|k.map V.bl)/\H3 a=some (eS X.prog X.w a xs)/\(∀ x∈xs,H3 x.2.1=some (.tup<|x.1.map V.bl))/\Q ((yu xs k).getD z) H3)
  (m:M2 X o "get" ap e f cp:=by exact⟨rfl,rfl,rfl,rfl⟩):Ev X (.Call (.Attribute o "get" ap) [e,f] [] cp) σ H Q:=by
 refine⟨λpins s I=>wpAny_Call_method m.base m.few m.line RM TV PySem.F.type_dict_get<|aE (h.run pins s I) λu s1 ⟨x,H1,I1,rx,a,xs,ex,d,q1⟩=>?_⟩;subst ex;obtain rfl:u=Value.ref a:=rx;obtain⟨⟨hd,vs,r,ob,es,ep,g1,g2,g3⟩,_⟩:=(show ax X.prog X.w H1 s1.heap a (eS X.prog X.w a xs) from I1.aA a _ d);refine⟨⟨ob,g1,g2.1⟩,λb q=>by cases q;exact⟨ob,g1,g2.2.1⟩,?_⟩;rw [m.trees];refine HD rfl (JV<|QJ<|aE (q1.run pins s1 I1) λiv s2 ⟨y,H2,I2,ry,q2⟩=>
  QJ (aE (q2.run pins s2 I2) λfv s3 ⟨z,H3,I3,rz,b,k,ey,eb,ea,ht,q3⟩=>Calls.spliced_nil ?_))
 subst ey;cases (show iv=Value.ref b from ry);obtain⟨hd,vs,rel,dd⟩:=Q4 I3.aA ea ht;refine call_meetsIn TV dd.typeIs PySem.F.entry_dict_get (PySem.F.args_dict_get_3 _ _ _) (meetsH_dict_get_default (tupleKind<|nD X.prog X.w) a b hd fv) ⟨FW hu,k,vs,Iy I3.aA eb,dd,_,H3,I3.tok _,(q8j rel k).getD rz,q3⟩
end
open bK
section
variable{X:Cx}{a b e:Expr}{es:List Expr}{σ:St}{H:Hp}{Q:VK}{pos p kp cp:Pos}{j:Nat}
theorem k3m:eI X (.builtin "isinstance") (λxs H Q=>∃ ea C oe tp IC vs b,xs=[.ref ea,.ref tp]/\H tp=some (.tup IC)/\(∀ us,av IC us->us=vs)/\H ea=some (XO oe)/\yl oe (.ref C)/\me X.K C=true/\PySem.W.kitAny X.K (.ref C) vs=some b/\Q (.bl b) H):=by
 intro pins s σ H xs us Q I r h;obtain⟨ea,C,oe,tp,IC,vs,b,rfl,Ib,hv,hH,ix,hl,e,q⟩:=h;obtain⟨u,w',rfl,ru,d7⟩:=vals2 r;cases (show u=Value.ref ea from ru);cases (show w'=Value.ref tp from d7);obtain⟨its,r2,pl,_⟩:=I.tuple<|aK.of Ib;obtain rfl:=hv its r2;obtain⟨o,ho,hc,n,hd⟩:=pl;obtain⟨oc,od,oda,jz⟩:=o;have hc:oc=_:=hc;have hd:oda=_:=hd;subst hc hd;have he:s.heap.get? ea=some oe:=(show ax X.prog X.w H s.heap ea (XO oe) from I.aA ea _ hH).1;exact PySem.W.kia_tup (QH hl) I.dY ⟨oe,QI he ix⟩ ho e (λz=>nomatch z) λtk=>⟨.bl b,H,I.tok tk,rfl,q⟩
end
end L2
namespace B4
open PySem L2 Nt bK bT
theorem k4k:bootBuiltins "ValueError" = some (.type "ValueError"):=by decide +kernel
def Vd(n:Net)(x:Str):Prop:=(¬ Good n/\x = "NoNet")\/(Good n/\¬ gF n/\x = "Broken")\/(Good n/\gF n/\(∃ ss:List Str,ss.Nodup/\(∀ z,z∈ss↔z∈af n)/\¬ Flt n ss)/\x = "NoPlane")
def IE(n:Net):Prop:=Good n/\gF n/\∃ ss:List Str,ss.Nodup/\(∀ z,z∈ss↔z∈af n)/\Flt n ss
def IG:Sp:=λvs H Q _=>∃(R:Addr) (as:List<|Addr×Addr) (n:Net),vs=[.ref R]/\ah H R as n/\n.length<=60/\(af n).length<=60/\(∀ z∈n.map (·.1),z.length<=1000)/\(∀ z∈af n,z.length<=1000)/\∀ x H',aj H H'->(Vd n x\/IE n/\x = "good")->Q (.str x) H'
open Classical
section
variable{P:Program}{w:World}{K:PySem.W.Frag}{mg:Str->Option Value}{base:Heap}
abbrev NWd:List Str:=["_law_rows","_law_told","e","_law_kinds","_law_words"]
theorem vJ:ao NWd ["_law_rows"] (aW C4):=⟨rfl,rfl,rfl,by decide +kernel,rfl,by decide +kernel,by decide +kernel⟩
theorem q3w{f:Addr}{fd:FuncData}{c:Str->Addr}(F:bM K "_law_word" "_law_word" C4 f fd)(T:Txt mg)(cl:Cl K mg c)(GV:gD P w K mg base 6 "vet" ["rows"]<|Iv c) :
  aD P w K mg base bP 7 f fd ["_law_rows"] IG:=by
 refine F.gb vJ (λvs H Q E h=>?_) λb0 H vs Q E hr h=>?_
 ·obtain⟨R,as,n,rfl,_⟩:=h;rfl
 obtain⟨R,as,n,rfl,hR,hn,ht,pF,jT,q⟩:=h;have nd:=vJ.nd;have un:=hr.gg;show Run _ _ _ [some<|.ref R,none,none,none,none] H;refine q3x 2 (λC σ' H'=>∃ x,Vd n x/\C = .ref (c x)/\σ'=[some<|.ref R,none,none,none,none]/\aj H H') cl.net cl.Ig nd (λp=>?_) ?_
 ·refine aN 1 nd<|q12 GV hr (q8p rfl)<|ai<|ae 0<|au ⟨R,as,n,rfl,hR,hn,ht,pF,jT,λg H' s'=>⟨_,.inl ⟨g,rfl⟩,rfl,rfl,s'⟩,λg=>⟨λhw H' s'=>⟨_,.inr<|.inl ⟨g,hw,rfl⟩,rfl,rfl,s'⟩,λss snd mem=>⟨λhw hf H' s'=>⟨_,.inr<|.inr ⟨g,hw,⟨ss,snd,mem,hf⟩,rfl⟩,rfl,rfl,s'⟩,λhw hf H' s'=>aH ?_⟩⟩⟩;show Run _ _ _ [some<|.ref R,some<|.bl true,none,none,none] H';exact d9<|bX U'<|ae 1<|fF ⟨true,true,rfl,rfl,_,rfl,a9<|bY<|cN<|q _ _ s'<|.inr ⟨⟨g,hw,ss,snd,mem,hf⟩,rfl⟩⟩
 ·rintro C σ' H' ⟨x,hx,rfl,rfl,s'⟩;have IH:x = "NoNet"\/x = "Broken"\/x = "NoPlane":=by
   rcases hx with ⟨_,h⟩ | ⟨_,_,h⟩ | ⟨_,_,_,h⟩
   ·exact .inl h
   ·exact .inr<|.inl h
   ·exact .inr<|.inr h
  have mx:x∈ce:=by rcases IH with rfl | rfl | rfl <;> decide
  refine⟨c x,rfl,(cl.at' x mx).2.1,(cl.at' x mx).2.2.1,λp ea oe ix nea=>?_⟩;have s1:=aJ nea<|XO oe;have hE:(upd H' ea<|XO oe) ea=some (XO oe):=aw;show Run _ _ _ [some<|.ref R,none,some<|.ref ea,none,none] (upd H' ea<|XO oe);have sE:=s'.trans s1;generalize upd H' ea (XO oe)=H6 at s1 hE sE;refine aN 3 nd (cM<|ai<|bJ yo T.qP FT<|ai<|ae 2<|ai<|oq (cl.at' "NoNet" (by decide)).1 (v:= .ref<|c "NoNet") rfl (au ⟨ea,c x,oe,.ref<|c "NoNet",.ref<|c "NoNet",_,rfl,λu r=>r,hE,ix,(cl.at' x mx).2.2.2.1,cl.vq x mx "NoNet" (by decide),?_⟩));refine ai (bJ yo T.qP FT<|ai<|ae 2<|ai<|oq (cl.at' "Broken" (by decide)).1 (v:= .ref<|c "Broken") rfl (au ⟨ea,c x,oe,.ref<|c "Broken",.ref<|c "Broken",_,rfl,λu r=>r,hE,ix,(cl.at' x mx).2.2.2.1,cl.vq x mx "Broken" (by decide),?_⟩));refine ai (bJ yo T.qP FT<|ai<|ae 2<|ai<|oq (cl.at' "NoPlane" (by decide)).1 (v:= .ref<|c "NoPlane") rfl (au ⟨ea,c x,oe,.ref<|c "NoPlane",.ref<|c "NoPlane",_,rfl,λu r=>r,hE,ix,(cl.at' x mx).2.2.2.1,cl.vq x mx "NoPlane" (by decide),?_⟩));refine au ⟨(by show 3<=sizeLine;decide),λt2 fH=>?_⟩;have s2:=aJ fH<|.tup [.bl<|decide (x = "NoNet"),.bl<|decide (x = "Broken"),.bl<|decide (x = "NoPlane")];have e2:(upd H6 t2<|.tup [.bl<|decide (x = "NoNet"),.bl<|decide (x = "Broken"),.bl<|decide (x = "NoPlane")]) t2=some (.tup<|[decide (x = "NoNet"),decide (x = "Broken"),decide (x = "NoPlane")].map V.bl):=aw;have II:=s2 _ _ hE;show Run _ _ _ [some<|.ref R,none,some<|.ref ea,some<|.ref t2,none] (upd H6 t2<|.tup [.bl<|decide (x = "NoNet"),.bl<|decide (x = "Broken"),.bl<|decide (x = "NoPlane")]);generalize upd H6 t2 (.tup [.bl<|decide (x = "NoNet"),.bl<|decide (x = "Broken"),.bl<|decide (x = "NoPlane")])=H7 at s2 e2 II;refine d9<|iU<|oA<|mF<|ou<|bJ yo T.qP FT<|ai<|ae 2<|ai<|Li (.ty "ValueError") T.C7 k4k rfl (au ⟨ea,c x,oe,.type "ValueError",.ty "ValueError",true,rfl,λu r=>r,II,ix,(cl.at' x mx).2.2.2.1,(cl.at' x mx).2.2.2.2,true,rfl,bp ?_⟩);refine qH (ou<|bJ k3m T.qP FT<|ai<|ae 2<|ai<|cM<|ai<|oq (cl.at' "NoText" (by decide)).1 (v:= .ref<|c "NoText") rfl (ai<|oq (cl.at' "NoTie" (by decide)).1 (v:= .ref<|c "NoTie") rfl (au ⟨Z2,λt ht=>?_⟩)));have s3:=aJ ht<|.tup [.ref<|c "NoText",.ref<|c "NoTie"];refine au ⟨ea,c x,oe,t,_,[.ref<|c "NoText",.ref<|c "NoTie"],false,rfl,aw,λus r=>?_,s3 _ _ II,ix,(cl.at' x mx).2.2.2.1,?_,false,rfl,bp<|aH ?_⟩
  ·obtain⟨u,v,rfl,r1,r2⟩:=vals2 r;cases r1;cases r2;rfl
  ·have k1:=cl.vq x mx "NoText" (by decide);have k2:=cl.vq x mx "NoTie" (by decide);rw [BX<|by rcases IH with rfl | rfl | rfl <;> decide] at k1 k2;show PySem.W.kitAny K _ _=some false;unfold PySem.W.kitAny;rw [k1];show PySem.W.kitAny K _ _=_;unfold PySem.W.kitAny;rw [k2];rfl
  have e3:=s3 _ _ e2;generalize upd H7 t (.tup [.ref<|c "NoText",.ref<|c "NoTie"])=H8 at s3 e3;show Run _ _ _ [some<|.ref R,none,some<|.ref ea,some<|.ref t2,none] H8;refine aN 4 nd (k5n (Gb (Nat.add_le_add_left (by decide) _) un) λd hd=>?_);have s4:=aJ hd<|eS P w d [];show Ev _ _ _ (upd H8 d<|eS P w d []) _;refine cM (ai<|fF<|ai<|fF<|ai<|fF<|au ⟨(by show 3<=sizeLine;decide),λb1 mM=>cN ?_⟩);have s5:=aJ mM<|.tup [.bl true,.bl false,.bl false];have g1:(upd (upd H8 d<|eS P w d []) b1<|.tup [.bl true,.bl false,.bl false]) b1=some (.tup<|[true,false,false].map V.bl):=aw;have gd:=s5 _ _ (show(upd H8 d<|eS P w d []) d=some (eS P w d []) from aw);have g2:=(s4.trans s5) _ _ e3;have sA:=s4.trans s5;show Ev _ _ _ (upd (upd H8 d<|eS P w d []) b1<|.tup [.bl true,.bl false,.bl false]) _;generalize upd (upd H8 d<|eS P w d []) b1 (.tup [.bl true,.bl false,.bl false])=H9 at g1 gd g2 sA;refine cM (ai<|fF<|ai<|fF<|ai<|fF<|au ⟨(by show 3<=sizeLine;decide),λb2 i4=>cN ?_⟩);have s6:=aJ i4<|.tup [.bl false,.bl true,.bl false];have g3:(upd H9 b2<|.tup [.bl false,.bl true,.bl false]) b2=some (.tup<|[false,true,false].map V.bl):=aw;have g1:=s6 _ _ g1;have gd:=s6 _ _ gd;have g2:=s6 _ _ g2;have sA:=sA.trans s6;generalize upd H9 b2 (.tup [.bl false,.bl true,.bl false])=HA at g1 gd g2 g3 sA ⊢;refine cM (ai<|fF<|ai<|fF<|ai<|fF<|au ⟨(by show 3<=sizeLine;decide),λb3 uo=>cN ?_⟩);have s7:=aJ uo<|.tup [.bl false,.bl false,.bl true];have g4:(upd HA b3<|.tup [.bl false,.bl false,.bl true]) b3=some (.tup<|[false,false,true].map V.bl):=aw;have g1:=s7 _ _ g1;have gd:=s7 _ _ gd;have g2:=s7 _ _ g2;have g3:=s7 _ _ g3;have sA:=sA.trans s7;generalize upd HA b3 (.tup [.bl false,.bl false,.bl true])=HB at g1 gd g2 g3 g4 sA ⊢;refine⟨b1,b2,b3,_,_,_,rfl,rfl,rfl,g1,g3,g4,by decide,gd,?_⟩;have q1:b1≠d:=bN g1 gd λz=>nomatch z;have q2:b2≠d:=bN g3 gd λz=>nomatch z;have q3:b3≠d:=bN g4 gd λz=>nomatch z;have q4:t2≠d:=bN g2 gd λz=>nomatch z;have sZ:aj H (upd HB d<|eS P w d [([true,false,false],b1,.str "NoNet"),([false,true,false],b2,.str "Broken"),([false,false,true],b3,.str "NoPlane")]):=dN (((sE.trans s2).trans s3).trans sA)<|g8 ((sE.trans s2).trans s3) hd;show Run _ _ _ [some<|.ref R,none,some<|.ref ea,some<|.ref t2,some<|.ref d] (upd HB d<|eS P w d [([true,false,false],b1,.str "NoNet"),([false,true,false],b2,.str "Broken"),([false,false,true],b3,.str "NoPlane")]);refine bY<|q2n (Gb (Nat.add_le_add_left (by decide) _) un)<|ae 4 ⟨d,_,rfl,aw,ae 3<|cN ⟨t2,_,rfl,by rw [aq q4];exact g2,aw,λy hy=>?_,?_⟩⟩
  ·simp only [Ai,Bt,FQ] at hy
   rcases hy with rfl | rfl | rfl
   ·rw [aq q1];exact g1
   ·rw [aq q2];exact g3
   ·rw [aq q3];exact g4
  ·have e:(yu [([true,false,false],b1,V.str "NoNet"),([false,true,false],b2,V.str "Broken"),([false,false,true],b3,V.str "NoPlane")] [decide (x = "NoNet"),decide (x = "Broken"),decide (x = "NoPlane")]).getD (V.str "other") = .str x:=by
    rcases IH with rfl | rfl | rfl <;> rfl
   rw [e];exact q x _ sZ<|.inl hx
theorem Q7(i:Int):nr (sgn i)=true:=by
 unfold nr;refine BW ?_;have h:=wY i;have z0:0<=i % 36:=Bi _ (by decide);have z1:i % 36 < 36:=Bo _ (by decide);obtain⟨k,hk⟩:∃ k:Nat,i % 36=k:=⟨(i % 36).toNat,by omega⟩;have hl:=B';rw [hk,nW<|Ab (show k < lets.cps.toList.length by omega)] at h;rw [<- Option.some.inj h];exact Cb _
theorem Q8(b:Int)(v:Nat):aQ (az b v)=true:=by
 have s0:0<=b % 8:=Bi _ (by decide);have s1:b % 8 < 8:=Bo _ (by decide);have v0:0<=(v:Int) % 8:=Bi _ (by decide);have v1:(v:Int) % 8 < 8:=Bo _ (by decide);have key:∀ l:List Nat,(az b v).cps.toList=l->1<=l.length->l.length<=8->(∀ c∈l,nr c=true)->aQ (az b v)=true:=λl e h1 h2 h3=>by
  have hl:(az b v).length=l.length:=by rw [<- e];exact(Bx ..).symm
  unfold aQ;rw [BW (by omega),TY,e,Cq];exact h3
 unfold az at key ⊢
 by_cases c:b % 3=2
 ·rw [BR c] at key ⊢;refine key _ (mul_list _<|by omega) ?_ ?_ λx hx=>?_
  ·rw [Di];omega
  ·rw [Di];omega
  ·rw [Fx hx];exact Q7 _
 ·rw [BK c] at key ⊢;refine key _ (qM _ _ _ _) ?_ ?_ λx hx=>?_
  ·rw [Aa,Dq];omega
  ·rw [Aa,Dq];omega
  ·obtain⟨j,_,rfl⟩:=Al.mp hx;exact Q7 _
def j5:List Str:=["u1","u2","u3","u4","uu1","uu2","uu3","uu4"]
def cB(b:Int):List Str:=namesOf b 36++j5
theorem Q9{b:Int}{z:Str}(h:z∈cB b):aQ z=true:=by
 rcases An.mp h with h | h
 ·unfold namesOf at h;obtain⟨v,_,rfl⟩:=Al.mp h;exact Q8 b v
 ·exact(by decide +kernel:∀ z∈j5,aQ z=true) z h
theorem q5e(b:Int):("u1" : Str)∉namesOf b 36\/("uu1" : Str)∉namesOf b 36:=by
 have v0:∀ v:Nat,0<=(v:Int) % 8:=λv=>Bi _ (by decide);have e1:("u1" : Str).cps.toList=[117,49]:=rfl;have e2:("uu1" : Str).cps.toList=[117,117,49]:=rfl
 by_cases c:b % 3=2
 ·refine .inl λh=>?_;unfold namesOf at h;obtain⟨v,_,hv⟩:=Al.mp h;unfold az at hv;rw [BR c] at hv;have:=CG (λz:Str=>z.cps.toList) hv;have v0:=v0 v;rw [mul_list _ (by omega),e1] at this;have h1:=Fx (show 117∈List.replicate _ _ by rw [this];decide);have h2:=Fx (show 49∈List.replicate _ _ by rw [this];decide);omega
 ·have len:∀ z∈namesOf b 36,z.cps.toList.length=(1+b % 8).toNat:=λz hz=>by
   unfold namesOf at hz;obtain⟨v,_,hv⟩:=Al.mp hz;rw [<- hv];unfold az;rw [BK c,qM,Aa,Dq]
  by_cases k:(1+b % 8).toNat=2
  ·refine .inr λh=>?_;have:=len _ h;rw [e2,k] at this;cases this
  ·refine .inl λh=>?_;have:=len _ h;rw [e1] at this;exact k this.symm
def taken(n:Net):List Str:=n.map (·.1)++af n
structure IJ(n:Net)(b:Int)(fr:List Str):Prop where
 nd:fr.Nodup
 ok:∀ z∈fr,z∈cB b/\z∉taken n
 all:∀ z∈cB b,z∉taken n->z∈fr
theorem Ra(D:List Str)(p:Str->Bool):D.length=(D.filter p).length+(D.filter λz=>!p z).length:=by
 induction D with
 | nil=>rfl
 | cons x D ih=>
  rw [FrQ,FrQ,Ao,ih];cases p x <;> simp <;> omega
theorem IJ.four{n:Net}{b:Int}{fr:List Str}(f:IJ n b fr)(T:aC n)(hn:n.length<=17)(ht:(af n).length<=32):4<=fr.length:=by
 obtain⟨D,hD,hl,hc⟩:∃ D:List Str,D.Nodup/\D.length=37/\∀ z∈D,z∈cB b:=by
  rcases q5e b with h | h
  ·exact⟨namesOf b 36++[("u1" : Str)],kd (qO<|Ak _) h,by rw [Ae,oW];rfl,λz hz=>by
    rcases An.mp hz with q | q
    ·exact Aw _ q
    ·rw [Ag.mp q];exact Ap _<|by decide⟩
  ·exact⟨namesOf b 36++[("uu1" : Str)],kd (qO<|Ak _) h,by rw [Ae,oW];rfl,λz hz=>by
    rcases An.mp hz with q | q
    ·exact Aw _ q
    ·rw [Ag.mp q];exact Ap _<|by decide⟩
 have l1:=Ra D λz=>decide (z∈taken n);have l2:=Ra (D.filter λz=>decide (z∈taken n)) (λz=>decide (z∈n.map (·.1)));have a1:(D.filter λz=>!decide (z∈taken n)).length<=fr.length:=aF (hD.filter _) λz hz=>by
  have:=Cz.mp hz;exact f.all z (hc z this.1)<|by simpa using this.2
 have a2:((D.filter λz=>decide (z∈taken n)).filter λz=>decide (z∈n.map (·.1))).length<=(n.map (·.1)).length:=aF ((hD.filter _).filter _) λz hz=>by
  have:=Cz.mp hz;exact BZ this.2
 have a3:2 * ((D.filter λz=>decide (z∈taken n)).filter λz=>!decide (z∈n.map (·.1))).length<=(af n).length:=Zy T ((hD.filter _).filter _) λz hz=>by
  have h1:=Cz.mp hz;have h2:=Cz.mp h1.1;have h3:z∈taken n:=BZ h2.2;have h4:z∉n.map (·.1):=by simpa using h1.2
  exact(An.mp h3).resolve_left h4
 rw [Aa] at a2;omega
def IL:Sp:=λvs H Q _=>∃(R:Addr) (as:List<|Addr×Addr) (n:Net) (b:Int),vs=[.ref R,.int b]/\ah H R as n/\n.length<=60/\(af n).length<=60/\∀ L fr H',aj H H'->H L=none->H' L=some (Ls fr)->IJ n (b / 4096 % 997) fr->Q (.ref L) H'
abbrev Rb:List Str:=["_law_made","_law_big_here","_law_taken","_law_row","_law_free","_law_name"]
abbrev vK:List Str:=["_law_made","_law_big_here","_law_taken","?","_law_free","_law_name","_law_row"]
theorem vL:ao Rb ["_law_made","_law_big_here"] (aW xh):=⟨rfl,rfl,rfl,by decide +kernel,rfl,by decide +kernel,by decide +kernel⟩
theorem q75:vK.Nodup:=by decide +kernel
theorem q5f{f:Addr}{fd:FuncData}(F:bM K "_law_unlike" "_law_unlike" xh f fd)(T:Txt mg)(GN:aV P w K mg base 4 "_law_names" ["_law_stem","_law_many"] xk) :
  aD P w K mg base bP 5 f fd ["_law_made","_law_big_here"] IL:=by
 refine F.gb vL (λvs H Q E h=>?_) λb0 H vs Q E hr h=>?_
 ·obtain⟨R,as,n,b,rfl,_⟩:=h;rfl
 obtain⟨R,as,n,b,rfl,hR,hn,ht,q⟩:=h;have nd:=vL.nd;have bB:=hR.len;show Run _ _ _ [some<|.ref R,some<|.int b,none,none,none,none] H;refine LJ 2 (aW xh) Rb vK 1 nd (iQ bE)<|ae 0 ⟨R,rfl,⟨_,al.of hR.lst⟩,λD hD=>?_⟩;refine qT (xs:=as.map λa=>V.ref a.1) (λi σ' H'=>(∃ v,σ'=[some<|.ref R,some<|.int b,none,none,none,none]++[v])/\aj H H'/\H' D=some (Ls ((n.map (·.1)).take i))) ⟨⟨none,rfl⟩,aJ hD _,aw⟩ ?_ ?_ ?_
 ·rintro i σ' H' _ ⟨_,sm,_⟩;exact al.of<|sm _ _ hR.lst
 ·rintro i x σ' H' hx ⟨⟨v,rfl⟩,sm,eD⟩;have hi:i < n.length:=by
   have:=(Ac.mp hx).1;rw [Aa] at this;omega
  obtain⟨a,ea,dP,et,el,er⟩:=(hR.same sm).at hi;rw [Af,ea] at hx;cases hx;intro cl C' s₀ H₀ ex;refine bx 6 q75 ?_;intro cl C' s₀ H₀ ex;refine gS<|a9 ?_;intro cl C' s₀ H₀ ex;refine aS cC<|ae 6<|ay ⟨a.1,_,_,.str n[i].1,rfl,rfl,aK.of et,rfl,?_⟩;refine⟨_,eD,by rw [Aa,Be];exact cb (by omega),⟨_,rfl⟩,dN sm hD,?_⟩;rw [xi,aw,By,Af,Ab hi];rfl
 rintro σ' H1 ⟨_,s1,eD⟩;rw [Aa,bB,<- Aa (as:=n) (f:=(·.1)),Bq] at eD;show Run _ _ _ [some<|.ref R,some<|.int b,some<|.ref D,none,none,none] H1;refine kg<|ae 0 ⟨R,rfl,⟨_,al.of<|s1 _ _ hR.lst⟩,?_⟩;refine kh (xs:=as.map λa=>V.ref a.1) (λi σ' H'=>∃ D' u,σ'=[some<|.ref R,some<|.int b,some<|.ref D',u,none,none]/\aj H H'/\H' D'=some (Ls (n.map (·.1)++af (n.take i)))) ⟨D,none,rfl,s1,by rw [eD];simp [af]⟩ ?_ ?_ ?_
 ·rintro i σ' H' _ ⟨_,_,_,sm,_⟩;exact al.of<|sm _ _ hR.lst
 ·rintro i x σ' H' hx ⟨D',u,rfl,sm,eD⟩;have hi:i < n.length:=by
   have:=(Ac.mp hx).1;rw [Aa] at this;omega
  obtain⟨a,ea,dP,et,el,er⟩:=(hR.same sm).at hi;rw [Af,ea] at hx;cases hx;refine bx 3 nd ?_;refine aN 2 nd<|aI zQ<|ae 2<|aS cC<|ae 3<|ay ⟨a.1,_,_,.ref a.2,rfl,rfl,aK.of et,rfl,D',a.2,_,_,rfl,rfl,eD,el,?_,λp hp=>aH ⟨p,_,rfl,sm.trans<|aJ hp _,?_⟩⟩
  ·have h1:=wU n i;have h2:=gZ n i;rw [Aa,Aa,Ae,Aa];exact small<|by omega
  ·rw [aw,<- Am,Ba,QN hi]
 rintro σ' H2 ⟨D',u,rfl,s2,yv⟩;rw [Aa,bB,Bq] at yv;refine aN 4 nd<|cO<|au ⟨Z0,λL hL=>?_⟩;have s3:=aJ hL<|Ls [];have eL:(upd H2 L<|Ls []) L=some (Ls []):=aw;have vM:=s3 _ _ yv;have jU:=g8 s2 hL;have nj:=s2.trans s3;show Run _ _ _ [some<|.ref R,some<|.int b,some<|.ref D',u,some<|.ref L,none] (upd H2 L<|Ls []);generalize upd H2 L (Ls [])=H3 at s3 eL vM nj;refine kg (aI zQ<|bZ GN hr<|ai<|aI cr<|aI dz<|ae 1<|ay ⟨_,_,rfl,rfl,⟨by decide,by decide⟩,ay ⟨_,_,rfl,rfl,(by show(0:Int) < 997;decide),?_⟩⟩);refine ai (ay<|au ⟨_,36,rfl,by decide,by decide,λl H4 s4 n4 e4=>?_⟩);refine cO<|ai<|cN<|ai<|cN<|ai<|cN<|ai<|cN<|ai<|cN<|ai<|cN<|ai<|cN<|ai<|cN<|au ⟨Z8,λl2 jf=>?_⟩;have e4:H4 l=some (Ls<|namesOf (b / 4096 % 997) 36):=e4;have s5:=aJ jf<|Ls j5;refine⟨l,l2,_,_,rfl,rfl,s5 _ _ e4,aw,?_,λp hp=>?_⟩
 ·rw [Aa,oW];decide
 have hp:(upd H4 l2<|Ls j5) p=none:=hp;have s6:=aJ hp<|Ls<|cB<|b / 4096 % 997;have e6:(.lst ((namesOf (b / 4096 % 997) 36).map V.str++j5.map V.str):HO)=Ls (cB<|b / 4096 % 997):=by
  unfold cB;rw [<- Am]
 show ∃ a,_=_/\(∃ xs,al _ (upd (upd H4 l2<|Ls j5) p<|.lst<|(namesOf (b / 4096 % 997) 36).map V.str++j5.map V.str) a xs)/\Loop _ _ _ _ _ _ _ (upd (upd H4 l2<|Ls j5) p<|.lst<|(namesOf (b / 4096 % 997) 36).map V.str++j5.map V.str);rw [e6];have ep:(upd (upd H4 l2<|Ls j5) p<|Ls<|cB<|b / 4096 % 997) p=some (Ls<|cB<|b / 4096 % 997):=aw;have IM:=s4.trans<|s5.trans s6;have nLp:L≠p:=bC ((s4.trans s5) _ _ eL) hp;have eL:=IM _ _ eL;have vM:=IM _ _ vM;have m5:=nj.trans IM;have nDp:D'≠L:=λe=>by
  rw [e,hL] at yv;cases yv
 generalize upd (upd H4 l2<|Ls j5) p (Ls<|cB<|b / 4096 % 997)=H6 at ep eL vM m5;refine⟨p,rfl,⟨_,al.of ep⟩,?_⟩;refine kh (xs:=(cB<|b / 4096 % 997).map V.str) (λi σ' H'=>∃ fr v,σ'=[some<|.ref R,some<|.int b,some<|.ref D',u,some<|.ref L,v]/\aj H H'/\H' L=some (Ls fr)/\H' D'=some (Ls<|taken n)/\H' p=some (Ls<|cB<|b / 4096 % 997)/\fr.Nodup/\(∀ z∈fr,z∈cB (b / 4096 % 997)/\z∉taken n)/\∀ z∈(cB<|b / 4096 % 997).take i,z∉taken n->z∈fr) ⟨[],none,rfl,m5,eL,vM,ep,Cd,(λz hz=>nomatch hz),λz hz=>by simp at hz⟩ ?_ ?_ ?_
 ·rintro i σ' H' _ ⟨_,_,_,_,_,_,eG,_⟩;exact al.of eG
 ·rintro i x σ' H' hx ⟨fr,v,rfl,sm,fL,fD,fp,rL,rM,yw⟩;rw [Af,Av] at hx;obtain⟨z,hz,rfl⟩:=hx;have zc:=Aq hz;have qd:∀ y∈(cB<|b / 4096 % 997).take (i+1),y∉taken n->y∈fr\/y=z:=λy hy fS=>by
   rw [By,hz] at hy
   rcases An.mp hy with k | k
   ·exact .inl<|yw y k fS
   ·exact .inr<|Ag.mp k
  have fT:∀(x y:Bool),(if true=true then x else y)=x:=λ_ _=>rfl;have EX:fr.length<=44:=by
   have:=aF rL λy hy=>(rM y hy).1;have h2:(cB<|b / 4096 % 997).length=36+8:=by unfold cB;rw [Ae,oW];rfl
   omega
  refine bx 5 nd ?_;show Run _ _ _ [some<|.ref R,some<|.int b,some<|.ref D',u,some<|.ref L,some<|.str z] H';refine d9<|iU<|oz<|bX KI<|ae 5<|ae 2 ⟨D',_,rfl,.inl<|al.of fD,rfl,M8 _,_,rfl,?_⟩;rw [fT,M7]
  by_cases z1:z∈taken n
  ·rw [Ci.mpr z1];exact bp<|bp<|aH<|aH ⟨fr,_,rfl,sm,fL,fD,fp,rL,rM,λy hy fS=>(qd y hy fS).resolve_right λe=>fS<|e ▸ z1⟩
  rw [show(taken n).contains z=false from Dx.mpr λk=>z1<|Ci.mp k];refine a9<|oB<|bX KI<|ae 5<|ae 4 ⟨L,_,rfl,.inl<|al.of fL,rfl,M8 _,_,rfl,?_⟩;rw [fT,M7]
  by_cases z2:z∈fr
  ·rw [Ci.mpr z2];exact bp<|aH<|aH ⟨fr,_,rfl,sm,fL,fD,fp,rL,rM,λy hy fS=>(qd y hy fS).elim id λe=>e ▸ z2⟩
  rw [show fr.contains z=false from Dx.mpr λk=>z2<|Ci.mp k];refine a9 (eB<|jn<|ae 4 ⟨L,rfl,⟨_,fL⟩,ae 5 ⟨_,fL,by rw [Aa];exact cb (by omega),?_⟩⟩);refine aH<|aH ⟨fr++[z],_,rfl,dN sm jU,by rw [xi,aw],by rw [aq nDp];exact fD,by rw [aq nLp.symm];exact fp,kd rL z2,λy hy=>?_,λy hy fS=>?_⟩
  ·rcases An.mp hy with k | k
   ·exact rM y k
   ·rw [Ag.mp k];exact⟨zc,z1⟩
  ·rcases qd y hy fS with k | k
   ·exact Aw _ k
   ·exact Ap _<|Ag.mpr k
 rintro σ' H7 ⟨fr,v,rfl,sm,fL,fD,fp,rL,rM,yw⟩;rw [Aa,Bq] at yw;exact bY<|ae 4<|q L fr H7 sm jU fL ⟨rL,rM,yw⟩
end
end B4
namespace Nt
open PySem
def bb(n:Net)(c:End)(y z:Str):Net:=ins (ins (ins (ins n c y) c z) c y) c z
def dD(c e:End):End:=sh c<|sh c<|sh c<|sh c e
section
variable{n:Net}{c:End}{y z:Str}
theorem yx:(bb n c y z).length=n.length:=by unfold bb;rw [cD,cD,cD,cD]
theorem vN(hc:c.1 < n.length):(af<|bb n c y z).Perm (z :: y :: z :: y :: af n):=by
 unfold bb;refine(gs _ c z<|by rw [cD,cD,cD];exact hc).trans<|List.Perm.cons _ ?_;refine(gs _ c y<|by rw [cD,cD];exact hc).trans<|List.Perm.cons _ ?_;refine(gs _ c z<|by rw [cD];exact hc).trans<|List.Perm.cons _ ?_;exact gs _ c y hc
theorem IP(T:aC n)(hc:c.1 < n.length)(kI:y≠z)(hy:y∉af n)(hz:z∉af n):aC (bb n c y z):=by
 intro x hx;have p:=vN (y:=y) (z:=z) hc;rw [p.count_eq];have hx:=p.mem_iff.mp hx;simp only [Ai] at hx
 by_cases e1:x=z
 ·subst e1;rw [Cs,Co kI,Cs,Co kI,Fe.mpr hz]
 ·by_cases e2:x=y
  ·subst e2;rw [Co<|CJ e1,Cs,Co<|CJ e1,Cs,Fe.mpr hy]
  ·rw [Co<|CJ e1,Co<|CJ e2,Co<|CJ e1,Co<|CJ e2];exact T x<|by rcases hx with h | h | h | h | h <;> first | exact absurd h e1 | exact absurd h e2 | exact h
theorem Rc{a b:End}(h:dD c a=dD c b):a=b:=dQ<|dQ<|dQ<|dQ h
structure Rf(n:Net)(c:End)(y z:Str):Prop where
 tg:∀ e,aM (bb n c y z) (dD c e)=aM n e
 t0:aM (bb n c y z) c=some z
 t1:aM (bb n c y z) (sh c c)=some y
 t2:aM (bb n c y z) (sh c<|sh c c)=some z
 t3:aM (bb n c y z) (sh c<|sh c<|sh c c)=some y
 l0:left (bb n c y z) c=sh c c
 l1:left (bb n c y z) (sh c c)=sh c (sh c c)
 l2:left (bb n c y z) (sh c<|sh c c)=sh c (sh c<|sh c c)
theorem rO(hc:c.1 < n.length)(hp:c.2<=(row n c.1).length){x:Str}:c.2 < (row (ins n c x) c.1).length:=by
 rw [kz hc hp,BR rfl];omega
theorem yy(hc:c.1 < n.length)(hp:c.2<=(row n c.1).length):Rf n c y z:=by
 have k1:c.1 < (ins n c y).length:=by rw [cD];exact hc
 have k2:c.1 < (ins (ins n c y) c z).length:=by rw [cD];exact k1
 have k3:c.1 < (ins (ins (ins n c y) c z) c y).length:=by rw [cD];exact k2
 have p1:=rO (x:=y) hc hp;have p2:=rO (x:=z) k1<|Bc p1;have p3:=rO (x:=y) k2<|Bc p2;have s1:∀{m:Net} {x:Str},c.1 < m.length->c.2 < (row m c.1).length->(sh c c).2 < (row (ins m c x) (sh c c).1).length:=λ{m x} h1 h2=>by
  rw [g6,kz h1<|Bc h2,BR rfl];unfold sh;rw [BR ⟨rfl,Ak _⟩];show c.2+1 < _;omega
 have m1:=jr (z:=z) k1 p1;have m2:=jr (z:=y) k2 p2;have m3:=jr (z:=z) k3 p3;refine⟨λe=>?_,?_,?_,?_,?_,m3,?_,?_⟩
 ·unfold dD bb;rw [gL k3<|Bc p3,gL k2<|Bc p2,gL k1<|Bc p1,gL hc hp]
 ·exact ph k3<|Bc p3
 ·unfold bb;rw [gL k3<|Bc p3];exact ph k2<|Bc p2
 ·unfold bb;rw [gL k3<|Bc p3,gL k2<|Bc p2];exact ph k1<|Bc p1
 ·unfold bb;rw [gL k3<|Bc p3,gL k2<|Bc p2,gL k1<|Bc p1];exact ph hc hp
 ·unfold bb;rw [dC k3 p3 p3,m2,BK<|dv _ _]
 ·unfold bb;rw [dC k3 p3<|s1 k2 p2,dC k2 p2 p2,m1,BK<|dv _ _,BK<|dv _ _]
theorem k9j(hc:c.1 < n.length)(hp:c.2 < (row n c.1).length):left (bb n c y z) (sh c<|sh c<|sh c c)=dD c c/\∀ e∈ends n,left (bb n c y z) (dD c e)=if left n e=c then c else dD c (left n e):=by
 have k1:c.1 < (ins n c y).length:=by rw [cD];exact hc
 have k2:c.1 < (ins (ins n c y) c z).length:=by rw [cD];exact k1
 have k3:c.1 < (ins (ins (ins n c y) c z) c y).length:=by rw [cD];exact k2
 have p1:=rO (x:=y) hc<|Bc hp;have p2:=rO (x:=z) k1<|Bc p1;have p3:=rO (x:=y) k2<|Bc p2;have sl:∀{m:Net} {x:Str} {e:End},c.1 < m.length->c.2<=(row m c.1).length->e.2 < (row m e.1).length->(sh c e).2 < (row (ins m c x) (sh c e).1).length:=λ{m x e} h1 h2 he=>by
  rw [g6,kz h1 h2];unfold sh
  by_cases q:e.1=c.1/\c.2<=e.2
  ·rw [BR q,BR q.1.symm];show e.2+1 < _;omega
  ·rw [BK q]
   split <;> omega
 have m0:=jr (z:=y) hc hp;unfold bb
 constructor
 ·unfold dD;rw [dC k3 p3<|sl k2 (Bc p2)<|sl k1 (Bc p1) p1,dC k2 p2<|sl k1 (Bc p1) p1,dC k1 p1 p1,m0,BK<|dv _ _,BK<|dv _ _,BK<|dv _ _]
 ·intro e he;obtain⟨_,q0⟩:=eF he;have q1:=sl (x:=y) hc (Bc hp) q0;have q2:=sl (x:=z) k1 (Bc p1) q1;have q3:=sl (x:=y) k2 (Bc p2) q2;unfold dD;rw [dC k3 p3 q3,dC k2 p2 q2,dC k1 p1 q1,dC hc hp q0]
  by_cases q:left n e=c
  ·rw [BR q,BR rfl,BR rfl,BR rfl,BR q]
  ·rw [BK q,BK<|dv _ _,BK<|dv _ _,BK<|dv _ _,BK q]
theorem q2v:(∀ a,dD c a≠c/\dD c a≠sh c c/\dD c a≠sh c (sh c c)/\dD c a≠sh c (sh c<|sh c c))/\[c,sh c<|sh c<|sh c c,sh c<|sh c c,sh c c].Nodup:=by
 constructor
 ·intro a;refine⟨dv _ _,λh=>?_,λh=>?_,λh=>?_⟩
  ·exact dv _ _<|dQ h
  ·exact dv _ _<|dQ<|dQ h
  ·exact dv _ _<|dQ<|dQ<|dQ h
 ·have a1:c≠sh c (sh c<|sh c c):=(dv _ _).symm;have a2:c≠sh c (sh c c):=(dv _ _).symm;have a3:c≠sh c c:=(dv _ _).symm;have a4:sh c (sh c<|sh c c)≠sh c (sh c c):=λh=>a3 (dQ<|dQ h).symm;have a5:sh c (sh c<|sh c c)≠sh c c:=λh=>a2 (dQ h).symm;have a6:sh c (sh c c)≠sh c c:=λh=>a3 (dQ h).symm;simp [a1,a2,a3,a4,a5,a6]
theorem Rg:((ends n).map (dD c)++[c,sh c<|sh c<|sh c c,sh c<|sh c c,sh c c]).Nodup:=by
 obtain⟨h1,h2⟩:=q2v (c:=c);refine Cc.mpr ⟨JQ _ (λa b (h:a≠b) q=>h<|Rc q)<|kn n,h2,λa ha b hb e=>?_⟩;obtain⟨x,_,rfl⟩:=Al.mp ha;obtain⟨q0,q1,q2,q3⟩:=h1 x;subst e;simp only [Ai,Bt,FQ] at hb
 rcases hb with h | h | h | h
 ·exact q0 h
 ·exact q3 h
 ·exact q2 h
 ·exact q1 h
theorem Rh(hc:c.1 < n.length)(hp:c.2<=(row n c.1).length):((ends n).map (dD c)++[c,sh c<|sh c<|sh c c,sh c<|sh c c,sh c c]).Perm (ends<|bb n c y z):=by
 have k:=yy (y:=y) (z:=z) hc hp;refine mX Rg (λe he=>?_) ?_
 ·rcases An.mp he with h | h
  ·obtain⟨x,hx,rfl⟩:=Al.mp h;obtain⟨w,hw⟩:=ag.mp hx;exact ag.mpr ⟨w,by rw [k.tg];exact hw⟩
  ·simp only [Ai,Bt,FQ] at h
   rcases h with rfl | rfl | rfl | rfl
   ·exact ag.mpr ⟨_,k.t0⟩
   ·exact ag.mpr ⟨_,k.t3⟩
   ·exact ag.mpr ⟨_,k.t2⟩
   ·exact ag.mpr ⟨_,k.t1⟩
 ·rw [Ae,Aa,g5,g5,(vN hc).length_eq];exact Ak _
theorem IQ(T:aC n)(T':aC<|bb n c y z)(k:Rf n c y z):other (bb n c y z) c=sh c (sh c c)/\other (bb n c y z) (sh c c)=sh c (sh c<|sh c c)/\other (bb n c y z) (sh c<|sh c c)=c/\other (bb n c y z) (sh c<|sh c<|sh c c)=sh c c/\∀ e∈ends n,other (bb n c y z) (dD c e)=dD c (other n e):=by
 have a2:c≠sh c (sh c c):=(dv _ _).symm;have a5:sh c c≠sh c (sh c<|sh c c):=λh=>a2<|dQ h;refine⟨gK T' k.t0 k.t2 a2,gK T' k.t1 k.t3 a5,gK T' k.t2 k.t0 a2.symm,gK T' k.t3 k.t1 a5.symm,λe he=>?_⟩;obtain⟨w,hw⟩:=ag.mp he;obtain⟨h1,_,h3⟩:=iB T hw;exact gK T' (by rw [k.tg];exact hw) (by rw [k.tg];exact h1) λq=>h3 (Rc q).symm
theorem q3r(T:aC n)(T':aC<|bb n c y z)(hc:c∈ends n){Ls:List (List End)}(d:Dec (step n) (ends n) Ls):∃ rg,rg.length=Ls.length/\Dec (step<|bb n c y z) (ends<|bb n c y z) rg:=by
 obtain⟨h1,h2⟩:=eF hc;have k:=yy (y:=y) (z:=z) h1<|Bc h2;obtain⟨o0,o1,o2,o3,og⟩:=IQ T T' k;obtain⟨l3,lg⟩:=k9j (y:=y) (z:=z) h1 h2;obtain⟨l,Ms,hL,d⟩:=d.pick hc;have st:∀ x∈ends n,step (bb n c y z) (dD c x)=if step n x=c then c else dD c (step n x):=λx hx=>by
  unfold step;rw [og x hx];exact lg _<|gX T hx
 have pn:eO (step<|bb n c y z) [c,sh c<|sh c<|sh c c,sh c<|sh c c,sh c c] c (dD c c):=by
  refine⟨rfl,?_,?_,?_,?_⟩
  ·unfold step;rw [o0];exact k.l2.symm
  ·unfold step;rw [o3];exact k.l1.symm
  ·unfold step;rw [o2];exact k.l0.symm
  ·show step _ _=_;unfold step;rw [o1];exact l3
 have d':=d.grow (f':=step<|bb n c y z) (g:=dD c) pn (λx hx e=>by rw [st x hx,BR e]) (λx hx e=>by rw [st x hx,BK e]) Rg;refine⟨_,?_,d'.perm<|Rh h1<|Bc h2⟩;rw [Ao,Aa];omega
theorem k8n{nm:Str}(T':aC<|bb [(nm,[])] (0,0) y z):Dec (step<|bb [(nm,[])] (0,0) y z) (ends<|bb [(nm,[])] (0,0) y z) [[(0,0),(0,3),(0,2),(0,1)]]:=by
 have k:=yy (n:=[(nm,[])]) (c:=(0,0)) (y:=y) (z:=z) RT<|Ak _;obtain⟨o0,o1,o2,o3,_⟩:=IQ (n:=[(nm,[])]) (λx hx=>by cases hx) T' k;have e1:sh (0,0) (0,0)=(0,1):=rfl;have e2:sh (0,0) (0,1)=(0,2):=rfl;have e3:sh (0,0) (0,2)=(0,3):=rfl;rw [e1,e2,e3] at o1 o3;rw [e1,e2] at o0 o2;refine⟨λl hl=>?_,?_,kn _⟩
 ·rw [Ag.mp hl];refine⟨(0,0),Ad,rfl,?_,?_,?_,?_⟩
  ·unfold step;rw [o0];rfl
  ·unfold step;rw [o3];rfl
  ·unfold step;rw [o2];rfl
  ·show step _ _=_;unfold step left;rw [o1];have:(row (bb [(nm,[])] (0,0) y z) 0).length=4:=rfl;show(0,(3+1) % (row (bb [(nm,[])] (0,0) y z) 0).length)=_;rw [this]
 ·have p:=Rh (n:=[(nm,[])]) (c:=(0,0)) (y:=y) (z:=z) RT<|Ak _;exact p
theorem q17(T:aC n)(F:Full n)(P:Pl n)(hc:du n c)(kI:y≠z)(hy:y∉af n)(hz:z∉af n){ss:List Str}(nd:ss.Nodup)(hm:∀ x,x∈ss↔x∈af (bb n c y z)) :
  ((bb n c y z).length:Int) - (ss.length:Int)+((jq<|bb n c y z).length:Int)≠2:=by
 have T':=IP T hc.1 kI hy hz;have tl:=(vN (y:=y) (z:=z) hc.1).length_eq;simp only [Ao] at tl;have h2:(af<|bb n c y z).length=2 * ss.length:=by
  have:=xM (a:=ss) nd<|af<|bb n c y z;have e:(af<|bb n c y z).filter (λz=>ss.contains z)=af (bb n c y z):=List.filter_eq_self.mpr λz hz=>Ci.mpr<|(hm z).mpr hz;rw [e] at this;have e2:ss.map (λx=>(af<|bb n c y z).count x)=ss.map λ_=>2:=Dr λx hx=>T' x<|(hm x).mp hx;rw [e2,List.map_const',SJ] at this;omega
 have e0:ends (bb n c y z)≠[]:=λe=>by
  have:=g5<|bb n c y z;rw [e] at this;simp only [Eb] at this;omega
 have fd:=N4 T' e0;rw [yx]
 rcases P with ⟨e,l1⟩ | ⟨Ls,d,eu⟩
 ·have:∃ nm,n=[(nm,[])]:=by
   match n,l1,e with
   | [(nm,[])],_,_=>exact⟨nm,rfl⟩
  obtain⟨nm,rfl⟩:=this;have:c=(0,0):=by
   have a:=hc.1;have b:=hc.2;have a0:c.1=0:=by simpa using a
   rw [a0] at b;have b0:c.2=0:=by
    have:max 1 (row [(nm,[])] 0).length=1:=rfl;omega
   exact HS a0 b0
  subst this;have:=Dec.unique fd<|k8n T';rw [this];simp only [Ao,Eb] at tl ⊢;have:(af [(nm,[])]).length=0:=rfl;omega
 ·have EK:c∈ends n:=by
   rcases F with ⟨nm,rfl⟩ | ⟨g1,g2⟩
   ·have:Ls=[]:=by
     cases Ls with
     | nil=>rfl
     | cons l Ms=>
      obtain⟨a,ha,_⟩:=d.fK l Ad;exact nomatch d.sub Ad ha
    subst this;have:2 * (1+0)=0+4:=eu;exact absurd this<|by decide
   ·exact Full.cz (.inr ⟨g1,g2⟩) (g2 0<|Ck.mpr g1) hc
  obtain⟨rg,hL,d'⟩:=q3r (y:=y) (z:=z) T T' EK d;have:=Dec.unique fd d';omega
end
end Nt
namespace B4
open PySem L2 Nt bK bT
def eU:List Str:=["","A","abcdefghi","a b","a-","zzzzzzzzz"]
theorem IT:∀ x∈eU,aQ x=false/\x.length<=1000:=by decide +kernel
theorem Ri{m:Net}{x:Str}(h:x∈m.map (·.1))(hx:aQ x=false):¬ Good m:=λg=>by
 have:=(g.nA x h).1;rw [hx] at this;cases this
theorem q2f{m:Net}{x:Str}(h:x∈af m)(hx:aQ x=false):¬ Good m:=λg=>by
 have:=(g.nC x h).1;rw [hx] at this;cases this
theorem IU{m:Net}{x:Str}(h:x∈af m)(hx:(af m).count x≠2):¬ Good m:=λg=>hx<|g.twice x h
theorem q19:¬ Good []:=λg=>absurd g.pos<|by decide
def cP(n:Net)(j:Nat)(x:Str×List Str):Net:=n.take j++x :: n.drop j
theorem yz(n:Net)(j:Nat)(x:Str×List Str):(cP n j x).Perm (x :: n):=by
 unfold cP;refine Fq.trans ?_;rw [Cj]
theorem yA(n:Net)(j:Nat)(x:Str×List Str):(cP n j x).length=n.length+1:=(yz n j x).length_eq
theorem yB(n:Net)(j:Nat)(x:Str×List Str):(af<|cP n j x).Perm (x.2++af n):=(yz n j x).flatMap_right _
theorem vO(n:Net)(j:Nat)(x:Str×List Str):((cP n j x).map (·.1)).Perm (x.1 :: n.map (·.1)):=(yz n j x).map _
theorem k71{n:Net}{j:Nat}{x:Str×List Str}(h:x.1∈n.map (·.1)):¬ Good (cP n j x):=λg=>by
 have:=(vO n j x).nodup_iff.mp g.names;exact(Bn.mp this).1 h
theorem k91{n:Net}(g:Good n)(hn:n.length<=50)(ht:(af n).length<=50){j:Nat}{x:Str}{l:List Str}(hx:aQ x=true)(yC:x∉n.map (·.1))(hl:l=[]\/∃ y,l=[y,y]/\aQ y=true/\y∉af n):Good (cP n j (x,l)):=by
 have p1:=yB n j (x,l);have p2:=vO n j (x,l);have Hs:l.length<=2:=by rcases hl with rfl | ⟨y,rfl,_⟩ <;> simp
 have l1:=p1.length_eq;rw [Ae] at l1;have l2:=yA n j (x,l);refine⟨λz hz=>?_,p2.nodup_iff.mpr<|Bn.mpr ⟨yC,g.names⟩,by omega,by omega,?_,λy hy=>?_,λz hz=>?_⟩
 ·rw [p1.count_eq];have hz:=p1.mem_iff.mp hz
  rcases hl with rfl | ⟨y,rfl,_,hy⟩
  ·exact g.twice z hz
  ·show(y :: y :: af n).count z=2
   by_cases e:z=y
   ·subst e;rw [Cs,Cs,Fe.mpr hy]
   ·rw [Co<|CJ e,Co<|CJ e];refine g.twice z ?_;simp only [Fa,Gu,Ai] at hz
    rcases hz with h | h | h
    ·exact absurd h e
    ·exact absurd h e
    ·exact h
 ·show(af<|cP n j (x,l)).length<=60;have:(x,l).2.length<=2:=Hs;omega
 ·rcases Ai.mp (p2.mem_iff.mp hy) with h | h
  ·have h:y=x:=h;rw [h];exact⟨hx,kH hx⟩
  ·exact g.nA y h
 ·rcases An.mp (p1.mem_iff.mp hz) with h | h
  ·have h:z∈l:=h
   rcases hl with rfl | ⟨y,rfl,hy,_⟩
   ·cases h
   ·have:z=y:=by
     simp only [Ai,Bt,FQ] at h;exact h.elim id id
    rw [this];exact⟨hy,kH hy⟩
  ·exact g.nC z h
theorem k21{m:Net}{e:Nt.End}{z:Str}(h:aM m e=some z):∃ r∈m,bh m e.1=r.1/\z∈r.2:=by
 have hl:=eW h;refine⟨m[e.1],Cb hl,pq hl,?_⟩;unfold aM row at h;rw [Ab hl] at h;exact Aq h
theorem q4c{n:Net}(h0:0 < n.length){j:Nat}{x:Str}{l:List Str}(T:aC<|cP n j (x,l))(yC:x∉n.map (·.1))(hl:∀ z∈l,z∉af n):¬ gF (cP n j (x,l)):=λhw=>by
 have p2:=vO n j (x,l);have key:∀ e z,aM (cP n j (x,l)) e=some z->(bh (cP n j (x,l)) e.1=x↔z∈l):=λe z h=>by
  obtain⟨r,hr,h1,h2⟩:=k21 h;rw [h1]
  rcases Ai.mp ((yz n j (x,l)).mem_iff.mp hr) with q | q
  ·subst q;exact⟨λ_=>h2,λ_=>rfl⟩
  ·refine⟨λk=>absurd ?_ yC,λk=>absurd ?_<|hl z k⟩
   ·rw [<- k];exact Al.mpr ⟨r,q,rfl⟩
   ·exact Gm.mpr ⟨r,q,h2⟩
 have st:∀ e z,aM (cP n j (x,l)) e=some z->z∈af (cP n j (x,l))->(bh (cP n j (x,l)) e.1=x↔bh (cP n j (x,l)) (other (cP n j (x,l)) e).1=x):=λe z h _=>by
  rw [key e z h,key _ z (iB T h).1]
 by_cases hf:eR (cP n j (x,l))=x
 ·have hm:n[0].1∈(cP n j (x,l)).map (·.1):=p2.mem_iff.mpr<|Aj _<|Al.mpr ⟨n[0],Cb h0,rfl⟩;have:=(hw _ hm).ind T (P:=λy=>y=x) hf λe z h hz k=>(st e z h hz).mp k;exact yC<|this ▸ Al.mpr ⟨n[0],Cb h0,rfl⟩
 ·have hm:x∈(cP n j (x,l)).map (·.1):=p2.mem_iff.mpr Ad;exact(hw _ hm).ind T (P:=λy=>y≠x) hf (λe z h hz k q=>k<|(st e z h hz).mpr q) rfl
theorem vP(n:Net)(c:Nt.End)(y z:Str):(bb n c y z).map (·.1)=n.map (·.1):=by
 unfold bb;rw [kq,kq,kq,kq]
theorem q2l{n m:Net}(h:m.map (·.1)=n.map (·.1))(i:Nat):bh m i=bh n i:=by
 unfold bh;rw [<- Af,<- Af,h]
theorem Rj(c e:Nt.End):(dD c e).1=e.1:=by
 unfold dD;rw [g6,g6,g6,g6]
theorem k80{n:Net}(g:Good n)(ht:(af n).length<=50){c:Nt.End}(hc:c.1 < n.length){y z:Str}(kI:y≠z)(hy:y∉af n)(hz:z∉af n)(ny:aQ y=true)(nz:aQ z=true):Good (bb n c y z):=by
 have p:=vN (y:=y) (z:=z) hc;have l1:=p.length_eq;simp only [Ao] at l1;refine⟨IP g.twice hc kI hy hz,by rw [vP];exact g.names,by rw [yx];exact g.pos,by rw [yx];exact g.few,by omega,λx hx=>g.nA x (by rw [vP] at hx;exact hx),λx hx=>?_⟩;have hx:=p.mem_iff.mp hx;simp only [Ai] at hx
 rcases hx with rfl | rfl | rfl | rfl | h
 ·exact⟨nz,kH nz⟩
 ·exact⟨ny,kH ny⟩
 ·exact⟨nz,kH nz⟩
 ·exact⟨ny,kH ny⟩
 ·exact g.nC x h
theorem q1s{n:Net}(g:Good n)(hw:gF n){c:Nt.End}(hc:du n c){y z:Str}(kI:y≠z)(hy:y∉af n)(hz:z∉af n):gF (bb n c y z):=λx hx=>by
 have T':=IP g.twice hc.1 kI hy hz;have hp:c.2<=(row n c.1).length:=by have:=hc.2;omega
 have k:=yy (y:=y) (z:=z) hc.1 hp;obtain⟨_,_,_,_,og⟩:=IQ g.twice T' k;have nm:=q2l<|vP n c y z;rw [vP] at hx;unfold eR;rw [nm];refine(hw x hx).ind g.twice (P:=λv=>Rt (bb n c y z) (af<|bb n c y z) (bh n 0) v) (Rt.refl ..) λe w he hz' ih=>ih.trans ?_;have ht:aM (bb n c y z) (dD c e)=some w:=by rw [k.tg];exact he
 have:=Rt.step ht<|fk ht;rw [og e<|ag.mpr ⟨w,he⟩,Rj,Rj,nm,nm] at this;exact this
theorem k3r{H:Hp}{R:Addr}{as:List (Addr×Addr)}{n:Net}(h:ah H R as n){i:Nat}{a:Addr×Addr}(ha:as[i]?=some a)(hi:i < n.length)(zs:List Str) :
  ah (upd H a.2<|Ls zs) R as (n.set i (n[i].1,zs)):=by
 have q0:=h.tup i a n[i] ha<|Ab hi;have DH:R≠a.2:=by
  intro e;have h1:=h.lst;rw [e,q0.2] at h1;have h2:=HO.lst.inj<|Option.some.inj h1;have hl:=h.len;cases as with
  | nil=>simp at hl;omega
  | cons b bs=>
   cases hm:n[i].2 with
   | nil=>rw [hm] at h2;simp at h2
   | cons y r=>rw [hm] at h2;simp at h2
 refine⟨by rw [Dk];exact h.len,by rw [aq DH];exact h.lst,λk b r hb hr=>?_,h.inj⟩;rw [Dy] at hr
 by_cases e:i=k
 ·subst e;rw [BR rfl,BR hi] at hr;rw [ha] at hb;cases hb;cases hr;refine⟨?_,aw⟩;rw [aq<|bN q0.1 q0.2 λe=>nomatch e];exact q0.1
 ·rw [BK e] at hr;have q1:=h.tup k b r hb hr;have t1:b.1≠a.2:=bN q1.1 q0.2 λe=>nomatch e;have t2:b.2≠a.2:=λq=>by
   have x1:(as.map (·.2))[k]?=some b.2:=by rw [Af,hb];rfl
   have x2:(as.map (·.2))[i]?=some a.2:=by rw [Af,ha];rfl
   obtain⟨y1,z1⟩:=Ac.mp x1;obtain⟨y2,z2⟩:=Ac.mp x2;exact e<|(Fo (h₀:=y2) (h₁:=y1) h.inj).mp<|z2.trans<|q.symm.trans z1.symm
  exact⟨by rw [aq t1];exact q1.1,by rw [aq t2];exact q1.2⟩
theorem Rk{H:Hp}{R:Addr}{xs:List V}(hR:H R=some (.lst xs)){as:List (Addr×Addr)}{n:Net}(hl:as.length=n.length)(ht:∀(i:Nat) a r,as[i]?=some a->n[i]?=some r->H a.1=some (.tup [.str r.1,.ref a.2])/\H a.2=some (Ls r.2)/\a.2≠R)(hj:(as.map (·.2)).Nodup) :
  ah (upd H R<|.lst<|as.map λa=> .ref a.1) R as n:=
 ⟨hl, aw, λi a r h1 h2 => by
  obtain⟨q1,q2,q3⟩:=ht i a r h1 h2;exact⟨by rw [aq<|bN q1 hR λe=>nomatch e];exact q1,by rw [aq q3];exact q2⟩,hj⟩
theorem q79{α:Type}(l:List α)(j:Nat)(x:α)(hj:j<=l.length)(i:Nat):(l.take j++x :: l.drop j)[i]?=if i < j then l[i]? else if i=j then some x else l[i - 1]?:=by
 by_cases h:i < j
 ·rw [BR h,Ay (by rw [Be];omega),Dj h]
 ·rw [BK h,Bd (by rw [Be];omega),Be,RV hj]
  by_cases e:i=j
  ·rw [BR e,e,Nat.sub_self];rfl
  ·rw [BK e,show i - j=(i - 1 - j)+1 by omega,Fb,Gc,show j+(i - 1 - j)=i - 1 by omega]
theorem yD{H:Hp}{R:Addr}{as:List (Addr×Addr)}{n:Net}(h:ah H R as n){x:Addr×Addr}(hx:x∈as):x.2≠R:=by
 intro e;obtain⟨zs,q⟩:=h.lists hx;have h1:=h.lst;rw [<- e,q] at h1;have h2:=HO.lst.inj<|Option.some.inj h1;cases as with
 | nil=>cases hx
 | cons b bs=>cases zs with
  | nil=>simp at h2
  | cons y r=>simp at h2
theorem k35{H:Hp}{R t l:Addr}{as:List (Addr×Addr)}{n:Net}{pt:Str}{zs:List Str}(h:ah H R as n){j:Nat}(hj:j<=n.length)(ht:H t=some (.tup [.str pt,.ref l]))(hl:H l=some (Ls zs))(hn:l∉as.map (·.2))(hR:l≠R) :
  ah (upd H R<|.lst<|insertAt (as.map λa=>V.ref a.1) j<|.ref t) R (as.take j++(t,l) :: as.drop j) (cP n j (pt,zs)):=by
 have bB:=h.len;have e:insertAt (as.map λa=>V.ref a.1) j (.ref t)=(as.take j++(t,l) :: as.drop j).map λa=>V.ref a.1:=by
  unfold insertAt;rw [Am,Bb,Gn,Go]
 rw [e];refine Rk h.lst ?_ (λi a r h1 h2=>?_) ?_
 ·rw [yA,Ae,Ao,Be,Dd];omega
 ·unfold cP at h2;rw [q79 _ _ _<|by omega] at h1 h2
  by_cases c:i < j
  ·rw [BR c] at h1 h2;obtain⟨q1,q2⟩:=h.tup i a r h1 h2;exact⟨q1,q2,yD h<|Aq h1⟩
  ·rw [BK c] at h1 h2
   by_cases c2:i=j
   ·rw [BR c2] at h1 h2;cases h1;cases h2;exact⟨ht,hl,hR⟩
   ·rw [BK c2] at h1 h2;obtain⟨q1,q2⟩:=h.tup _ a r h1 h2;exact⟨q1,q2,yD h<|Aq h1⟩
 ·have p:(as.take j++(t,l) :: as.drop j).Perm ((t,l) :: as):=by
   refine Fq.trans ?_;rw [Cj]
  exact(p.map (·.2)).nodup_iff.mpr<|Bn.mpr ⟨hn,h.inj⟩
theorem k59{H:Hp}{R t:Addr}{as:List (Addr×Addr)}{n:Net}{pt:Str}(h:ah H R as n){i:Nat}{a:Addr×Addr}(ha:as[i]?=some a)(hi:i < n.length)(ht:H t=some (.tup [.str pt,.ref a.2])) :
  ah (upd H R<|.lst<|(as.map λa=>V.ref a.1).set i<|.ref t) R (as.set i (t,a.2)) (n.set i (pt,n[i].2)):=by
 have bB:=h.len;have e:(as.map λa=>V.ref a.1).set i (.ref t)=(as.set i (t,a.2)).map λa=>V.ref a.1:=by
  rw [Gv]
 rw [e];refine Rk h.lst (by rw [Dk,Dk,bB]) (λk b r h1 h2=>?_) ?_
 ·rw [Dy] at h1 h2
  by_cases c:i=k
  ·subst c;rw [BR rfl,BR<|by omega] at h1 h2;cases h1;cases h2;exact⟨ht,(h.tup i a n[i] ha<|Ab hi).2,yD (x:=a) h<|Aq ha⟩
  ·rw [BK c] at h1 h2;obtain⟨q1,q2⟩:=h.tup k b r h1 h2;exact⟨q1,q2,yD h<|Aq h1⟩
 ·have:(as.set i (t,a.2)).map (·.2)=as.map (·.2):=by
   rw [Gv];refine De λk=>?_;rw [Dy]
   by_cases c:i=k
   ·subst c;rw [BR rfl,Af,ha,BR<|by rw [Aa];omega];rfl
   ·rw [BK c]
  rw [this];exact h.inj
end B4
namespace L2
open PySem PySem.Spec PyProof.Rows
section
variable{X:Cx}{σ:St}{H:Hp}{D:Ends}{rest:List Stmt}{o i e:Expr}{op:Operator}{tip:TIp}{sk pos:Pos}
end
variable{X:Cx}
theorem Rl{o i:Expr}{v:V}{σ:St}{H:Hp}{pos:Pos}{R:St->Hp->Prop}(h:Ev X o σ H λx H1=>Ev X i σ H1 λy H2=>Ky x y v H2 λH3=>R σ H3)
  (ha : ∀ v, assign (.Subscript o i pos) X.env v = (do
   let ov <- holding [v]<|eval o X.env
   let iv <- holding [v,ov]<|eval i X.env
   standAt pos
   holding [v,ov,iv] (setItem ov iv v)
   release [v,ov,iv] []):=by intro _;rfl):Eg X (.Subscript o i pos) v σ H R:=wy (SY bE bE set_list ha) h
end L2
namespace B4
open PySem L2 Nt bK bT
def gG(m:Net):Prop:=m.length<=20/\(af m).length<=40/\(∀ z∈m.map (·.1),z.length<=1000)/\∀ z∈af m,z.length<=1000
structure cj(n:Net):Prop where
 good:Good n
 IY:gF n
 full:Full n
 pl:Pl n
 few:n.length<=17
 less:(af n).length<=32
theorem cj.nE{n:Net}(N:cj n):gG n:=by
 have h1:=N.few;have h2:=N.less;exact⟨by omega,by omega,λz hz=>by have:=(N.good.nA z hz).2;omega,λz hz=>by have:=(N.good.nC z hz).2;omega⟩
theorem cj.ic{n m:Net}(N:cj n){xs zs:List Str}(hx:xs.length<=3)(hz:zs.length<=6)(lx:∀ z∈xs,z.length<=1000)(lz:∀ z∈zs,z.length<=1000)(h1:(m.map (·.1)).Perm (xs++n.map (·.1)))(h2:(af m).Perm<|zs++af n):gG m:=by
 obtain⟨_,_,b3,b4⟩:=N.nE;have k1:=N.few;have k2:=N.less;have l1:=h1.length_eq;have l2:=h2.length_eq;rw [Ae,Aa,Aa] at l1;rw [Ae] at l2;refine⟨by omega,by omega,λz hz=>?_,λz hz=>?_⟩
 ·rcases An.mp (h1.mem_iff.mp hz) with h | h
  ·exact lx z h
  ·exact b3 z h
 ·rcases An.mp (h2.mem_iff.mp hz) with h | h
  ·exact lz z h
  ·exact b4 z h
theorem yE(n:Net)(i:Nat)(h:i < n.length):(af n).Perm (n[i].2++af (n.eraseIdx i)):=(bT.bu n i h).symm.flatMap_right _
theorem IZ{n:Net}{i:Nat}(h:i < n.length)(x:Str×List Str):(af<|n.set i x).Perm (x.2++af (n.eraseIdx i)):=by
 have:=yE (n.set i x) i (by rw [Dk];exact h);rw [List.getElem_set_self,List.eraseIdx_set_eq] at this;exact this
theorem Rm{n:Net}{i:Nat}(h:i < n.length)(zs:List Str):(n.set i (n[i].1,zs)).map (·.1)=n.map (·.1):=by
 rw [Gv];refine De λk=>?_;rw [Dy]
 by_cases c:i=k
 ·subst c;rw [BR rfl,Af,Ab h,BR<|by rw [Aa];exact h];rfl
 ·rw [BK c]
theorem jO{n:Net}{i:Nat}(h:i < n.length):row n i=n[i].2:=by
 unfold row;rw [Ab h];rfl
theorem sp0{n:Net}(N:cj n){i:Nat}(h:i < n.length){x:Str}(hx:x∈eU):gG (n.set i (x,n[i].2))/\¬ Good (n.set i (x,n[i].2)):=by
 obtain⟨b1,b2⟩:=IT x hx;have p:(af<|n.set i (x,n[i].2)).Perm (af n):=(IZ h (x,n[i].2)).trans (yE n i h).symm;obtain⟨c1,c2,c3,c4⟩:=N.nE;refine⟨⟨by rw [Dk];exact c1,by rw [p.length_eq];exact c2,λz hz=>?_,λz hz=>c4 z<|p.mem_iff.mp hz⟩,Ri (x:=x) (Al.mpr ⟨(x,n[i].2),?_,rfl⟩) b1⟩
 ·rw [Gv] at hz
  rcases Ft hz with k | k
  ·exact c3 z k
  ·rw [k];exact b2
 ·exact Aq (i:=i)<|by rw [Dy,BR rfl,BR h]
theorem sp1{n:Net}(N:cj n){i j:Nat}(h:i < n.length):gG (cP n j (n[i].1,[]))/\¬ Good (cP n j (n[i].1,[])):=by
 have hm:n[i].1∈n.map (·.1):=Al.mpr ⟨n[i],Cb h,rfl⟩;refine⟨N.ic (xs:=[n[i].1]) (zs:=[]) (by simp) (by simp) (λz hz=>?_) (λz hz=>nomatch hz) (vO n j _)<|yB n j _,k71 hm⟩;rw [Ag.mp hz];exact N.nE.2.2.1 _ hm
theorem sp3{n:Net}(N:cj n){i p:Nat}(h:i < n.length)(hp:p < n[i].2.length):gG (n.set i (n[i].1,n[i].2.eraseIdx p))/\¬ Good (n.set i (n[i].1,n[i].2.eraseIdx p)):=by
 have p1:=IZ h (n[i].1,n[i].2.eraseIdx p);have p2:=yE n i h;have p3:n[i].2.Perm (n[i].2[p] :: n[i].2.eraseIdx p):=(bT.bu n[i].2 p hp).symm;have p4:(af n).Perm (n[i].2[p] :: af (n.set i (n[i].1,n[i].2.eraseIdx p))):=p2.trans<|(p3.append_right _).trans<|List.Perm.cons _ p1.symm;obtain⟨c1,c2,c3,c4⟩:=N.nE;have l4:=p4.length_eq;rw [Ao] at l4;have hm:n[i].2[p]∈af n:=Gm.mpr ⟨n[i],Cb h,Cb hp⟩;have cn:=N.good.twice _ hm;rw [p4.count_eq,Cs] at cn;refine⟨⟨by rw [Dk];exact c1,by omega,λz hz=>c3 z (by rw [Rm h] at hz;exact hz),λz hz=>c4 z<|p4.mem_iff.mpr<|Aj _ hz⟩,IU (x:=n[i].2[p]) (Ga.mp<|by omega)<|by omega⟩
theorem Ro{n m:Net}(N:cj n){z:Str}(hn:m.map (·.1)=n.map (·.1))(h:(af m).Perm<|z :: af n)(hl:z.length<=1000):gG m/\¬ Good m:=by
 refine⟨N.ic (xs:=[]) (zs:=[z]) (by simp) (by simp) (λz hz=>nomatch hz) (λy hy=>by rw [Ag.mp hy];exact hl) (by rw [hn];exact List.Perm.refl _) h,IU (x:=z) (h.mem_iff.mpr Ad) ?_⟩;rw [h.count_eq,Cs]
 by_cases hz:z∈af n
 ·rw [N.good.twice z hz];decide
 ·rw [Fe.mpr hz];decide
theorem Ja{n m:Net}(N:cj n){z:Str}(hn:m.map (·.1)=n.map (·.1))(h:(af m).Perm<|z :: z :: af n)(hz:z∈af n):gG m/\¬ Good m:=by
 refine⟨N.ic (xs:=[]) (zs:=[z,z]) (by simp) (by simp) (λz hz=>nomatch hz) (λy hy=>?_) (by rw [hn];exact List.Perm.refl _) h,IU (x:=z) (h.mem_iff.mpr Ad) ?_⟩
 ·have:y=z:=by
   simp only [Ai,Bt,FQ] at hy;exact hy.elim id id
  rw [this];exact N.nE.2.2.2 z hz
 ·rw [h.count_eq,Cs,Cs,N.good.twice z hz];decide
structure Ss(H0 H:Hp)(M L:Addr)(bs:List<|Addr×Addr)(m:Net)(fr:List Str):Prop where
 rows:ah H M bs m
 sm:aj H0 H
 dL:H L=some (Ls fr)
 new:∀ x∈bs,H0 x.2=none/\x.2≠L
section
variable{H0 H H':Hp}{M L:Addr}{bs:List (Addr×Addr)}{m:Net}{fr:List Str}
theorem Ss.same(h:Ss H0 H M L bs m fr)(s:aj H H'):Ss H0 H' M L bs m fr:=⟨h.rows.same s,h.sm.trans s,s _ _ h.dL,h.new⟩
theorem Ss.ins(h:Ss H0 H M L bs m fr){c:Nt.End}{z:Str}{a:Addr×Addr}(ha:bs[c.1]?=some a)(hc:c.1 < m.length):Ss H0 (upd H a.2<|Ls<|(row m c.1).take c.2++z :: (row m c.1).drop c.2) M L bs (Nt.ins m c z) fr:=by
 obtain⟨n1,n2⟩:=h.new a<|Aq ha;exact⟨h.rows.ins ha hc,dN h.sm n1,by rw [aq n2.symm];exact h.dL,h.new⟩
theorem Ss.set(h:Ss H0 H M L bs m fr){i:Nat}{a:Addr×Addr}(ha:bs[i]?=some a)(hi:i < m.length)(zs:List Str):Ss H0 (upd H a.2<|Ls zs) M L bs (m.set i (m[i].1,zs)) fr:=by
 obtain⟨n1,n2⟩:=h.new a<|Aq ha;exact⟨k3r h.rows ha hi zs,dN h.sm n1,by rw [aq n2.symm];exact h.dL,h.new⟩
theorem Ss.pt(h:Ss H0 H M L bs m fr)(hM:H0 M=none)(vQ:M≠L){i:Nat}{a:Addr×Addr}{t:Addr}{pt:Str}(ha:bs[i]?=some a)(hi:i < m.length)(ht:H t=some (.tup [.str pt,.ref a.2])) :
  Ss H0 (upd H M<|.lst<|(bs.map λa=>V.ref a.1).set i<|.ref t) M L (bs.set i (t,a.2)) (m.set i (pt,m[i].2)) fr:=by
 refine⟨k59 h.rows ha hi ht,dN h.sm hM,by rw [aq vQ.symm];exact h.dL,λx hx=>?_⟩
 rcases Ft hx with k | k
 ·exact h.new x k
 ·rw [k];exact h.new a<|Aq ha
theorem Ss.cP(h:Ss H0 H M L bs m fr)(hM:H0 M=none)(vQ:M≠L){j:Nat}{t l:Addr}{pt:Str}{zs:List Str}(hj:j<=m.length)(ht:H t=some (.tup [.str pt,.ref l]))(hl:H l=some (Ls zs))(hn:l∉bs.map (·.2))(hR:l≠M)(l0:H0 l=none)(lL:l≠L) :
  Ss H0 (upd H M<|.lst<|insertAt (bs.map λa=>V.ref a.1) j<|.ref t) M L (bs.take j++(t,l) :: bs.drop j) (B4.cP m j (pt,zs)) fr:=by
 refine⟨k35 h.rows hj ht hl hn hR,dN h.sm hM,by rw [aq vQ.symm];exact h.dL,λx hx=>?_⟩
 rcases An.mp hx with k | k
 ·exact h.new x<|List.mem_of_mem_take k
 ·rcases Ai.mp k with k | k
  ·rw [k];exact⟨l0,lL⟩
  ·exact h.new x<|List.mem_of_mem_drop k
end
abbrev e9(R M L l:Addr)(κ b:Int)(r p:Nat)(bad:Str)(u9 b6 cm cq cu cv:Option V):St:=[some<|.ref R,some<|.int κ,some<|.int b,some<|.ref M,some<|.int (r:Int),some<|.str bad,some<|.ref l,some<|.int (p:Int),some<|.ref L,u9,b6,cm,cq,cu,cv]
def JJ(R M L l:Addr)(κ b:Int)(r p:Nat)(bad:Str)(H0:Hp)(as:List<|Addr×Addr)(n:Net)(fr:List Str)(S:Prop)(σ:St)(H:Hp):Prop:=
 ∃ m bs u9 b6 cm cq cu cv,σ=e9 R M L l κ b r p bad u9 b6 cm cq cu cv/\Ss H0 H M L bs m fr/\(S->gG m/\(m=n\/¬ Good m))/\(¬ S->m=n/\bs=as)
section
variable{R M L l:Addr}{κ b:Int}{r p:Nat}{bad:Str}{H0:Hp}{as:List (Addr×Addr)}{n:Net}{fr:List Str}{S:Prop}{σ:St}{H H':Hp}
theorem JJ.or(h:JJ R M L l κ b r p bad H0 as n fr S σ H)(hb:gG n)(s:aj H H')(T:Prop):JJ R M L l κ b r p bad H0 as n fr (S\/T) σ H':=by
 obtain⟨m,bs,u9,b6,cm,cq,cu,cv,e,hs,h1,h2⟩:=h;refine⟨m,bs,u9,b6,cm,cq,cu,cv,e,hs.same s,λk=>?_,λk=>h2 λq=>k<|.inl q⟩
 by_cases q:S
 ·exact h1 q
 ·obtain⟨rfl,_⟩:=h2 q;exact⟨hb,.inl rfl⟩
end
theorem yF{X:Cx}{H:Hp}{l pe:Addr}{zs:List Str}(hl:H l=some (Ls zs))(hp:H pe=none):lG X (upd H pe<|.lst []) 1 (.ref l) (.ref pe) (decide (zs=[])):=by
 have s:=aJ hp<|.lst []
 by_cases e:zs=[]
 ·subst e;exact k76 (zs:=[]) (s _ _ hl) aw
 ·rw [BX e];refine B3 (al.of<|s _ _ hl) (al.of aw) ?_;rw [Aa];exact λh=>e<|Bf.mp h
theorem Jb{j m:Nat}(h:j < m):kS m (j:Int)=some j:=by
 unfold kS;rw [BR (by omega),BR (by omega),Az]
theorem vR(x:Int){k:Nat}(hk:0 < k):∃ j:Nat,x % (k:Int)=j/\j < k:=by
 have h0:0<=x % (k:Int):=Bi _ (by omega);have h1:x % (k:Int) < k:=Bo _ (by omega);exact⟨(x % (k:Int)).toNat,by omega,by omega⟩
theorem yG(x:Int)(k:Nat):∃ j:Nat,x % ((k:Int)+1)=j/\j<=k:=by
 have h0:0<=x % ((k:Int)+1):=Bi _ (by omega);have h1:x % ((k:Int)+1) < (k:Int)+1:=Bo _ (by omega);exact⟨(x % ((k:Int)+1)).toNat,by omega,by omega⟩
theorem Rq(κ x y z:Int):qA (.int κ) [.int x,.int y,.int z]=decide (κ=x\/κ=y\/κ=z):=by
 unfold qA;simp only [Fi,List.any_nil,TX];show((x == κ) || ((y == κ) || (z == κ)))=_;rw [Cp,Bool.or_eq_true,Bool.or_eq_true,CN];simp only [KQ]
 constructor
 ·rintro (h | h | h)
  ·exact .inl h.symm
  ·exact .inr<|.inl h.symm
  ·exact .inr<|.inr h.symm
 ·rintro (h | h | h)
  ·exact .inl h.symm
  ·exact .inr<|.inl h.symm
  ·exact .inr<|.inr h.symm
structure Rn(n m:Net)(r p:Nat)(old bad:Str)(i k:Nat):Prop where
 nm:m.map (·.1)=n.map (·.1)
 ln:∀ j,(row m j).length=(row n j).length
 len:(af m).length=(af n).length
 at':aM m (r,p)=some (if r < i\/(r=i/\p < k) then bad else old)
 vS:∀ z∈af m,z∈af n\/z=bad
theorem Rr{m:Net}{i:Nat}(h:i < m.length)(x:Str)(zs:List Str)(j:Nat):row (m.set i (x,zs)) j=if i=j then zs else row m j:=by
 unfold row;rw [Dy]
 by_cases e:i=j
 ·subst e;rw [BR rfl,BR rfl,BR h];rfl
 ·rw [BK e,BK e]
section
variable{n m:Net}{r p i k:Nat}{old bad:Str}
theorem Rn.put(h:Rn n m r p old bad i k)(hi:i < m.length)(hk:k < (row m i).length)(e:(row m i)[k]=old):Rn n (m.set i (m[i].1,(row m i).set k bad)) r p old bad i (k+1):=by
 have p1:=IZ hi (m[i].1,(row m i).set k bad);have p2:=yE m i hi;rw [<- jO hi] at p2;refine⟨by rw [Rm hi];exact h.nm,λj=>?_,?_,?_,λz hz=>?_⟩
 ·rw [Rr hi]
  split
  ·rename_i e';rw [Dk,<- e'];exact h.ln i
  ·exact h.ln j
 ·rw [p1.length_eq,Ae,Dk,<- h.len,p2.length_eq,Ae]
 ·unfold aM;show(row _ r)[p]?=_;rw [Rr hi];have a:=h.at';unfold aM at a;have a:(row m r)[p]?=_:=a
  by_cases q:i=r
  ·rw [BR q,Dy]
   by_cases q2:k=p
   ·rw [BR q2,BR (by omega),BR<|.inr ⟨q.symm,by omega⟩]
   ·rw [BK q2,q,a]
    congr 1
    by_cases c:r < i\/r=i/\p < k
    ·rw [BR c,BR<|by omega]
    ·rw [BK c,BK<|by omega]
  ·rw [BK q,a]
   congr 1
   by_cases c:r < i\/r=i/\p < k
   ·rw [BR c,BR<|by omega]
   ·rw [BK c,BK<|by omega]
 ·rcases An.mp (p1.mem_iff.mp hz) with q | q
  ·rcases Ft q with q | q
   ·exact h.vS z<|p2.mem_iff.mpr<|Aw _ q
   ·exact .inr q
  ·exact h.vS z<|p2.mem_iff.mpr<|Ap _ q
theorem Rn.skip(h:Rn n m r p old bad i k)(hk:k < (row m i).length)(e:(row m i)[k]≠old):Rn n m r p old bad i (k+1):=by
 refine⟨h.nm,h.ln,h.len,?_,h.vS⟩;rw [h.at']
 congr 1
 by_cases c:r < i\/r=i/\p < k
 ·rw [BR c,BR<|by omega]
 ·by_cases c2:r < i\/r=i/\p < k+1
  ·exfalso
   have e1:r=i:=by omega
   have e2:p=k:=by omega
   subst e1 e2;have a:=h.at';unfold aM at a;have a:(row m r)[p]?=_:=a;rw [BK c,Ab hk] at a;exact e<|Option.some.inj a
  ·rw [BK c,BK c2]
theorem Rn.next(h:Rn n m r p old bad i k)(hk:k=(row n i).length)(hp:p < (row n r).length):Rn n m r p old bad (i+1) 0:=by
 refine⟨h.nm,h.ln,h.len,?_,h.vS⟩;rw [h.at']
 congr 1
 by_cases c:r < i\/r=i/\p < k
 ·rw [BR c,BR<|by omega]
 ·have:¬(r < i+1\/r=i+1/\p < 0):=by
   rintro (q | q)
   ·have e1:r=i:=by omega
    subst e1;omega
   ·omega
  rw [BK c,BK this]
theorem Rn.out(h:Rn n m r p old bad n.length 0)(N:cj n)(hr:r < n.length)(hb:bad∈eU):gG m/\¬ Good m:=by
 obtain⟨b1,b2⟩:=IT bad hb;obtain⟨c1,c2,c3,c4⟩:=N.nE;have a:=h.at';rw [BR<|.inl hr] at a;have hl:m.length=n.length:=by
  have:=CG List.length h.nm;rwa [Aa,Aa] at this
 refine⟨⟨by omega,by rw [h.len];exact c2,λz hz=>c3 z (by rw [h.nm] at hz;exact hz),λz hz=>?_⟩,q2f (fk a) b1⟩
 rcases h.vS z hz with q | q
 ·exact c4 z q
 ·rw [q];exact b2
end
theorem Ss.row{H0 H:Hp}{M L:Addr}{bs:List (Addr×Addr)}{m:Net}{fr:List Str}(h:Ss H0 H M L bs m fr)(hM:H0 M=none)(vQ:M≠L){j:Nat}{t l:Addr}{pt:Str}{zs:List Str}(hj:j<=m.length)(hl:H l=none)(ht:(upd H l<|Ls zs) t=none) :
  Ss H0 (upd (upd (upd H l<|Ls zs) t<|.tup [.str pt,.ref l]) M<|.lst<|insertAt (bs.map λa=>V.ref a.1) j<|.ref t) M L (bs.take j++(t,l) :: bs.drop j) (B4.cP m j (pt,zs)) fr:=by
 have s1:=aJ hl<|Ls zs;have s2:=aJ ht<|.tup [.str pt,.ref l];refine((h.same s1).same s2).cP hM vQ hj aw (s2 _ _ aw) (λhm=>?_) (bC h.rows.lst hl).symm (g8 h.sm hl) (bC h.dL hl).symm;obtain⟨x,hx,e⟩:=Al.mp hm;exact h.rows.fresh hl hx e.symm
theorem q7b(xs:List V)(y:V):insertAt xs xs.length y=xs++[y]:=by
 unfold insertAt;rw [Bq,List.drop_length]
theorem k49(zs:List Str)(p:Nat):(zs.map V.str).eraseIdx p=(zs.eraseIdx p).map V.str:=by
 refine De λi=>?_;rw [Ef,Af,Af,Af,Ef]
 split <;> rfl
def yH(n:Net)(κ:Int)(m:Net):Prop:=(κ≠6/\κ≠9/\κ≠11/\(m=n\/¬ Good m))\/((κ=6\/κ=11)/\Good m/\¬ gF m)\/(κ=9/\Good m/\gF m/\∀ ss:List Str,ss.Nodup->(∀ z,z∈ss↔z∈af m)->¬ Flt m ss)
def JD(R M L l:Addr)(κ b:Int)(r p:Nat)(bad:Str)(H0:Hp)(fr:List Str)(D:Net->Prop)(σ:St)(H:Hp):Prop:=
 ∃ m bs u9 b6 cm cq cu cv,σ=e9 R M L l κ b r p bad u9 b6 cm cq cu cv/\Ss H0 H M L bs m fr/\D m
def DA(n:Net)(κ:Int)(r p:Nat)(f0 f1:Str)(m:Net):Prop:=((κ<=5\/κ=12)->gG m/\(m=n\/¬ Good m))/\(6<=κ/\κ<=8->m=n)/\(9<=κ/\κ<=11->m=bb n (r,p) f0 f1)
def DB(n:Net)(κ:Int)(r p:Nat)(f0 f1:Str)(m:Net):Prop:=((κ<=5\/κ=12)->gG m/\(m=n\/¬ Good m))/\(κ=9->m=bb n (r,p) f0 f1)/\(κ=8\/κ=10->gG m/\m.length<=19)/\(κ=6\/κ=11->gG m/\Good m/\¬ gF m)
def dX(n:Net)(c:Nt.End)(zs:List Str):Net:=zs.foldl (λm z=>ins m c z) n
theorem k5g(n:Net)(c:Nt.End)(zs:List Str)(z:Str):dX n c (zs++[z])=ins (dX n c zs) c z:=by
 unfold dX;rw [List.foldl_append];rfl
theorem k77(n:Net)(c:Nt.End)(zs:List Str):(dX n c zs).length=n.length:=by
 unfold dX
 induction zs generalizing n with
 | nil=>rfl
 | cons z zs ih=>rw [Db,ih,cD]
theorem q0i{n:Net}{c:Nt.End}{zs:List Str}(hc:c.1 < n.length)(hp:c.2<=(row n c.1).length):(row (dX n c zs) c.1).length=(row n c.1).length+zs.length:=by
 unfold dX
 induction zs generalizing n with
 | nil=>rfl
 | cons z zs ih=>
  have h1:=kz (z:=z) hc hp c.1;rw [BR rfl] at h1;rw [Db,ih (by rw [cD];exact hc) (by omega),h1,Ao];omega
theorem Jc{n m:Net}(N:cj n){c:Nt.End}(hc:du n c){y z:Str}(kI:y≠z)(ny:aQ y=true)(nz:aQ z=true)(hy:y∉af n)(hz:z∉af n)(h:m=n\/m=bb n c y z) :
  Good m/\m.length<=17/\(af m).length<=36/\m.map (·.1)=n.map (·.1)/\∀ x∈af m,x∈af n\/x=y\/x=z:=by
 have h1:=N.few;have h2:=N.less
 rcases h with rfl | rfl
 ·exact⟨N.good,h1,by omega,rfl,λx hx=> .inl hx⟩
 ·have p:=vN (y:=y) (z:=z) hc.1;have l1:=p.length_eq;simp only [Ao] at l1;refine⟨k80 N.good (by omega) hc.1 kI hy hz ny nz,by rw [yx];exact h1,by omega,vP ..,λx hx=>?_⟩;have hx:=p.mem_iff.mp hx;simp only [Ai] at hx
  rcases hx with h | h | h | h | h
  ·exact .inr<|.inr h
  ·exact .inr<|.inl h
  ·exact .inr<|.inr h
  ·exact .inr<|.inl h
  ·exact .inl h
def Jd:Sp:=λvs H Q _=>∃(R:Addr) (as:List<|Addr×Addr) (n:Net) (κ b:Int),vs=[.ref R,.int κ,.int b]/\ah H R as n/\cj n/\0<=κ/\κ < 13/\∀ M bs m H',aj H H'->ah H' M bs m->gG m->yH n κ m->Q (.ref M) H'
section
variable{P:Program}{w:World}{K:PySem.W.Frag}{mg:Str->Option Value}{base:Heap}
abbrev Je:List Str:=["_law_rows","_law_kind","_law_big_here","_law_made","_law_r","_law_bad","_law_ties","_law_place","_law_free","_law_old","_law_point","_law_names_here","_law_k","_law_more","_law_name"]
theorem nF:ao Je ["_law_rows","_law_kind","_law_big_here"] (aW C3):=⟨rfl,rfl,rfl,by decide +kernel,rfl,by decide +kernel,by decide +kernel⟩
theorem q46{f:Addr}{fd:FuncData}(F:bM K "_law_spoilt" "_law_spoilt" C3 f fd)(T:Txt mg)(GY:aV P w K mg base 5 "_law_copy" ["_law_rows"] xR)(GU:aV P w K mg base 5 "_law_unlike" ["_law_made","_law_big_here"] IL) :
  aD P w K mg base bP 6 f fd ["_law_rows","_law_kind","_law_big_here"] Jd:=by
 refine F.gb nF (λvs H Q E h=>?_) λb0 H vs Q E hr h=>?_
 ·obtain⟨R,as,n,κ,b,rfl,_⟩:=h;rfl
 obtain⟨R,E9,n,κ,b,rfl,hR,N,k0,k13,q⟩:=h;have nd:=nF.nd;have un:=hr.gg;have hn:=N.few;have ht:=N.less;have h0:=N.good.pos;show Run _ _ _ [some<|.ref R,some<|.int κ,some<|.int b,none,none,none,none,none,none,none,none,none,none,none,none] H;refine aN 3 nd (bZ GY hr<|ai<|ae 0<|au ⟨R,E9,n,rfl,hR,by omega,λM as H1 s1 kF f1 hM=>?_⟩);have bB:=hM.len;show Run _ _ _ [some<|.ref R,some<|.int κ,some<|.int b,some<|.ref M,none,none,none,none,none,none,none,none,none,none,none] H1;refine aN 4 nd<|aI cr<|ae 2<|bJ cZ T.len CZ<|ai<|ae 3<|au ⟨M,_,rfl,.inl<|al.of hM.lst,?_⟩;rw [Aa,bB];refine⟨_,_,rfl,rfl,by omega,?_⟩;obtain⟨r,er,fP⟩:=vR b h0;show Run _ _ _ [some<|.ref R,some<|.int κ,some<|.int b,some<|.ref M,some<|.int<|b % (n.length:Int),none,none,none,none,none,none,none,none,none,none] H1;rw [er];show Run _ _ _ [some<|.ref R,some<|.int κ,some<|.int b,some<|.ref M,some<|.int (r:Int),none,none,none,none,none,none,none,none,none,none] H1;refine aN 5 nd (aS cC<|cM<|ai<|cN<|ai<|cN<|ai<|cN<|ai<|cN<|ai<|cN<|ai<|aI Ld<|cN<|ay ⟨_,_,rfl,rfl,by decide,by decide,by decide,au ⟨(by show 6<=sizeLine;decide),λtb htb=>?_⟩⟩);refine aI cr (aI dz<|ae 2<|ay ⟨_,_,rfl,rfl,⟨by decide,by decide⟩,ay ⟨_,_,rfl,rfl,(by show(0:Int) < 6;decide),?_⟩⟩);have ez:Txt.mul ("z" : Str) 9 = "zzzzzzzzz":=by decide +kernel
 rw [ez];have s2:=aJ htb<|.tup<|eU.map V.str;obtain⟨bad,fz,Jf⟩:∃ bad∈eU,dI (eU.map V.str) (b / 64 % 6)=some (.str bad):=by
  obtain⟨j,ej,hj⟩:=vR (b / 64) (k:=6) (by decide);have ej:b / 64 % 6=(j:Int):=ej;rw [ej];have hl:eU.length=6:=rfl;exact⟨eU[j],Cb _,iW<|Ab<|by omega⟩
 refine⟨tb,_,_,.str bad,rfl,rfl,aK.of aw,Jf,?_⟩;show Run _ _ _ [some<|.ref R,some<|.int κ,some<|.int b,some<|.ref M,some<|.int (r:Int),some<|.str bad,none,none,none,none,none,none,none,none,none] (upd H1 tb<|.tup<|eU.map V.str);have qe:=hM.same s2;have kD:=s1.trans s2;generalize upd H1 tb (.tup<|eU.map V.str)=H2 at qe kD;obtain⟨a,ea,dP,et,el,erw⟩:=qe.at fP;refine aN 6 nd<|aS cC<|aS cf<|ae 3<|ae 4 ⟨M,_,_,.ref a.1,rfl,rfl,al.of qe.lst,dP,ay ⟨a.1,_,_,.ref a.2,rfl,rfl,aK.of et,rfl,?_⟩⟩;show Run _ _ _ [some<|.ref R,some<|.int κ,some<|.int b,some<|.ref M,some<|.int (r:Int),some<|.str bad,some<|.ref a.2,none,none,none,none,none,none,none,none] H2;refine aN 7 nd (aI cr<|aI dz<|ae 2<|ay ⟨_,_,rfl,rfl,⟨by decide,by decide⟩,?_⟩);refine bJ (zt rfl) T.max MP<|ai<|ay<|ai<|bJ cZ T.len CZ<|ai<|ae 6<|au ⟨a.2,_,rfl,.inl<|al.of el,au ⟨_,_,rfl,?_⟩⟩;rw [Aa];have FE:(if(((row n r).length:Nat):Int) > 1 then(((row n r).length:Nat):Int) else 1)=((max 1 (row n r).length:Nat):Int):=by
  split <;> omega
 rw [FE];obtain⟨p,ep,hp⟩:=vR (b / 512) (k:=max 1 (row n r).length) (by omega);refine⟨_,_,rfl,rfl,by omega,?_⟩;show Run _ _ _ [some<|.ref R,some<|.int κ,some<|.int b,some<|.ref M,some<|.int (r:Int),some<|.str bad,some<|.ref a.2,some<|.int<|b / 512 % ((max 1 (row n r).length:Nat):Int),none,none,none,none,none,none,none] H2;rw [ep];show Run _ _ _ [some<|.ref R,some<|.int κ,some<|.int b,some<|.ref M,some<|.int (r:Int),some<|.str bad,some<|.ref a.2,some<|.int (p:Int),none,none,none,none,none,none,none] H2;refine aN 8 nd (bZ GU hr<|ai<|ae 3<|ai<|ae 2<|au ⟨M,as,n,b,rfl,qe,by omega,by omega,λL fr H3 s3 jU eL dL=>?_⟩);have four:=dL.four N.good.twice hn ht;obtain⟨f0,dE,f2,f3,fs,qf⟩:∃ f0 f1 f2 f3 fs,fr=f0 :: f1 :: f2 :: f3 :: fs:=by
  match fr,four with
  | f0 :: f1 :: f2 :: f3 :: fs,_=>exact⟨f0,f1,f2,f3,fs,rfl⟩
 have lS:=gZ n r;have g0:dI (fr.map V.str) 0=some (.str f0):=iW (j:=0) (by rw [qf];rfl);have g1:dI (fr.map V.str) 1=some (.str dE):=iW (j:=1) (by rw [qf];rfl);have g2:dI (fr.map V.str) 2=some (.str f2):=iW (j:=2) (by rw [qf];rfl);have g3:dI (fr.map V.str) 3=some (.str f3):=iW (j:=3) (by rw [qf];rfl);have x0c:=g8 kD jU;have yI:M≠L:=bC qe.lst jU;have hM3:=qe.same s3;have nj:=kD.trans s3;have S0:Ss H H3 M L as n fr:=⟨hM3,nj,eL,λx hx=>⟨(f1 x hx).2,λe=>by
  obtain⟨zs,q⟩:=qe.lists hx;rw [e,jU] at q;cases q⟩⟩
 have Ru:p<=(row n r).length:=by omega
 have yJ:row n r≠[]->p < (row n r).length:=λh=>by
  have:=Ck.mpr h;omega
 have wB:∀ z∈fr,z.length<=1000:=λz hz=>by
  have:=kH<|Q9 (dL.ok z hz).1;omega
 have mj:=N.nE;have J0:JJ R M L a.2 κ b r p bad H as n fr (κ=-1) (e9 R M L a.2 κ b r p bad none none none none none none) H3:=⟨n,as,_,_,_,_,_,_,rfl,S0,λ_=>⟨mj,.inl rfl⟩,λ_=>⟨rfl,rfl⟩⟩;show Run _ _ _ (e9 R M L a.2 κ b r p bad none none none none none none) H3;have cQ:∀{H':Hp},Ss H H' M L as n fr->H' a.2=some (Ls<|row n r):=λ{H'} h=>by
  obtain⟨a',iZ,_,_,vT,_⟩:=h.rows.at fP;rw [ea] at iZ;cases iZ;exact vT
 have j6:∀{H':Hp} {m:Net} {bs:List (Addr×Addr)} {S:Prop},Ss H H' M L bs m fr->(¬ S->m=n/\bs=as)->¬ S->Ss H H' M L as n fr:=λ{H' m bs S} hs j h=>by
  obtain⟨e1,e2⟩:=j h;rw [e1,e2] at hs;exact hs
 have JC:=J0;refine lF (κ=0) (κ≠0) (JJ R M L a.2 κ b r p bad H as n fr<|κ=-1\/κ=0) (λT hT=>bX dA<|ae 1<|ay ⟨rfl,_,rfl,hT _ (λh=>V.int.inj<|BZ h) λh e=>FP h<|CG V.int e⟩) (λek=>?_) (λek=>aH<|JC.or mj (aj.refl _) _) ?_
 ·refine wz<|cM<|ai<|ae 5<|ai<|ae 6<|au ⟨Z2,λt ht=>?_⟩;have hs:=S0.same<|aJ ht<|.tup [.str bad,.ref a.2];refine Rl (ae 3<|ae 4 ⟨M,_,_,r,rfl,rfl,hs.rows.lst,Jb (by rw [Aa,bB];exact fP),?_⟩);obtain⟨c1,c2⟩:=sp0 N fP fz;exact aH ⟨_,_,_,_,_,_,_,_,rfl,hs.pt kF yI ea fP aw,λ_=>⟨c1,.inr c2⟩,λh=>absurd (.inr ek) h⟩
 rintro σ H4 ⟨m,bs,u9,b6,cm,cq,cu,cv,rfl,hs,j1,j2⟩;have JC:JJ R M L a.2 κ b r p bad H as n fr (κ=-1\/κ=0) (e9 R M L a.2 κ b r p bad u9 b6 cm cq cu cv) H4:=⟨m,bs,u9,b6,cm,cq,cu,cv,rfl,hs,j1,j2⟩;refine lF (κ=1) (κ≠1) (JJ R M L a.2 κ b r p bad H as n fr<|(κ=-1\/κ=0)\/κ=1) (λT hT=>bX dA<|ae 1<|ay ⟨rfl,_,rfl,hT _ (λh=>V.int.inj<|BZ h) λh e=>FP h<|CG V.int e⟩) (λek=>?_) (λek=>aH<|JC.or mj (aj.refl _) _) ?_
 ·have hs:=j6 hs j2 (by omega);obtain⟨a',iZ,i0,vU,vT,_⟩:=hs.rows.at fP;refine eB (lI CP DX DY mQ<|ae 3 ⟨m8 hs.rows.lst,aI cr<|aI dz<|ae 2<|ay ⟨_,_,rfl,rfl,⟨by decide,by decide⟩,aI dZ<|bJ cZ T.len CZ<|ai<|ae 3<|au ⟨M,_,rfl,.inl<|al.of hs.rows.lst,ay ⟨_,_,rfl,rfl,?_⟩⟩⟩⟩);rw [Aa,bB];obtain⟨j,ej,hj⟩:=yG (b / 7) n.length;refine⟨_,_,rfl,rfl,by omega,?_⟩;refine cM<|ai<|aS cC<|aS cf<|ae 3<|ae 4 ⟨M,_,_,.ref a'.1,rfl,rfl,al.of hs.rows.lst,i0,ay ⟨a'.1,_,_,.str n[r].1,rfl,rfl,aK.of vU,rfl,?_⟩⟩;refine ai<|cO<|au ⟨Z0,λl1 dh=>au ⟨Z2,λt ht=>?_⟩⟩;have mW:=hs.row kF yI (pt:=n[r].1) (zs:=[]) hj dh ht;refine⟨M,_,_,_,rfl,rfl,((hs.same<|aJ dh _).same<|aJ ht _).rows.lst,by rw [ej];omega,by rw [ej,Aa,bB];omega,by rw [Aa,bB];exact cb (by omega),?_⟩;rw [ej,Az];obtain⟨c1,c2⟩:=sp1 N (j:=j) fP;exact aH ⟨_,_,_,_,_,_,_,_,rfl,mW,λ_=>⟨c1,.inr c2⟩,λh=>absurd (.inr ek) h⟩
 rintro σ H4 ⟨m,bs,u9,b6,cm,cq,cu,cv,rfl,hs,j1,j2⟩;have JC:JJ R M L a.2 κ b r p bad H as n fr ((κ=-1\/κ=0)\/κ=1) (e9 R M L a.2 κ b r p bad u9 b6 cm cq cu cv) H4:=⟨m,bs,u9,b6,cm,cq,cu,cv,rfl,hs,j1,j2⟩;refine oU (λk H'=>aj H4 H'/\(k=true->κ=2/\row n r≠[])) (JJ R M L a.2 κ b r p bad H as n fr<|((κ=-1\/κ=0)\/κ=1)\/κ=2) ?_ ?_ (λH' h=>aH<|JC.or mj h.1 _) ?_
 ·refine iU<|oz<|bX dA<|ae 1<|ay ⟨rfl,_,rfl,?_⟩
  by_cases ek:κ=2
  ·rw [BW<|CG V.int ek];have hs:=j6 hs j2 (by omega);refine a9<|oB<|bX (lH un)<|ae 6<|cO<|au ⟨Z0,λpe jc=>⟨1,_,by decide,yF (cQ hs) jc,_,rfl,aJ jc _,λhk=>⟨ek,?_⟩⟩⟩
   simpa using hk
  ·rw [BX λe=>ek<|V.int.inj e];exact bp ⟨aj.refl _,λh=>by cases h⟩
 ·rintro H5 ⟨s5,hk⟩;obtain⟨ek,aX⟩:=hk rfl;have hs:=(j6 hs j2<|by omega).same s5;have eG:=yJ aX;refine aN 9 nd<|aS cf<|ae 6<|ae 7 ⟨a.2,_,_,.str (row n r)[p],rfl,rfl,al.of<|cQ hs,iW<|Ab eG,?_⟩;refine kg<|ae 3 ⟨M,rfl,⟨_,al.of hs.rows.lst⟩,?_⟩;refine kh (xs:=as.map λa=>V.ref a.1) (λi σ H'=>∃ m v10 v11 qg,σ=e9 R M L a.2 κ b r p bad (some<|.str (row n r)[p]) v10 v11 qg cu cv/\Ss H H' M L as m fr/\Rn n m r p (row n r)[p] bad i 0) ⟨n,_,_,_,rfl,hs,rfl,λ_=>rfl,rfl,?_,λz hz=> .inl hz⟩ ?_ ?_ ?_
  ·rw [BK<|by omega];exact Ab eG
  ·rintro i σ H' _ ⟨_,_,_,_,_,h,_⟩;exact al.of h.rows.lst
  ·rintro i x σ H' hx ⟨m,v10,v11,qg,rfl,hs,rn⟩;have E4:m.length=n.length:=by rw [<- hs.rows.len,bB]
   have hi:i < m.length:=by
    have:=(Ac.mp hx).1;rw [Aa] at this;omega
   obtain⟨a',iZ,i0,vU,vT,Ob⟩:=hs.rows.at hi;rw [Af,iZ] at hx;cases hx;refine kr rfl (aK.of vU) (bx 10 nd<|bx 11 nd ?_);refine k4 T.range<|bJ cZ T.len CZ<|ai<|ae 11<|au ⟨a'.2,_,rfl,.inl<|al.of vT,_,rfl,?_,?_,?_⟩
   ·omega
   ·have:=gZ m i;have:=rn.len;rw [Aa];omega
   rw [Aa,Az];refine k8 (λk σ H'=>∃ m v10 qg,σ=e9 R M L a.2 κ b r p bad (some<|.str (row n r)[p]) v10 (some<|.ref a'.2) qg cu cv/\Ss H H' M L as m fr/\Rn n m r p (row n r)[p] bad i k) ⟨m,_,_,rfl,hs,rn⟩ ?_ ?_
   ·rintro k σ H' hk ⟨m',v10,qg,rfl,hs,vV⟩;have ji:i < m'.length:=by rw [<- hs.rows.len,bB,<- E4];exact hi
    obtain⟨a2,nG,_,kC,fE,Rv⟩:=hs.rows.at ji;rw [iZ] at nG;cases nG;have jE:k < (row m' i).length:=by rw [vV.ln,<- rn.ln];exact hk
    rw [Dw];refine bx 12 nd ?_;show Run _ _ _ (e9 R M L a.2 κ b r p bad (some<|.str (row n r)[p]) v10 (some<|.ref a'.2) (some<|.int (k:Int)) cu cv) H';refine d9<|bX dA<|aS cf<|ae 11<|ae 12 ⟨a'.2,_,_,.str (row m' i)[k],rfl,rfl,al.of fE,iW<|Ab jE,ae 9 ⟨rfl,_,rfl,?_⟩⟩
    by_cases e:(row m' i)[k]=(row n r)[p]
    ·rw [BW<|CG V.str e];refine a9 (wz<|ae 5<|Rl<|ae 11<|ae 12 ⟨a'.2,_,_,k,rfl,rfl,fE,Jb (by rw [Aa];exact jE),?_⟩);have h2:=hs.set iZ ji<|(row m' i).set k bad;rw [show((row m' i).map V.str).set k (V.str bad)=((row m' i).set k bad).map V.str from(Gv ..).symm];exact aH<|aH ⟨_,_,_,rfl,h2,vV.put ji jE e⟩
    ·rw [BX λq=>e<|V.str.inj q];exact bp<|aH<|aH ⟨_,_,_,rfl,hs,vV.skip jE e⟩
   ·rintro σ H' ⟨m',v10,qg,rfl,hs,vV⟩;exact aH ⟨m',_,_,_,rfl,hs,vV.next (rn.ln i) eG⟩
  ·rintro σ H' ⟨m,v10,v11,qg,rfl,hs,rn⟩;rw [Aa,bB] at rn;obtain⟨c1,c2⟩:=rn.out N fP fz;exact aH ⟨_,_,_,_,_,_,_,_,rfl,hs,λ_=>⟨c1,.inr c2⟩,λh=>absurd (.inr ek) h⟩
 rintro σ H4 ⟨m,bs,u9,b6,cm,cq,cu,cv,rfl,hs,j1,j2⟩;have JC:JJ R M L a.2 κ b r p bad H as n fr (((κ=-1\/κ=0)\/κ=1)\/κ=2) (e9 R M L a.2 κ b r p bad u9 b6 cm cq cu cv) H4:=⟨m,bs,u9,b6,cm,cq,cu,cv,rfl,hs,j1,j2⟩;refine oU (λk H'=>aj H4 H'/\(k=true->κ=3/\row n r≠[])) (JJ R M L a.2 κ b r p bad H as n fr<|(((κ=-1\/κ=0)\/κ=1)\/κ=2)\/κ=3) ?_ ?_ (λH' h=>aH<|JC.or mj h.1 _) ?_
 ·refine iU<|oz<|bX dA<|ae 1<|ay ⟨rfl,_,rfl,?_⟩
  by_cases ek:κ=3
  ·rw [BW<|CG V.int ek];have hs:=j6 hs j2 (by omega);refine a9<|oB<|bX (lH un)<|ae 6<|cO<|au ⟨Z0,λpe jc=>⟨1,_,by decide,yF (cQ hs) jc,_,rfl,aJ jc _,λhk=>⟨ek,?_⟩⟩⟩
   simpa using hk
  ·rw [BX λe=>ek<|V.int.inj e];exact bp ⟨aj.refl _,λh=>by cases h⟩
 ·rintro H5 ⟨s5,hk⟩;obtain⟨ek,aX⟩:=hk rfl;have hs:=(j6 hs j2<|by omega).same s5;have eG:=yJ aX;refine eB<|B6 CP NK NQ KU<|ae 6 ⟨m8<|cQ hs,ae 7 ⟨a.2,_,(p:Int),p,.str (row n r)[p],rfl,rfl,cQ hs,?_,?_,?_,?_,?_⟩⟩
  ·omega
  ·omega
  ·rw [Aa];exact(zD<|Jb eG).1
  ·rw [Af,Ab eG];rfl
  have h2:=hs.set ea fP<|(row n r).eraseIdx p;rw [show((row n r).map V.str).eraseIdx p=((row n r).eraseIdx p).map V.str from k49 ..];obtain⟨c1,c2⟩:=sp3 N fP (p:=p) (by rw [<- jO fP];exact eG);rw [<- jO fP] at c1 c2;exact aH ⟨_,_,_,_,_,_,_,_,rfl,h2,λ_=>⟨c1,.inr c2⟩,λh=>absurd (.inr ek) h⟩
 rintro σ H4 ⟨m,bs,u9,b6,cm,cq,cu,cv,rfl,hs,j1,j2⟩;have JC:JJ R M L a.2 κ b r p bad H as n fr ((((κ=-1\/κ=0)\/κ=1)\/κ=2)\/κ=3) (e9 R M L a.2 κ b r p bad u9 b6 cm cq cu cv) H4:=⟨m,bs,u9,b6,cm,cq,cu,cv,rfl,hs,j1,j2⟩;refine oU (λk H'=>aj H4 H'/\(k=true->κ=4/\row n r≠[])) (JJ R M L a.2 κ b r p bad H as n fr<|((((κ=-1\/κ=0)\/κ=1)\/κ=2)\/κ=3)\/κ=4) ?_ ?_ (λH' h=>aH<|JC.or mj h.1 _) ?_
 ·refine iU<|oz<|bX dA<|ae 1<|ay ⟨rfl,_,rfl,?_⟩
  by_cases ek:κ=4
  ·rw [BW<|CG V.int ek];have hs:=j6 hs j2 (by omega);refine a9<|oB<|bX (lH un)<|ae 6<|cO<|au ⟨Z0,λpe jc=>⟨1,_,by decide,yF (cQ hs) jc,_,rfl,aJ jc _,λhk=>⟨ek,?_⟩⟩⟩
   simpa using hk
  ·rw [BX λe=>ek<|V.int.inj e];exact bp ⟨aj.refl _,λh=>by cases h⟩
 ·rintro H5 ⟨s5,hk⟩;obtain⟨ek,aX⟩:=hk rfl;have hs:=(j6 hs j2<|by omega).same s5;have eG:=yJ aX;refine eB (lI CP DX DY mQ<|ae 6 ⟨m8<|cQ hs,aI cr<|aI dz<|ae 2<|ay ⟨_,_,rfl,rfl,⟨by decide,by decide⟩,aI dZ<|bJ cZ T.len CZ<|ai<|ae 6<|au ⟨a.2,_,rfl,.inl<|al.of<|cQ hs,ay ⟨_,_,rfl,rfl,?_⟩⟩⟩⟩);rw [Aa];obtain⟨j,ej,hj⟩:=yG (b / 11) (row n r).length;refine⟨_,_,rfl,rfl,by omega,aS cf<|ae 6<|ae 7 ⟨a.2,_,_,.str (row n r)[p],rfl,rfl,al.of<|cQ hs,iW<|Ab eG,a.2,_,_,_,rfl,rfl,cQ hs,by rw [ej];omega,by rw [ej,Aa];omega,by rw [Aa];exact cb (by omega),?_⟩⟩;rw [ej,Az,qS];have h2:=hs.ins (c:=(r,j)) (z:=(row n r)[p]) ea fP;have Jg:(row n r)[p]∈af n:=fk (e:=(r,p))<|Ab eG;obtain⟨c1,c2⟩:=Ro N (kq n (r,j) _) (gs n (r,j) _ fP)<|mj.2.2.2 _ Jg;exact aH ⟨_,_,_,_,_,_,_,_,rfl,h2,λ_=>⟨c1,.inr c2⟩,λh=>absurd (.inr ek) h⟩
 rintro σ H4 ⟨m,bs,u9,b6,cm,cq,cu,cv,rfl,hs,j1,j2⟩;have JC:JJ R M L a.2 κ b r p bad H as n fr (((((κ=-1\/κ=0)\/κ=1)\/κ=2)\/κ=3)\/κ=4) (e9 R M L a.2 κ b r p bad u9 b6 cm cq cu cv) H4:=⟨m,bs,u9,b6,cm,cq,cu,cv,rfl,hs,j1,j2⟩;refine lF (κ=5) (κ≠5) (JJ R M L a.2 κ b r p bad H as n fr<|(((((κ=-1\/κ=0)\/κ=1)\/κ=2)\/κ=3)\/κ=4)\/κ=5) (λT hT=>bX dA<|ae 1<|ay ⟨rfl,_,rfl,hT _ (λh=>V.int.inj<|BZ h) λh e=>FP h<|CG V.int e⟩) (λek=>?_) (λek=>aH<|JC.or mj (aj.refl _) _) ?_
 ·have hs:=j6 hs j2 (by omega);refine eB (lI CP DX DY mQ<|ae 6 ⟨m8<|cQ hs,ae 7<|aS cf<|ae 8<|ay ⟨L,_,_,.str f0,rfl,rfl,al.of hs.dL,g0,a.2,_,(p:Int),_,rfl,rfl,cQ hs,by omega,by rw [Az,Aa];exact Ru,by rw [Aa];exact cb (by omega),?_⟩⟩);rw [Az,qS];have h2:=hs.ins (c:=(r,p)) (z:=f0) ea fP;obtain⟨c1,c2⟩:=Ro N (kq n (r,p) f0) (gs n (r,p) f0 fP) (wB f0<|by rw [qf];exact Ad);exact aH ⟨_,_,_,_,_,_,_,_,rfl,h2,λ_=>⟨c1,.inr c2⟩,λh=>absurd (.inr ek) h⟩
 rintro σ H4 ⟨m,bs,u9,b6,cm,cq,cu,cv,rfl,hs,j1,j2⟩;have JC:JJ R M L a.2 κ b r p bad H as n fr ((((((κ=-1\/κ=0)\/κ=1)\/κ=2)\/κ=3)\/κ=4)\/κ=5) (e9 R M L a.2 κ b r p bad u9 b6 cm cq cu cv) H4:=⟨m,bs,u9,b6,cm,cq,cu,cv,rfl,hs,j1,j2⟩;refine oU (λk H'=>aj H4 H'/\(k=true->κ=12/\row n r≠[])) (JJ R M L a.2 κ b r p bad H as n fr<|((((((κ=-1\/κ=0)\/κ=1)\/κ=2)\/κ=3)\/κ=4)\/κ=5)\/κ=12) ?_ ?_ (λH' h=>aH<|JC.or mj h.1 _) ?_
 ·refine iU<|oz<|bX dA<|ae 1<|ay ⟨rfl,_,rfl,?_⟩
  by_cases ek:κ=12
  ·rw [BW<|CG V.int ek];have hs:=j6 hs j2 (by omega);refine a9<|oB<|bX (lH un)<|ae 6<|cO<|au ⟨Z0,λpe jc=>⟨1,_,by decide,yF (cQ hs) jc,_,rfl,aJ jc _,λhk=>⟨ek,?_⟩⟩⟩
   simpa using hk
  ·rw [BX λe=>ek<|V.int.inj e];exact bp ⟨aj.refl _,λh=>by cases h⟩
 ·rintro H5 ⟨s5,hk⟩;obtain⟨ek,aX⟩:=hk rfl;have hs:=(j6 hs j2<|by omega).same s5;have eG:=yJ aX;have Jg:(row n r)[p]∈af n:=fk (e:=(r,p))<|Ab eG;refine aN 13 nd (aS cC<|aS cf<|ae 3<|aI cr<|aI dz<|ae 2<|ay ⟨_,_,rfl,rfl,⟨by decide,by decide⟩,bJ cZ T.len CZ<|ai<|ae 3<|au ⟨M,_,rfl,.inl<|al.of hs.rows.lst,?_⟩⟩);rw [Aa,bB];obtain⟨j,ej,hj⟩:=vR (b / 17) h0;obtain⟨a',iZ,i0,vU,vT,_⟩:=hs.rows.at hj;refine⟨_,_,rfl,rfl,by omega,M,_,_,.ref a'.1,rfl,rfl,al.of hs.rows.lst,by rw [ej];exact i0,ay ⟨a'.1,_,_,.ref a'.2,rfl,rfl,aK.of vU,rfl,?_⟩⟩;show Run _ _ _ (e9 R M L a.2 κ b r p bad u9 b6 cm cq (some<|.ref a'.2) cv) H5;refine AK<|cM<|ai<|aS cf<|ae 6<|ae 7 ⟨a.2,_,_,.str (row n r)[p],rfl,rfl,al.of<|cQ hs,iW<|Ab eG,ai<|aS cf<|ae 6<|ae 7 ⟨a.2,_,_,.str (row n r)[p],rfl,rfl,al.of<|cQ hs,iW<|Ab eG,au ⟨Z2,λtq qh=>⟨tq,rfl,⟨_,aK.of aw⟩,?_⟩⟩⟩⟩;refine AO (xs:=[.str (row n r)[p],.str (row n r)[p]]) (λi σ H'=>∃ m qi,σ=e9 R M L a.2 κ b r p bad u9 b6 cm cq (some<|.ref a'.2) qi/\Ss H H' M L as m fr/\H' tq=some (.tup [.str (row n r)[p],.str (row n r)[p]])/\m.map (·.1)=n.map (·.1)/\(af m).Perm (List.replicate i (row n r)[p]++af n)) ⟨n,_,rfl,hs.same<|aJ qh _,aw,rfl,List.Perm.refl _⟩ ?_ ?_ ?_
  ·rintro i σ H' _ ⟨_,_,_,_,h,_⟩;exact aK.of h
  ·rintro i x σ H' hx ⟨m,qi,rfl,hs,hq,g7,lC⟩;have E4:m.length=n.length:=by rw [<- hs.rows.len,bB]
   have Wh:i < 2:=(Ac.mp hx).1;have hxz:x = .str (row n r)[p]:=by
    have:=Aq hx;simp only [Ai,Bt,FQ] at this;exact this.elim id id
   subst hxz;have mS:(af m).length<=34:=by
    have:=lC.length_eq;rw [Ae,Di] at this;omega
   obtain⟨a2,nG,_,kC,fE,Rv⟩:=hs.rows.at (i:=j) (by omega);rw [iZ] at nG;cases nG;have hrm:=gZ m j;refine bx 14 nd ?_;show Run _ _ _ (e9 R M L a.2 κ b r p bad u9 b6 cm cq (some<|.ref a'.2)<|some<|.str (row n r)[p]) H';refine eB (lI CP DX DY mQ<|ae 13 ⟨m8 fE,aI cr<|aI dz<|ae 2<|ay ⟨_,_,rfl,rfl,⟨by decide,by decide⟩,aI dZ<|bJ cZ T.len CZ<|ai<|ae 13<|au ⟨a'.2,_,rfl,.inl<|al.of fE,ay ⟨_,_,rfl,rfl,?_⟩⟩⟩⟩);rw [Aa];obtain⟨k,oG,jE⟩:=yG (b / 19) (row m j).length;refine⟨_,_,rfl,rfl,by omega,ae 14 ⟨a'.2,_,_,_,rfl,rfl,fE,by rw [oG];omega,by rw [oG,Aa];omega,by rw [Aa];exact cb (by omega),?_⟩⟩;rw [oG,Az,qS];have h2:=hs.ins (c:=(j,k)) (z:=(row n r)[p]) iZ (by show j < m.length;omega);refine aH ⟨_,_,rfl,h2,?_,by rw [kq];exact g7,(gs m (j,k) _<|by show j < m.length;omega).trans<|List.Perm.cons _ lC⟩;rw [aq<|bN hq fE λe=>nomatch e];exact hq
  rintro σ H' ⟨m,qi,rfl,h2,hq,g7,lC⟩;obtain⟨c1,c2⟩:=Ja N g7 lC Jg;exact aH ⟨_,_,_,_,_,_,_,_,rfl,h2,λ_=>⟨c1,.inr c2⟩,λh=>absurd (.inr ek) h⟩
 rintro σ H4 ⟨m,bs,u9,b6,cm,cq,cu,cv,rfl,hs,j1,j2⟩;have JC:JJ R M L a.2 κ b r p bad H as n fr (((((((κ=-1\/κ=0)\/κ=1)\/κ=2)\/κ=3)\/κ=4)\/κ=5)\/κ=12) (e9 R M L a.2 κ b r p bad u9 b6 cm cq cu cv) H4:=⟨m,bs,u9,b6,cm,cq,cu,cv,rfl,hs,j1,j2⟩;have gT:=dL.nd;rw [qf] at gT;simp only [Bn,Ai,not_or] at gT;have mq:∀ z,z=f0\/z=dE\/z=f2\/z=f3->aQ z=true/\z∉n.map (·.1)/\z∉af n:=λz hz=>by
  obtain⟨o1,o2⟩:=dL.ok z (by rw [qf];simp only [Ai];rcases hz with h | h | h | h <;> simp [h]);exact⟨Q9 o1,λk=>o2<|Aw _ k,λk=>o2<|Ap _ k⟩
 have vW:f0≠dE:=gT.1.1;have n03:f3≠f0:=λe=>gT.1.2.2.1 e.symm;have IB:f3≠dE:=λe=>gT.2.1.2.1 e.symm;obtain⟨m0,x0,y0⟩:=mq f0<|.inl rfl;obtain⟨m1,x1,y1⟩:=mq dE<|.inr<|.inl rfl;obtain⟨m2,x2,y2⟩:=mq f2<|.inr<|.inr<|.inl rfl;obtain⟨m3,x3,y3⟩:=mq f3<|.inr<|.inr<|.inr rfl;have vX:du n (r,p):=⟨fP,hp⟩;refine oU (λk H'=>aj H4 H'/\k=decide (κ=9\/κ=10\/κ=11)) (JD R M L a.2 κ b r p bad H fr<|DA n κ r p f0 dE) ?_ ?_ (λH' h=>?_) ?_
 ·refine bX KG (ae 1<|cM<|ai<|ay<|ai<|ay<|ai<|ay<|au ⟨(by show 3<=sizeLine;decide),λtq qh=>⟨tq,_,rfl,.inr<|aK.of aw,rfl,rfl,_,rfl,aJ qh _,?_⟩⟩);exact Rq ..
 ·rintro H5 ⟨s5,hk⟩;have hk:=BZ hk.symm;have hs:=(j6 hs j2<|by omega).same s5;refine AK (cM<|ai<|aS cf<|ae 8<|ay ⟨L,_,_,.str f0,rfl,rfl,al.of hs.dL,g0,ai<|aS cf<|ae 8<|ay ⟨L,_,_,.str dE,rfl,rfl,al.of hs.dL,g1,ai<|aS cf<|ae 8<|ay ⟨L,_,_,.str f0,rfl,rfl,al.of hs.dL,g0,ai<|aS cf<|ae 8<|ay ⟨L,_,_,.str dE,rfl,rfl,al.of hs.dL,g1,au ⟨(by show 4<=sizeLine;decide),λtq qh=>⟨tq,rfl,⟨_,aK.of aw⟩,?_⟩⟩⟩⟩⟩⟩);refine AO (xs:=[f0,dE,f0,dE].map V.str) (λi σ H'=>∃ qi,σ=e9 R M L a.2 κ b r p bad u9 b6 cm cq cu qi/\Ss H H' M L as (dX n (r,p)<|[f0,dE,f0,dE].take i) fr/\H' tq=some (.tup<|[f0,dE,f0,dE].map V.str)) ⟨_,rfl,hs.same<|aJ qh _,aw⟩ ?_ ?_ ?_
  ·rintro i σ H' _ ⟨_,_,_,h⟩;exact aK.of h
  ·rintro i x σ H' hx ⟨qi,rfl,hs,hq⟩;rw [Af,Av] at hx;obtain⟨z,hz,rfl⟩:=hx;have hi4:i < 4:=(Ac.mp hz).1;have ll:(dX n (r,p)<|[f0,dE,f0,dE].take i).length=n.length:=k77 ..;obtain⟨a2,nG,_,kC,fE,Rv⟩:=hs.rows.at (i:=r) (by omega);rw [ea] at nG;cases nG;have rl:(row (dX n (r,p)<|[f0,dE,f0,dE].take i) r).length=(row n r).length+([f0,dE,f0,dE].take i).length:=q0i (c:=(r,p)) fP Ru;have rl2:([f0,dE,f0,dE].take i).length<=4:=by rw [Be];exact Nat.min_le_right ..
   refine bx 14 nd ?_;show Run _ _ _ (e9 R M L a.2 κ b r p bad u9 b6 cm cq cu<|some<|.str z) H';refine eB (lI CP DX DY mQ<|ae 6 ⟨m8 fE,ae 7<|ae 14 ⟨a.2,_,(p:Int),_,rfl,rfl,fE,by omega,by rw [Az,Aa,rl];omega,by rw [Aa,rl];exact cb (by omega),?_⟩⟩);rw [Az,qS];have h2:=hs.ins (c:=(r,p)) (z:=z) ea (by show r < _;omega);refine aH ⟨_,rfl,?_,by rw [aq<|bN hq fE λe=>nomatch e];exact hq⟩;rw [By,hz];show Ss _ _ _ _ _ (dX n (r,p)<|_++[z]) _;rw [k5g];exact h2
  rintro σ H' ⟨qi,rfl,h2,hq⟩;exact aH ⟨_,_,_,_,_,_,_,_,rfl,h2,λh=>by omega,λh=>by omega,λ_=>rfl⟩
 ·obtain⟨s5,hk⟩:=h;have hk:=FP hk.symm;exact aH ⟨_,_,_,_,_,_,_,_,rfl,hs.same s5,λh=>j1 (by omega),λh=>(j2<|by omega).1,λh=>by omega⟩
 rintro σ H4 ⟨m,bs,u9,b6,cm,cq,cu,cv,rfl,hs,d1,d2,d3⟩;refine oU (λk H'=>aj H4 H'/\k=decide (κ=6\/κ=8\/κ=11)) (JD R M L a.2 κ b r p bad H fr<|DB n κ r p f0 dE) ?_ ?_ (λH' h=>?_) ?_
 ·refine bX KG (ae 1<|cM<|ai<|ay<|ai<|ay<|ai<|ay<|au ⟨(by show 3<=sizeLine;decide),λtq qh=>⟨tq,_,rfl,.inr<|aK.of aw,rfl,rfl,_,rfl,aJ qh _,?_⟩⟩);exact Rq ..
 ·rintro H5 ⟨s5,hk⟩;have hk:=BZ hk.symm;have hs:=hs.same s5;have bo:m=n\/m=bb n (r,p) f0 dE:=by
   by_cases k11:κ=11
   ·exact .inr<|d3<|by omega
   ·exact .inl<|d2<|by omega
  obtain⟨bg,bl,bt,bn,bz⟩:=Jc N vX vW m0 m1 y0 y1 bo;have rP:=hs.rows.len;refine aN 13 nd<|aS cf<|cO<|ai<|cM<|ai<|aS cf<|ae 8<|ay ⟨L,_,_,.str f2,rfl,rfl,al.of hs.dL,g2,ai<|cO<|au ⟨Z0,λl1 dh=>au ⟨Z2,λt1 jT=>?_⟩⟩⟩;have t1s:=aJ dh<|Ls [];have jT:(upd H5 l1<|Ls []) t1=none:=jT;have Rw:=aJ jT<|.tup [.str f2,.ref l1];have vY:(upd (upd H5 l1<|Ls []) t1<|.tup [.str f2,.ref l1]) l1=some (Ls []):=Rw _ _ aw;have pA:(upd (upd H5 l1<|Ls []) t1<|.tup [.str f2,.ref l1]) t1=some (.tup [.str f2,.ref l1]):=aw;have sA:=t1s.trans Rw;show Ea _ _ _ (upd (upd H5 l1<|Ls []) t1<|.tup [.str f2,.ref l1]) _;generalize upd (upd H5 l1<|Ls []) t1 (.tup [.str f2,.ref l1])=HA at vY pA sA;have Jh:=hs.same sA;refine ai<|cM<|ai<|aS cf<|ae 8<|ay ⟨L,_,_,.str f2,rfl,rfl,al.of Jh.dL,g2,ai<|cO<|ai<|aS cf<|ae 8<|ay ⟨L,_,_,.str f3,rfl,rfl,al.of Jh.dL,g3,ai<|aS cf<|ae 8<|ay ⟨L,_,_,.str f3,rfl,rfl,al.of Jh.dL,g3,au ⟨Z2,λl2 jf=>au ⟨Z2,λt2 fH=>?_⟩⟩⟩⟩⟩;have Ji:=aJ jf<|Ls [f3,f3];have fH:(upd HA l2<|Ls [f3,f3]) t2=none:=fH;have yK:=aJ fH<|.tup [.str f2,.ref l2];have fE:(upd (upd HA l2<|Ls [f3,f3]) t2<|.tup [.str f2,.ref l2]) l2=some (Ls [f3,f3]):=yK _ _ aw;have kC:(upd (upd HA l2<|Ls [f3,f3]) t2<|.tup [.str f2,.ref l2]) t2=some (.tup [.str f2,.ref l2]):=aw;have vY:=(Ji.trans yK) _ _ vY;have pA:=(Ji.trans yK) _ _ pA;have sB:=sA.trans<|Ji.trans yK;have Jj:=g8 sA jf;show Ea _ _ _ (upd (upd HA l2<|Ls [f3,f3]) t2<|.tup [.str f2,.ref l2]) _;generalize upd (upd HA l2<|Ls [f3,f3]) t2 (.tup [.str f2,.ref l2])=HB at vY pA fE kC sB;refine au ⟨Z2,λlq hlq=>aI cr<|aI dz<|ae 2<|ay ⟨_,_,rfl,rfl,⟨by decide,by decide⟩,ay ⟨_,_,rfl,rfl,(by show(0:Int) < 2;decide),?_⟩⟩⟩;have sq:=aJ hlq<|.lst [.ref t1,.ref t2];obtain⟨t,l,zs,e1,e2,e3,e4,e5⟩:∃ t l zs,dI [V.ref t1,V.ref t2] (b / 13 % 2)=some (.ref t)/\HB t=some (.tup [.str f2,.ref l])/\HB l=some (Ls zs)/\H5 l=none/\(zs=[]\/zs=[f3,f3]):=by
   obtain⟨j,ej,hj⟩:=vR (b / 13) (k:=2) (by decide);have ej:b / 13 % 2=(j:Int):=ej;rw [ej]
   match j,hj with
   | 0,_=>exact⟨t1,l1,[],rfl,pA,vY,dh,.inl rfl⟩
   | 1,_=>exact⟨t2,l2,[f3,f3],rfl,kC,fE,Jj,.inr rfl⟩
  refine⟨lq,_,_,.ref t,rfl,rfl,al.of aw,e1,?_⟩;have e2:=sq _ _ e2;have e3:=sq _ _ e3;have vZ:=(hs.same sB).same sq;show Run _ _ _ (e9 R M L a.2 κ b r p bad u9 b6 cm cq (some<|.ref t) cv) (upd HB lq<|.lst [.ref t1,.ref t2]);generalize upd HB lq (.lst [.ref t1,.ref t2])=HC at e2 e3 vZ;refine eB (lI CP DX DY mQ<|ae 3 ⟨m8 vZ.rows.lst,aI cr<|aI dz<|ae 2<|ay ⟨_,_,rfl,rfl,⟨by decide,by decide⟩,aI dZ<|bJ cZ T.len CZ<|ai<|ae 3<|au ⟨M,_,rfl,.inl<|al.of vZ.rows.lst,ay ⟨_,_,rfl,rfl,?_⟩⟩⟩⟩);rw [Aa,rP];obtain⟨j,ej,hj⟩:=yG (b / 7) m.length;refine⟨_,_,rfl,rfl,by omega,ae 13 ⟨M,_,_,_,rfl,rfl,vZ.rows.lst,by rw [ej];omega,by rw [ej,Aa,rP];omega,by rw [Aa,rP];exact cb (by omega),?_⟩⟩;rw [ej,Az];have h2:=vZ.cP kF yI hj e2 e3 (λhm=>by obtain⟨x,hx,e⟩:=Al.mp hm;exact hs.rows.fresh e4 hx e.symm) (bC hs.rows.lst e4).symm (g8 hs.sm e4) (bC hs.dL e4).symm;have zl:zs=[]\/∃ y,zs=[y,y]/\aQ y=true/\y∉af m:=e5.imp id λe=>⟨f3,e,m3,λk=>by
   rcases bz f3 k with h | h | h
   ·exact y3 h
   ·exact n03 h
   ·exact IB h⟩
  have Rx:f2∉m.map (·.1):=by rw [bn];exact x2
  have yL:=k91 bg (by omega) (by omega) (j:=j) m2 Rx zl;have nw:=q4c (j:=j) (by have:=bg.pos;omega) yL.twice Rx (λz hz=>by
   rcases zl with h | ⟨y,h,_,hy⟩
   ·rw [h] at hz;cases hz
   ·rw [h] at hz;have:z=y:=by
     simp only [Ai,Bt,FQ] at hz;exact hz.elim id id
    rw [this];exact hy)
  have lz:zs.length<=2:=by rcases e5 with h | h <;> rw [h] <;> simp
  have gb:gG (B4.cP m j (f2,zs))/\(B4.cP m j (f2,zs)).length<=19:=by
   have l1:=yA m j (f2,zs);have l2:=(yB m j (f2,zs)).length_eq;rw [Ae] at l2;have l3:(f2,zs).2.length<=2:=lz;exact⟨⟨by omega,by omega,λz hz=>by have:=(yL.nA z hz).2;omega,λz hz=>by have:=(yL.nC z hz).2;omega⟩,by omega⟩
  exact aH ⟨_,_,_,_,_,_,_,_,rfl,h2,λh=>by omega,λh=>by omega,λh=>gb,λh=>⟨gb.1,yL,nw⟩⟩
 ·obtain⟨s5,hk⟩:=h;have hk:=FP hk.symm;refine aH ⟨_,_,_,_,_,_,_,_,rfl,hs.same s5,d1,λh=>d3 (by omega),λh=>?_,λh=>by omega⟩;obtain⟨bg,bl,bt,bn,bz⟩:=Jc N vX vW m0 m1 y0 y1 (.inr<|d3<|by omega);exact⟨⟨by omega,by omega,λz hz=>by have:=(bg.nA z hz).2;omega,λz hz=>by have:=(bg.nC z hz).2;omega⟩,by omega⟩
 rintro σ H4 ⟨m,bs,u9,b6,cm,cq,cu,cv,rfl,hs,d1,d2,d3,d4⟩;have rP:=hs.rows.len;refine lF (κ=8\/κ=10) (¬(κ=8\/κ=10)) (JD R M L a.2 κ b r p bad H fr λm=>κ≠7->gG m/\yH n κ m) (λT hT=>?_) (λek=>?_) (λek=>?_) ?_
 ·refine iU<|oA<|bX dA<|ae 1<|ay ⟨rfl,_,rfl,?_⟩
  by_cases e8:κ=8
  ·rw [BW<|CG V.int e8];exact a9<|hT _ (λ_=> .inl e8) λh=>by cases h
  ·rw [BX λe=>e8<|V.int.inj e];refine bp<|qH<|bX dA<|ae 1<|ay ⟨rfl,_,rfl,hT _ (λh=> .inr<|V.int.inj<|BZ h) λh e=>?_⟩;exact FP h<|CG V.int<|e.resolve_left e8
 ·obtain⟨c1,c2⟩:=d3 ek;refine eB<|jn<|ae 3 ⟨M,rfl,⟨_,hs.rows.lst⟩,cM<|ai<|ae 5<|ai<|cO<|au ⟨Z0,λl1 dh=>au ⟨Z2,λt ht=>?_⟩⟩⟩;have h2:=hs.row kF yI (pt:=bad) (zs:=[]) (Ak _) dh ht;rw [<- rP,<- Aa (as:=bs) (f:=λa=>V.ref a.1),q7b] at h2;refine⟨_,((hs.same<|aJ dh _).same<|aJ ht _).rows.lst,by rw [Aa,rP];exact cb (by omega),aH ⟨_,_,_,_,_,_,_,_,rfl,h2,λ_=>?_⟩⟩;obtain⟨b1,b2⟩:=IT bad fz;have p1:=vO m (bs.map λa=>V.ref a.1).length (bad,[]);have p2:=yB m (bs.map λa=>V.ref a.1).length (bad,[]);have p3:=yA m (bs.map λa=>V.ref a.1).length (bad,[]);refine⟨⟨by omega,by rw [p2.length_eq];exact c1.2.1,λz hz=>?_,λz hz=>c1.2.2.2 z<|p2.mem_iff.mp hz⟩,.inl ⟨by omega,by omega,by omega,.inr<|Ri (p1.mem_iff.mpr Ad) b1⟩⟩
  rcases Ai.mp (p1.mem_iff.mp hz) with h | h
  ·rw [h];exact b2
  ·exact c1.2.2.1 z h
 ·refine aH ⟨_,_,_,_,_,_,_,_,rfl,hs,λh7=>?_⟩
  by_cases k9:κ=9
  ·have em:=d2 k9;obtain⟨bg,bl,bt,bn,bz⟩:=Jc N vX vW m0 m1 y0 y1<|.inr em;refine⟨⟨by omega,by omega,λz hz=>by have:=(bg.nA z hz).2;omega,λz hz=>by have:=(bg.nC z hz).2;omega⟩,.inr<|.inr ⟨k9,bg,?_,λss xB mem=>?_⟩⟩
   ·rw [em];exact q1s N.good N.IY vX vW y0 y1
   ·rw [em] at mem ⊢;exact q17 N.good.twice N.full N.pl vX vW y0 y1 xB mem
  ·by_cases k6:κ=6\/κ=11
   ·obtain⟨c1,c2,c3⟩:=d4 k6;exact⟨c1,.inr<|.inl ⟨k6,c2,c3⟩⟩
   ·obtain⟨c1,c2⟩:=d1 (by omega);exact⟨c1,.inl ⟨by omega,by omega,by omega,c2⟩⟩
 rintro σ H4 ⟨m,bs,u9,b6,cm,cq,cu,cv,rfl,hs,d1⟩;refine d9<|bX dA<|ae 1<|ay ⟨rfl,_,rfl,?_⟩
 by_cases k7:κ=7
 ·rw [BW<|CG V.int k7];refine a9<|bY<|cO<|au ⟨Z0,λe he=>q e [] [] _ (hs.sm.trans<|aJ he _) ⟨rfl,aw,λi a r h1=>by simp at h1,by simp⟩ ⟨by decide,by decide,(λz hz=>nomatch hz),λz hz=>nomatch hz⟩<|.inl ⟨by omega,by omega,by omega,.inr q19⟩⟩
 ·rw [BX λe=>k7<|V.int.inj e];obtain⟨c1,c2⟩:=d1 k7;exact bp<|aH<|bY<|ae 3<|q M bs m H4 hs.sm hs.rows c1 c2
theorem Ry{X:Cx}{H:Hp}{k:Nat}{a b:Addr}{c:Bool}(h:jo X H k (.ref a) (.ref b) c)(e:a=b->c=true):iA X H k (.ref a) (.ref b) c:=by
 by_cases q:a=b
 ·rw [e q];subst q;exact MH
 ·exact MI q h
theorem k8x{X:Cx}{H:Hp}{t u l k:Addr}{x y:Str}{ys zs:List Str}(h1:H t=some (.tup [.str x,.ref l]))(h2:H l=some (Ls ys))(h3:H u=some (.tup [.str y,.ref k]))(h4:H k=some (Ls zs)):jo X H 2 (.ref t) (.ref u) (decide ((x,ys)=(y,zs))):=by
 have q:=B5 (X:=X) (k:=1) (λj=>if j=0 then decide (x=y) else decide (ys=zs)) (aK.of (K:=X.K) h1) (aK.of (K:=X.K) h3) rfl λi v w hv hw=>by
  match i with
  | 0=>cases hv;cases hw;exact Od x y
  | 1=>
   cases hv;cases hw;refine Ry (Zv h2 h4) λe=>?_;subst e;rw [h2] at h4;have:=HO.lst.inj<|Option.some.inj h4;exact BW<|List.map_inj_right (λa b e=>V.str.inj e) |>.mp this
  | i+2=>simp at hv
 have e:(List.range [V.str x,V.ref l].length).all (λj=>if j=0 then decide (x=y) else decide (ys=zs))=decide ((x,ys)=(y,zs)):=by
  show((decide (x=y)) && (decide (ys=zs) && true))=_;rw [Bool.and_true,Cp,Bk,CN,CN,CN,Prod.mk.injEq]
 rw [e] at q;exact q
theorem all_rows(m n:Net)(h:m.length=n.length):(List.range m.length).all (λj=>decide (m[j]?=n[j]?))=decide (m=n):=by
 rw [Cp,Cq,CN]
 constructor
 ·intro q;refine De λj=>?_
  by_cases hj:j < m.length
  ·exact BZ<|q j<|Bu.mpr hj
  ·rw [Bw (by omega),Bw<|by omega]
 ·rintro rfl j _;exact BW rfl
theorem k60{X:Cx}{H:Hp}{R S:Addr}{as bs:List (Addr×Addr)}{m n:Net}(h:ah H R as m)(g:ah H S bs n):jo X H 3 (.ref R) (.ref S) (decide (m=n)):=by
 have la:=h.len;have lb:=g.len
 by_cases hl:m.length=n.length
 ·have q:=B2 (X:=X) (k:=2) (λj=>decide (m[j]?=n[j]?)) (al.of (K:=X.K) h.lst) (al.of (K:=X.K) g.lst) (by rw [Aa,Aa];omega) λj x y hx hy=>by
   rw [Af,Av] at hx hy;obtain⟨a,ea,rfl⟩:=hx;obtain⟨b,eb,rfl⟩:=hy;have hj:j < m.length:=by
    have:=(Ac.mp ea).1;omega
   have ra:j < n.length:=by omega
   obtain⟨q1,q2⟩:=h.tup j a m[j] ea<|Ab hj;obtain⟨q3,q4⟩:=g.tup j b n[j] eb<|Ab ra;have e:decide (m[j]?=n[j]?)=decide ((m[j].1,m[j].2)=(n[j].1,n[j].2)):=by
    rw [Ab hj,Ab ra,Cp,CN,CN];exact⟨λh=>Option.some.inj h,λh=>CG some h⟩
   rw [e];refine Ry (k8x q1 q2 q3 q4) λe=>?_;rw [e,q3] at q1;have e1:=HO.tup.inj<|Option.some.inj q1
   injection e1 with e2 e3
   injection e3 with e4 _
   have e2:=V.str.inj e2;have e4:=V.ref.inj e4;rw [e4,q2] at q4;have e5:=List.map_inj_right (λa b e=>V.str.inj e) |>.mp (HO.lst.inj<|Option.some.inj q4);exact BW<|by rw [e2,e5]
  rw [Aa,la,all_rows m n hl] at q;exact q
 ·rw [BX λe=>hl<|by rw [e]];exact ML (al.of h.lst) (al.of g.lst)<|by rw [Aa,Aa];omega
theorem cj.kK{n:Net}(N:cj n){ss:List Str}(nd:ss.Nodup)(hm:∀ z,z∈ss↔z∈af n):Flt n ss:=by
 have T:=N.good.twice;have h2:(af n).length=2 * ss.length:=by
  have:=xM (a:=ss) nd<|af n;have e:(af n).filter (λz=>ss.contains z)=af n:=List.filter_eq_self.mpr λz hz=>Ci.mpr<|(hm z).mpr hz;rw [e] at this;have e2:ss.map (λx=>(af n).count x)=ss.map λ_=>2:=Dr λx hx=>T x<|(hm x).mp hx;rw [e2,List.map_const',SJ] at this;omega
 unfold Flt;have:=YH T N.full N.pl;omega
theorem cj.word{n:Net}(N:cj n){x:Str}(h:Vd n x\/IE n/\x = "good"):x = "good":=by
 rcases h with (⟨h,_⟩ | ⟨_,h,_⟩ | ⟨_,_,⟨ss,nd,mem,h⟩,_⟩) | ⟨_,h⟩
 ·exact absurd N.good h
 ·exact absurd N.IY h
 ·exact absurd (N.kK nd mem) h
 ·exact h
noncomputable def due(n m:Net)(κ:Int):Str:=if m=n then "good" else if κ=9 then "NoPlane" else if κ=6\/κ=11 then "Broken" else "NoNet"
theorem yH.word{n m:Net}(N:cj n){κ:Int}(s:yH n κ m){x:Str}(h:Vd m x\/IE m/\x = "good"):x=due n m κ:=by
 unfold due
 rcases s with ⟨k1,k2,k3,s⟩ | ⟨k1,g,s⟩ | ⟨k1,g,hw,s⟩
 ·by_cases e:m=n
  ·rw [BR e];subst e;exact N.word h
  ·have s:=s.resolve_left e;rw [BK e,BK k2,BK<|by omega]
   rcases h with (⟨_,h⟩ | ⟨g,_,_⟩ | ⟨g,_⟩) | ⟨⟨g,_⟩,_⟩
   ·exact h
   ·exact absurd g s
   ·exact absurd g s
   ·exact absurd g s
 ·have e:m≠n:=λe=>s<|e ▸ N.IY;rw [BK e,BK (by omega),BR k1]
  rcases h with (⟨h,_⟩ | ⟨_,_,h⟩ | ⟨_,h,_⟩) | ⟨⟨_,h,_⟩,_⟩
  ·exact absurd g h
  ·exact h
  ·exact absurd h s
  ·exact absurd h s
 ·have e:m≠n:=λe=>by
   subst e;exact s (made<|af m) (yr _) (λz=>wI _ z)<|N.kK (yr _) λz=>wI _ z
  rw [BK e,BR k1]
  rcases h with (⟨h,_⟩ | ⟨_,h,_⟩ | ⟨_,_,_,h⟩) | ⟨⟨_,_,ss,nd,mem,h⟩,_⟩
  ·exact absurd g h
  ·exact absurd hw h
  ·exact h
  ·exact absurd h<|s ss nd mem
def yM(K:PySem.W.Frag):Sp:=λvs H Q _=>∃(a:Addr) (ns:List Int),vs=[.ref a]/\al K H a (ns.map V.int)/\ns.length<=63/\∀ H',Q (.bl true) H'
abbrev NLw:List Str:=["_law_script","_law_big_here","_law_rows","_law_fault","_law_kind","_law_made","_law_due","_law_handed"]
theorem nH:ao NLw ["_law_script"] (aW o6):=⟨rfl,rfl,rfl,by decide +kernel,rfl,by decide +kernel,by decide +kernel⟩
theorem q6g{f:Addr}{fd:FuncData}(F:bM K "law" "law" o6 f fd)(T:Txt mg)(GC:aV P w K mg base 7 "_law_cell_at" ["_law_script","_law_k"]<|xj K)(GB:aV P w K mg base 7 "_law_big" ["_law_script","_law_at"]<|C8 K)(GN:aV P w K mg base 7 "_law_net_by" ["_law_big_here","_law_most","_law_stem"] E6)(GY:aV P w K mg base 7 "_law_copy" ["_law_rows"] xR)
  (GS:aV P w K mg base 7 "_law_spoilt" ["_law_rows","_law_kind","_law_big_here"] Jd) (GW:aV P w K mg base 7 "_law_word" ["_law_rows"] IG):aD P w K mg base bP 8 f fd ["_law_script"] (yM K):=by
 refine F.gb nH (λvs H Q E h=>?_) λb0 H vs Q E hr h=>?_
 ·obtain⟨a,ns,rfl,_⟩:=h;rfl
 obtain⟨a,ns,rfl,hS,h63,q⟩:=h;have nd:=nH.nd;have un:=hr.gg;show Run _ _ _ [some<|.ref a,none,none,none,none,none,none,none] H;refine aN 1 nd (bZ GB hr<|ai<|ae 0<|ai<|ay<|au ⟨a,ns,0,rfl,hS,by decide,λb H1 s1=>?_⟩);refine aN 2 nd (bZ GN hr<|ai<|aI dz<|ae 1<|ay ⟨_,_,rfl,rfl,⟨by decide,by decide⟩,?_⟩);refine ai (ay<|ai<|aI dZ<|aI cr<|ae 1<|ay ⟨_,_,rfl,rfl,(by show(0:Int) < 97;decide),bZ GC hr<|ai<|ae 0<|ai<|ay<|au ⟨a,ns,9,rfl,s1.seq hS,by decide,λc9=>⟨_,_,rfl,rfl,?_⟩⟩⟩);refine au ⟨_,16,_,rfl,by decide,by decide,λR as n H2 s2 n2 hR hT hN hF RA ni Hq has g7=>?_⟩;have e16:((16:Int)).toNat=16:=rfl;rw [e16] at ni Hq;have h0:0 < n.length:=Ck.mpr hF.some;have RC:∀ x:Str,(∃ b v,x=az b v)->aQ x=true/\x.length<=8:=λx ⟨b,v,e⟩=>by
  have:=Q8 b v;rw [<- e] at this;exact⟨this,kH this⟩
 have N:cj n:=⟨⟨hT,hN,h0,by omega,by omega,λx hx=>RC x<|g7.2 x hx,λz hz=>RC z<|g7.1 z hz⟩,q4f hT RA.1 h0 λe z h=>Rt.step h<|fk h,hF,RA.2.1,by omega,by omega⟩;show Run _ _ _ [some<|.ref a,some<|.int b,some<|.ref R,none,none,none,none,none] H2;refine aN 3 nd (bZ GB hr<|ai<|ae 0<|ai<|ay<|au ⟨a,ns,10,rfl,s2.seq<|s1.seq hS,by decide,λg H3 s3=>?_⟩);have lT:=hR.same s3;refine aN 4 nd (aI cr<|ae 3<|ay ⟨_,_,rfl,rfl,(by show(0:Int) < 13;decide),?_⟩);have k0:0<=g % 13:=Bi _ (by decide);have k1:g % 13 < 13:=Bo _ (by decide);show Run _ _ _ [some<|.ref a,some<|.int b,some<|.ref R,some<|.int g,some<|.int<|g % 13,none,none,none] H3;generalize g % 13=κ at k0 k1;refine aN 5 nd (bZ GS hr<|ai<|ae 2<|ai<|ae 4<|ai<|aI dz<|ae 3<|ay ⟨_,_,rfl,rfl,⟨by decide,by decide⟩,au ⟨R,as,n,κ,_,rfl,lT,N,k0,k1,λM bs m H4 s4 hM hb sp=>?_⟩⟩);have kA:=lT.same s4;show Run _ _ _ [some<|.ref a,some<|.int b,some<|.ref R,some<|.int g,some<|.int κ,some<|.ref M,none,none] H4;refine aN 6 nd<|cN ?_;refine lF (κ=6\/κ=11) (¬(κ=6\/κ=11)) (λσ H'=>H'=H4/\σ=[some<|.ref a,some<|.int b,some<|.ref R,some<|.int g,some<|.int κ,some<|.ref M,some<|.str (if κ=6\/κ=11 then "Broken" else "NoNet"),none]) (λT hT=>?_) (λek=>?_) (λek=>?_) ?_
 ·refine iU<|oA<|bX dA<|ae 4<|ay ⟨rfl,_,rfl,?_⟩
  by_cases e8:κ=6
  ·rw [BW<|CG V.int e8];exact a9<|hT _ (λ_=> .inl e8) λh=>by cases h
  ·rw [BX λe=>e8<|V.int.inj e];refine bp<|qH<|bX dA<|ae 4<|ay ⟨rfl,_,rfl,hT _ (λh=> .inr<|V.int.inj<|BZ h) λh e=>?_⟩;exact FP h<|CG V.int<|e.resolve_left e8
 ·refine aN 6 nd<|cN<|aH ⟨rfl,?_⟩;rw [BR ek];rfl
 ·refine aH ⟨rfl,?_⟩;rw [BK ek];rfl
 rintro σ H' ⟨rfl,rfl⟩;refine lF (κ=9) (κ≠9) (λσ H5=>H5=H'/\σ=[some<|.ref a,some<|.int b,some<|.ref R,some<|.int g,some<|.int κ,some<|.ref M,some<|.str (if κ=9 then "NoPlane" else if κ=6\/κ=11 then "Broken" else "NoNet"),none]) (λT hT=>bX dA<|ae 4<|ay ⟨rfl,_,rfl,hT _ (λh=>V.int.inj<|BZ h) λh e=>FP h<|CG V.int e⟩) (λek=>?_) (λek=>?_) ?_
 ·refine aN 6 nd<|cN<|aH ⟨rfl,?_⟩;rw [BR ek];rfl
 ·refine aH ⟨rfl,?_⟩;rw [BK ek]
 rintro σ H5 ⟨rfl,rfl⟩;refine lF (m=n) (m≠n) (λσ H6=>H6=H5/\σ=[some<|.ref a,some<|.int b,some<|.ref R,some<|.int g,some<|.int κ,some<|.ref M,some<|.str<|due n m κ,none]) (λT hT=>bX (MM un)<|ae 5<|ae 2 ⟨3,_,by decide,k60 hM kA,_,rfl,hT _ (λh=>BZ h) λh=>FP h⟩) (λek=>?_) (λek=>?_) ?_
 ·refine aN 6 nd<|cN<|aH ⟨rfl,?_⟩;unfold due;rw [BR ek];rfl
 ·refine aH ⟨rfl,?_⟩;unfold due;rw [BK ek]
 rintro σ H6 ⟨rfl,rfl⟩;obtain⟨b1,b2,b3,b4⟩:=hb;obtain⟨c1,c2,c3,c4⟩:=N.nE;refine aN 7 nd (bZ GY hr<|ai<|ae 5<|au ⟨M,bs,m,rfl,hM,by omega,λW cs H7 s7 n7 f7 hW=>?_⟩);have hM7:=hM.same s7;have m6:=kA.same s7;show Run _ _ _ [some<|.ref a,some<|.int b,some<|.ref R,some<|.int g,some<|.int κ,some<|.ref M,some<|.str<|due n m κ,some<|.ref W] H7;refine d9 (iU<|oA<|bX zp<|bZ GW hr<|ai<|bZ GY hr<|ai<|ae 2<|au ⟨R,as,n,rfl,m6,by omega,λU ds H8 s8 n8 f8 hU=>au ⟨U,ds,n,rfl,hU,by omega,by omega,c3,c4,λx H9 s9 hx=>cN ⟨rfl,_,rfl,?_⟩⟩⟩);obtain rfl:=N.word hx;have RE:=s8.trans s9;rw [BW rfl];refine bp (oA<|bX zp<|bZ GW hr<|ai<|ae 7<|au ⟨W,cs,m,rfl,hW.same RE,by omega,by omega,b3,b4,λy HA sA hy=>ae 6 ⟨rfl,_,rfl,?_⟩⟩);have hy:=sp.word N hy;have sA:=RE.trans sA;rw [hy,BW rfl];refine bp (qH<|bX (lH un)<|ae 7<|ae 5 ⟨3,true,by decide,Zt (hW.same sA)<|hM7.same sA,_,rfl,bp<|aH ?_⟩);refine bY (mE dA<|bZ GW hr<|ai<|bZ GY hr<|ai<|ae 2<|au ⟨R,as,n,rfl,m6.same sA,by omega,λU2 es HB sB nB fB hU2=>au ⟨U2,es,n,rfl,hU2,by omega,by omega,c3,c4,λx HC sC hx=>cN ⟨rfl,?_⟩⟩⟩);rw [N.word hx,BW rfl];exact q _
end
end B4
namespace B4
open PySem L2 Nt
theorem all_mk{l:PySem.W.OpenLaw}{w:World}{K:PySem.W.Frag}{h:Heap}{mg:Str->Option Value}{fa:Addr}(X:K.In h)(G:h.Ns mainGlobals mg)(A9:mg "law" = some (.ref fa))
  (h1:Df K "ends_round" w5) (h2:Df K "ends_in_order" w6) (h3:Df K "turned_left" CA) (h4:Df K "other_ends" CB) (h5:Df K "left_steps" w8) (h6:Df K "faces_of" CD) (h7:Df K "face_from" CF) (h8:Df K "is_name" w9) (h9:Df K "vet" CH) (Jk:Df K "has_good_points" mU) (Jl:Df K "has_good_ties" tQ) (Jm:Df K "hangs_together" xa) (yn:Df K "is_plane" CI) (Jn:Df K "points_of" xc) (Jo:Df K "ties_of" xf) (Jp:Df K "links_of" CL) (Jq:Df K "spread" CM) (Jr:Df K "_law_cell_at" CO) (Js:Df K "_law_big" oX) (Jt:Df K "_law_names" CU) (Ju:Df K "_law_seats" CY) (Jv:Df K "_law_other" C0) (vp:Df K "_law_step" C1) (Jw:Df K "_law_face" C2) (Jx:Df K "_law_put" oY) (Jy:Df K "_law_net_by" oZ) (Jz:Df K "_law_copy" xg) (JA:Df K "_law_unlike" xh) (JE:Df K "_law_spoilt" C3) (JI:Df K "_law_word" C4) (hl:Df K "law" o6)
  {tk1 DV:Tok} (s1:PySem.W.nsIn K mainGlobals "SIGNS" = some (some<|.str lets tk1)) (s2:PySem.W.nsIn K mainGlobals "LONGEST" = some (some<|.int 8 DV))
  (qc:Ih K=true)
  (z:∀ x∈(["isinstance","tuple","str","int","bool","list","dict","set","enumerate","zip","len","range","sorted","max","all","ValueError"]:List Str),PySem.W.nsIn K mainGlobals x=some none) :
  ∃ fd:FuncData,(∀(s:Shared) (v:Value),BindsTo s fd ⟨[v],[]⟩ [("_law_script",v)])/\∀ base:Heap,K.In base->base.Ns mainGlobals mg->aD l.prog w K mg base bP 8 fa fd ["_law_script"] (yM K):=by
 have T:Txt mg:=⟨CT X G (z _<|by simp),CT X G (z _<|by simp),CT X G (z _<|by simp),CT X G (z _<|by simp),CT X G (z _<|by simp),CT X G (z _<|by simp),CT X G (z _<|by simp),CT X G (z _<|by simp),CT X G (z _<|by simp),CT X G (z _<|by simp),CT X G (z _<|by simp),CT X G (z _<|by simp),CT X G (z _<|by simp),CT X G (z _<|by simp),CT X G (z _<|by simp),CT X G (z _<|by simp),⟨_,IW X G s1,_,rfl⟩,⟨_,IW X G s2,_,rfl⟩⟩;have cl:=q8m X G qc;refine hl.law X G A9 (λ_ _ _ _ _ _ s v=> .of_eq rfl) λbase f fd F=>?_;have G1:aV l.prog w K mg base 1 "ends_round" ["row"] xU:=h1.has X G (λ_ _ _ _ _ _=>gj λ_=>rfl) λF=>q4h F T;have G2:aV l.prog w K mg base 2 "ends_in_order" ["rows"] FY:=h2.has X G (λ_ _ _ _ _ _=>gj λ_=>rfl) λF=>k9x F T (G1.mono<|by decide);have G3:aV l.prog w K mg base 1 "turned_left" ["end","many"] (pJ λj=>j+1):=h3.has X G (λ_ _ _ _ _ _=>oI λ_ _=>rfl) λF=>q14 F T;have G4:aV l.prog w K mg base 2 "other_ends" ["rows"] pK:=h4.has X G (λ_ _ _ _ _ _=>gj λ_=>rfl) λF=>q8q F T (G1.mono<|by decide);have G5:aV l.prog w K mg base 3 "left_steps" ["rows"] (pP 1):=h5.has X G (λ_ _ _ _ _ _=>gj λ_=>rfl) λF=>q8f F T (G4.mono<|by decide) (G3.mono<|by decide);have G7:aV l.prog w K mg base 1 "face_from" ["steps","first"] pU:=h7.has X G (λ_ _ _ _ _ _=>oI λ_ _=>rfl) λF=>q70 F T;have G6:aV l.prog w K mg base 4 "faces_of" ["rows"] Hi:=h6.has X G (λ_ _ _ _ _ _=>gj λ_=>rfl) λF=>k8q F T (G2.mono<|by decide) (G5.mono<|by decide) (G7.mono<|by decide);have G8:aV l.prog w K mg base 1 "is_name" ["thing"] (mh K):=h8.has X G (λ_ _ _ _ _ _=>gj λ_=>rfl) λF=>q7u F T;have G14:aV l.prog w K mg base 1 "points_of" ["rows"] Ie:=Jn.has X G (λ_ _ _ _ _ _=>gj λ_=>rfl) λF=>k55 F T;have G15:aV l.prog w K mg base 1 "ties_of" ["rows"] p7:=Jo.has X G (λ_ _ _ _ _ _=>gj λ_=>rfl) λF=>q3a F T;have G16:aV l.prog w K mg base 1 "links_of" ["rows"] Hw:=Jp.has X G (λ_ _ _ _ _ _=>gj λ_=>rfl) λF=>k8f F T;have G17:aV l.prog w K mg base 1 "spread" ["first","links"] Hz:=Jq.has X G (λ_ _ _ _ _ _=>oI λ_ _=>rfl) λF=>k4t F T;have G12:aV l.prog w K mg base 2 "hangs_together" ["rows"] p8:=Jm.has X G (λ_ _ _ _ _ _=>gj λ_=>rfl) λF=>q8s F T (G16.mono<|by decide) (G17.mono<|by decide);have G10:aV l.prog w K mg base 2 "has_good_points" ["rows"] Iu:=Jk.has X G (λ_ _ _ _ _ _=>gj λ_=>rfl) λF=>q5v F T (G14.mono<|by decide) (G8.mono<|by decide);have G11:aV l.prog w K mg base 2 "has_good_ties" ["rows"] Ir:=Jl.has X G (λ_ _ _ _ _ _=>gj λ_=>rfl) λF=>q57 F T (G8.mono<|by decide);have G13:aV l.prog w K mg base 5 "is_plane" ["rows"] Ii:=yn.has X G (λ_ _ _ _ _ _=>gj λ_=>rfl) λF=>k8b F T (G15.mono<|by decide) (G6.mono<|by decide);have G9:gD l.prog w K mg base 6 "vet" ["rows"] (Iv<|jx K):=h9.HP X G (λ_ _ _ _ _ _=>gj λ_=>rfl) λF=>q4n F T cl (G10.mono<|by decide) (G11.mono<|by decide) (G12.mono<|by decide) (G13.mono<|by decide);have RF:aV l.prog w K mg base 1 "_law_cell_at" ["_law_script","_law_k"] (xj K):=Jr.has X G (λ_ _ _ _ _ _=>oI λ_ _=>rfl) λF=>W6 F T;have G19:aV l.prog w K mg base 2 "_law_big" ["_law_script","_law_at"] (C8 K):=Js.has X G (λ_ _ _ _ _ _=>oI λ_ _=>rfl) λF=>W9 F T (RF.mono<|by decide);have RH:aV l.prog w K mg base 1 "_law_names" ["_law_stem","_law_many"] xk:=Jt.has X G (λ_ _ _ _ _ _=>oI λ_ _=>rfl) λF=>Xb F T;have G21:aV l.prog w K mg base 1 "_law_seats" ["_law_rows"] C9:=Ju.has X G (λ_ _ _ _ _ _=>gj λ_=>rfl) λF=>Xd F T;have G22:aV l.prog w K mg base 1 "_law_other" ["_law_rows","_law_seats_here","_law_end"] Dt:=Jv.has X G (λ_ _ _ _ _ _=>wF λ_ _ _=>rfl) λF=>Xe F T;have G23:aV l.prog w K mg base 2 "_law_step" ["_law_rows","_law_seats_here","_law_end","_law_turn"] DC:=vp.has X G (λ_ _ _ _ _ _=>LL λ_ _ _ _=>rfl) λF=>Xf F T (G22.mono<|by decide);have G24:aV l.prog w K mg base 3 "_law_face" ["_law_rows","_law_seats_here","_law_end"] DE:=Jw.has X G (λ_ _ _ _ _ _=>wF λ_ _ _=>rfl) λF=>Xh F T (G23.mono<|by decide);have G25:aV l.prog w K mg base 4 "_law_put" ["_law_rows","_law_big_here","_law_tie","_law_point"] EI:=Jx.has X G (λ_ _ _ _ _ _=>LL λ_ _ _ _=>rfl) λF=>ZE F T (G21.mono<|by decide) (G24.mono<|by decide);have G26:aV l.prog w K mg base 5 "_law_net_by" ["_law_big_here","_law_most","_law_stem"] E6:=Jy.has X G (λ_ _ _ _ _ _=>wF λ_ _ _=>rfl) λF=>ZV F T (RH.mono<|by decide) (G25.mono<|by decide);have RO:aV l.prog w K mg base 1 "_law_copy" ["_law_rows"] xR:=Jz.has X G (λ_ _ _ _ _ _=>gj λ_=>rfl) λF=>q26 F T;have G28:aV l.prog w K mg base 5 "_law_unlike" ["_law_made","_law_big_here"] IL:=JA.has X G (λ_ _ _ _ _ _=>oI λ_ _=>rfl) λF=>q5f F T (RH.mono<|by decide);have G29:aV l.prog w K mg base 6 "_law_spoilt" ["_law_rows","_law_kind","_law_big_here"] Jd:=JE.has X G (λ_ _ _ _ _ _=>wF λ_ _ _=>rfl) λF=>q46 F T (RO.mono<|by decide) (G28.mono<|by decide);have G30:aV l.prog w K mg base 7 "_law_word" ["_law_rows"] IG:=JI.has X G (λ_ _ _ _ _ _=>gj λ_=>rfl) λF=>q3w F T cl (G9.mono<|by decide);exact q6g F T (RF.mono<|by decide) (G19.mono<|by decide) (G26.mono<|by decide) (RO.mono<|by decide) (G29.mono<|by decide)<|G30.mono<|by decide
theorem walk{l:PySem.W.OpenLaw}{q:Program}{loose:List Str}{XP:(Str->Option Value)->Heap->Prop}{YP:World->Heap->Prop}{d:DefRec}{K:Params->PySem.W.Frag}(hn:l.most=some 63)(sO:d.params.defaults=[])
  (hY:∀(w:World) (h:Heap),YP w h->(K w.params).In h)
  (F : ∀ (w : World) (mg : Str → Option Value) (fa : Addr) (h : Heap), (K w.params).In h → h.Ns mainGlobals mg → mg d.name = some (.ref fa) →
   ∃ fd:FuncData,(∀(s:Shared) (u:Value),BindsTo s fd ⟨[u],[]⟩ [("_law_script",u)])/\∀ base:Heap,(K w.params).In base->base.Ns mainGlobals mg->aD l.prog w (K w.params) mg base bP 8 fa fd ["_law_script"] (yM<|K w.params)) :
  PySem.W.WalkO q loose XP YP l.row.toRowW d [] (λf vs=>PySem.call f vs):=
 L2.kX (n:=63) (k:=8) (x:= "_law_script") (CX:=λ_=>bP) (sp:=λw=>yM<|K w.params) hn (by decide) sO ⟨rfl,by decide,by decide⟩ hY F (λ_ _ a ns hl _ hS=>⟨a,ns,rfl,hS,hl,λ_=>rfl⟩) λ_ _ _ _ _ z=>z
end B4
-- see NOTE.md
namespace PySem.W.Fast
def tw7322063665315917222:=()
def tw10424908854484113886:=()
def tw5803801000446956991:=()
def tw5121671591018326914:=()
def tw16740803397345863472:=()
def tw8744679223579342146:=()
def tw3539296176371273116:=()
def tw14764070149814862337:=()
def tw15527420431688689674:=()
def tw9615393935080403963:=()
def tw16322530543976576413:=()
def tw4924757444872142009:=()
def tw18116257945308349811:=()
def tw10457861900088331120:=()
def tw11100536566138657951:=()
def tw15200446738779294252:=()
def tw17069846032854999475:=()
def tw10095953023822834731:=()
def tw15392560989725513384:=()
def tw17829702909990051105:=()
def tw17687948578839626320:=()
def tw5132551196637708683:=()
def tw17738456289209282879:=()
def tw10821455521310706104:=()
def tw13723606524398520043:=()
def tw3446707129385255244:=()
def tw17411648960474718055:=()
def tw16062242837072191540:=()
def tw1316848729229960551:=()
def tw15770183754426051146:=()
def tw4837388289313335593:=()
def tw9149399812470033637:=()
def tw17688098807804382635:=()
def tw12638456932210977715:=()
def tw5178658777659330500:=()
def tw3594891637155326122:=()
def tw11487958008867726134:=()
def tw14235939392594242843:=()
def tw5772905735188932624:=()
def tw15789271734701344497:=()
def tw7274989500654881244:=()
def tw1193718087623347708:=()
def tw14238635333261196885:=()
def tw10150244112399440575:=()
def tw8068230404167404338:=()
def tw8249404966040044920:=()
def tw3079669846298459446:=()
def tw10615420328264113054:=()
def tw7230050547072681122:=()
def tw8938520110228110620:=()
def tw18246573605539350006:=()
def tw10028246829396764865:=()
def tw16898603012294134540:=()
def tw3708887656898235568:=()
def tw6742348188881972301:=()
def tw1364321122139898800:=()
def tw9618828421538314001:=()
def tw5184448905960113262:=()
def tw1328743157808054415:=()
def tw2285701055020993678:=()
def tw2448087554776868619:=()
def tw4955626109333374215:=()
def tw14962278916311966050:=()
def tw13798215725492129701:=()
def tw10426416500084608912:=()
def tw353412064465833887:=()
def tw3076139839213696099:=()
def tw18237823003665225504:=()
def tw10506940712722497652:=()
def tw1888578968699003868:=()
def tw936017318510692512:=()
def tw2194029782669145660:=()
def tw2093524519335921768:=()
def tw6544044035915082557:=()
def tw3064393481168692055:=()
def tw10720124271196930824:=()
def tw2450684925056993992:=()
def tw17844502896831776648:=()
def tw245121052230737889:=()
def tw12216396943009673991:=()
def tw15392695977477161452:=()
def tw3786871265344059996:=()
def tw9017400261222553356:=()
def tw10348899403338713682:=()
def tw8468600540222445023:=()
def tw4839175313686581475:=()
def tw2149453621772617797:=()
def tw16226484882142516836:=()
def tw13552808483210041968:=()
def tw1226855152680094715:=()
def tw15519723259416660238:=()
def tw6917550604087149869:=()
def tw14402795980666822125:=()
def tw14039918747047897993:=()
def tw535956677712180466:=()
def tw4912357513829226902:=()
def tw1354845687739461556:=()
def tw3554984372034899886:=()
def tw16674171700713859419:=()
def tw4294531634509096725:=()
def tw5074865408735665925:=()
def tw798190011382684247:=()
def tw17315033465518769794:=()
def tw16324922356056981357:=()
def tw7378591790715259798:=()
def tw437324891055330395:=()
def tw9228952468748306486:=()
def tw2687124344662329842:=()
def tw4538693155102390598:=()
def tw8372627445891334639:=()
def tw6322258390234504008:=()
def tw7765178400183854582:=()
def tw6222181898554434293:=()
def tw7044449803460409821:=()
def tw1324920323047890862:=()
def tw15437935152573780603:=()
def tw13277356434158722491:=()
def tw4525950234899564355:=()
def tw10629406174991596542:=()
def tw11545652241678153069:=()
def tw4249270762320896999:=()
def tw10171755528417159432:=()
def tw6055412923719926231:=()
def tw2137319611881646362:=()
def tw5472397569125533016:=()
def tw10251204881127089672:=()
def tw3693288243995366285:=()
def tw7961035429263631432:=()
def tw5494330000078161546:=()
def tw8909718157968678895:=()
def tw15155172587268629819:=()
def tw4493682327199158447:=()
def tw15189584532102920936:=()
def tw10904979281922399252:=()
def tw6262343812108503047:=()
def tw4272179972068940361:=()
def tw10502347517641544102:=()
def tw4825584785874374419:=()
def tw13965091215213642548:=()
def tw7637797363576681122:=()
def tw385251681996879825:=()
def tw14051240747746076123:=()
def tw6076733971983423159:=()
def tw13922590495755500559:=()
def tw13104796149239153278:=()
def tw17876644823610904660:=()
def tw11372221834316345832:=()
def tw15274342420239994122:=()
def tw12473562662536663798:=()
def tw17776842270770576523:=()
def tw11472291348232345:=()
def tw10230412741219785290:=()
def tw7626700555905172610:=()
def tw4536399030109704322:=()
def tw2881918402585979010:=()
def tw18090331884228430049:=()
def tw7590762570192263644:=()
def tw13937957506057062465:=()
def tw14056372143045295254:=()
def tw18061820145874146411:=()
def tw17091425970836011813:=()
def tw11620907083410746052:=()
def tw15900655556079575331:=()
def tw17228517035342649745:=()
end PySem.W.Fast
open PySem PySem.W PyProof.Rows
set_option maxRecDepth 100000 in
set_option maxHeartbeats 0 in
theorem PySem.Challenge.cw_threewebs_k04_rows_vetted_holds : PySem.Challenge.rw_threewebs_k04_rows_vetted.Holds := by
 w_on;o_law;k_head;(case hw=>w_witness2)
 k_fill
 refine B4.walk (l:=PySem.Challenge.rw_threewebs_k04_rows_vetted) rfl rfl (λw h Y=>PySem.W.kIn_of Y) ?F
 case F=>
  intro w mg fa h KX G sP;refine' B4.all_mk KX G sP ?h1 ?h2 ?h3 ?h4 ?h5 ?h6 ?h7 ?h8 ?h9 ?Jk ?Jl ?Jm ?yn ?Jn ?Jo ?Jp ?Jq ?Jr ?Js ?Jt ?Ju ?Jv ?vp ?Jw ?Jx ?Jy ?Jz ?JA ?JE ?JI ?h0 ?s1 ?s2 ?qc ?zz
  case h1 | h2 | h3 | h4 | h5 | h6 | h7 | h8 | h9 | Jk | Jl | Jm | yn | Jn | Jo | Jp | Jq | Jr | Js | Jt | Ju | Jv | vp | Jw | Jx | Jy | Jz | JA | JE | JI | h0=>refine' L2.tf ?a ?l ?c ?k;(case a=>k_is);(case l=>k_is);(case c=>k_is);(case k=>k_is)
  case s1=>k_is
  case s2=>k_is
  case qc=>kernel_rfl
  case zz=>
   refine' List.forall_mem_cons.mpr ⟨?_,?_⟩;k_is
   iterate 15 (refine' List.forall_mem_cons.mpr ⟨?_,?_⟩;k_is)
   exact λx hx=>nomatch hx

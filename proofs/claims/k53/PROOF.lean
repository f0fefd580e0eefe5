import PyProof.Rows.All
import Wide.All
import OpenK.AllK
import Wide.FinOn
import Lean
import PyProof.EqAt
import PyProof.EqKinds
import PyProof.TupleCall
import KE.KDictLaws
import KE.KDictList
import KE.KDictSum
import KE.KIsAll
import KE.KSortTup
import KE.KUnpack
import KE.KUnpackStar
import PyProof.AttrMissSeq
import PyProof.CallStr
import PyProof.Conv_int_bool
import PyProof.DictItems
import PyProof.DictIter
import PyProof.DictList
import PyProof.EnumFor
import PyProof.EnumMake
import PyProof.EnumStmt
import PyProof.ExcArgsOwn
import PyProof.ExcAttrAll.ValueError
import PyProof.ExcBaseAll.ValueError
import PyProof.NeKinds
import PyProof.NsDelKeeps
import PyProof.Rows.CatchOwn
import PyProof.Rows.CountFlat
import PyProof.Rows.EnumRows
import PyProof.Rows.FStr
import PyProof.Rows.SeqMore
import PyProof.Rows.SortRev
import PyProof.Rows.StrSplitJoin
import PyProof.Rows.StrWeight2
import PyProof.Rows.TupDisplay
import PyProof.RulesTry
import PyProof.SetNew
import PyProof.SetRoads
import PyProof.StationsW
import PyProof.TupleKey
import PyProof.WalkInts
import PyProof.ZipIter
import PySem.Challenge.RW_threewebs_k53_whole_kinds_by_walkers
abbrev BJ:=@PySem.wpAny_bind
abbrev BK:=@if_neg
abbrev BL:=@PySem.wpAny_pure
abbrev BP:=@if_pos
abbrev BR:=@decide_eq_false
abbrev BW:=@decide_eq_true
abbrev BX:=@of_decide_eq_true
abbrev BZ:=@congrArg
abbrev CG:=@PySem.wpAny_holding
abbrev CJ:=@decide_eq_true_iff
abbrev CK:=@Ne.symm
abbrev CN:=@PySem.wpAny_setState_of
abbrev CP:=@PySem.W.mg_none_of
abbrev CQ:=@PySem.Heap.SameBut.update
abbrev CT:=@PySem.wpAny_mono
abbrev CV:=@if_false
abbrev CW:=@PySem.wpAny_newObj_type
abbrev CZ:=@PySem.mem_of_lookup
abbrev DG:=@PySem.wpAny_call_entry
abbrev DK:=@if_true
abbrev DN:=@decide_eq_true_eq
abbrev DP:=@PySem.boot_len
abbrev DQ:=@PySem.wpAny_setField
abbrev DR:=@Classical.byContradiction
abbrev DW:=@PyProof.Rows.boot_sorted
abbrev DX:=@PySem.sizeLine_eq
abbrev DY:=@PySem.W.kia_one
abbrev EY:=@PySem.Around.under_plainId
abbrev FJ:=@PySem.codeAny_builtin
abbrev FN:=@PyProof.Rows.wpS_bind
abbrev FP:=@or_false
abbrev FQ:=@PyProof.Rows.boot_isinstance
abbrev FT:=@PySem.F.plainAttrs_list
abbrev FW:=@bne_self_eq_false
abbrev FZ:=@PySem.wpAny_standAt
abbrev GJ:=@PySem.wpAny_typeNameOfWhole_itemiter
abbrev GQ:=@PySem.wpAny_truthy_bool
abbrev GX:=@PySem.wpAny_storeSet_of
abbrev GZ:=@PySem.F.slot_dict_itemiterator_next
abbrev HJ:=@decide_eq_false_iff_not
abbrev HN:=@Prod.ext
abbrev HS:=@PySem.wpAny_rule
abbrev HW:=@PySem.wpAny_of_eq
abbrev HX:=@PyProof.Rows.callWith_type1
abbrev HY:=@PyProof.Rows.F.plain_set_update_loop
abbrev IK:=@PySem.wpAny_passesOwn
abbrev IV:=@PySem.wpAny_typeNameOf_itemiter
abbrev IW:=@PySem.wpAny_callSpecial?_slot
abbrev JB:=@PySem.plainId_quiet
abbrev JC:=@PySem.wpAny_setField_rec
abbrev JD:=@of_decide_eq_false
abbrev JF:=@PySem.W.cellsFrom_some
abbrev JG:=@PyProof.Rows.wpS_pure
abbrev JH:=@PySem.wpAny_field
abbrev JK:=@PySem.codeAny_mono
abbrev JL:=@PySem.wpAny_askSetting
abbrev JM:=@beq_iff_eq
abbrev JN:=@PySem.wpAny_isInstance
abbrev JQ:=@PySem.wpAny_newList
abbrev JR:=@PySem.wpAny_setEntries_of
abbrev JT:=@PySem.codeAny_of_tree
abbrev JV:=@PySem.W.KasT.kasWp_bind
abbrev JW:=@PySem.wpAny_Call_Name_kw
abbrev JX:=@PySem.wpAny_getItem_list_slice
abbrev JZ:=@PySem.wpAny_comprehension_free
abbrev KC:=@PySem.wpAny_typeOf
abbrev KD:=@PyProof.Rows.F.entry_set_update_loop
abbrev KH:=@PySem.wpAny_setEpoch_of
abbrev KJ:=@PySem.wpAny_pyIter_slot
abbrev KN:=@Bool.not_eq_true'
abbrev KQ:=@PySem.Calls.callWith_builtin
abbrev KR:=@PySem.wpAny_isOneOf_itemiter
abbrev KY:=@List.eraseIdx_append_of_lt_length
abbrev KZ:=@PyProof.Rows.boot_list
abbrev LC:=@PySem.W.mg_of
abbrev LK:=@PySem.wpAny_attempt
abbrev LQ:=@PyProof.Rows.listUpdate_at
abbrev LR:=@beq_self_eq_true
abbrev MF:=@List.Perm.append_left
abbrev MJ:=@PySem.builtinLookup_eq_fast
abbrev MK:=@PyProof.Rows.boot_int
abbrev MN:=@PyProof.Rows.boot_set
abbrev MP:=@PySem.Obj.isFreed_of_fields
abbrev NK:=@PySem.F.args_dict_itemiterator_next_1
abbrev NQ:=@PySem.Calls.evalArgs_plain
abbrev NZ:=@PySem.PassesOwn.never
abbrev OD:=@PySem.strKind_is
abbrev OJ:=@PyProof.Rows.listItems_at
abbrev PB:=@PyProof.Rows.wpS_forRange
abbrev PJ:=@PySem.F.entry_dict_itemiterator_next
abbrev PK:=@PySem.F.slot_dict_itemiterator_iter
abbrev PL:=@PySem.entryFor_alias
abbrev PN:=@PySem.wpAny_fieldsOf
abbrev PX:=@PySem.wpAny_newTuple
abbrev QB:=@PySem.wpAny_alloc
abbrev QC:=@PyProof.Rows.seqEpoch_at
abbrev QD:=@PySem.tupleKind_room_in1
abbrev QF:=@List.lookup_append
abbrev QG:=@Nat.lt_of_le_of_lt
abbrev QJ:=@PySem.MeetsSeq2.wpAny_forIn_array
abbrev QK:=@PySem.Obj.data_mapFields
abbrev QL:=@PySem.evalPart_some
abbrev QM:=@Nat.mod_two_eq_zero_or_one
abbrev QS:=@PySem.wpAny_pyIter_list
abbrev QT:=@List.Pairwise.map
abbrev QV:=@PySem.wpAny_dictEntries
abbrev QW:=@Nat.lt_trichotomy
abbrev QX:=@PyProof.Rows.Subscript_
abbrev QZ:=@PySem.call_meets
abbrev RB:=@List.drop_eq_getElem_cons
abbrev RD:=@PySem.F.slot_set_contains
abbrev RG:=@Array.getElem?_replicate
abbrev RJ:=@List.nodup_range
abbrev RK:=@List.ext_getElem
abbrev RL:=@Nat.min_eq_right
abbrev RM:=@PySem.wpAny_runOwn
abbrev RN:=@PySem.F.slot_list_insert
abbrev RP:=@PySem.F.type_list_insert
abbrev RQ:=@List.getElem?_cons_zero
abbrev RT:=@List.filter_cons_of_pos
abbrev RV:=@PyProof.Rows.boot_tuple
abbrev RW:=@PySem.wpAny_execs_nil
abbrev RX:=@List.of_mem_zip
abbrev RZ:=@PySem.wpAny_specialOf
abbrev SJ:=@List.forIn_cons
abbrev SM:=@PySem.typeLookup_type
abbrev SN:=@Nat.min_eq_left
abbrev SQ:=@PySem.wpAny_dictEpoch
abbrev SX:=@List.getElem?_set_self
abbrev TF:=@List.length_pos_of_mem
abbrev TJ:=@List.drop_of_length_le
abbrev TQ:=@PyProof.Rows.boot_dict
abbrev TV:=@List.Perm.append_right
abbrev TX:=@Bool.false_and
abbrev TY:=@Bool.not_false
abbrev UG:=@List.getElem?_toArray
abbrev UJ:=@PySem.F.plain_set_new
abbrev UL:=@PyProof.Rows.boot_max
abbrev UW:=@List.take_zero
abbrev VB:=@Bool.true_and
abbrev VD:=@Nat.add_zero
abbrev VF:=@Nat.sub_zero
abbrev VG:=@Nat.sub_self
theorem Z0:0<=PySem.sizeLine:=by decide
theorem Z2:2<=PySem.sizeLine:=by decide
theorem Z1:1<=PySem.sizeLine:=by decide
set_option Elab.async false
set_option linter.all false
set_option maxRecDepth 100000
set_option maxHeartbeats 4000000
abbrev Aa:=@List.length_map
abbrev Ab:=@List.getElem?_eq_getElem
abbrev Ac:=@List.getElem?_eq_some_iff
abbrev Ad:=@List.mem_singleton
abbrev Ae:=@List.mem_cons_self
abbrev Af:=@List.length_append
abbrev Ag:=@PySem.Heap.get?_push_of_some
abbrev Ah:=@List.mem_cons_of_mem
abbrev Ai:=@List.mem_cons
abbrev Aj:=@List.getElem?_map
abbrev Ak:=@List.map_append
abbrev Al:=@Nat.le_refl
abbrev Am:=@List.mem_append
abbrev An:=@List.mem_map
abbrev Ao:=@List.map_congr_left
abbrev Ap:=@List.mem_of_getElem?
abbrev Aq:=@List.append_assoc
abbrev Ar:=@List.getElem?_append_left
abbrev As:=@List.length_cons
abbrev At:=@PySem.Heap.get?_push_size
abbrev Au:=@PySem.Heap.lt_size
abbrev Av:=@Bool.false_ne_true
abbrev Aw:=@List.size_toArray
abbrev Ax:=@List.mem_append_right
abbrev Ay:=@List.getElem?_append_right
abbrev Az:=@Option.map_eq_some_iff
abbrev Ba:=@List.mem_filter
abbrev Bb:=@Bool.false_eq_true
abbrev Bc:=@List.getElem?_eq_none
abbrev Bd:=@List.mem_append_left
abbrev Be:=@List.append_nil
abbrev Bf:=@List.nodup_cons
abbrev Bg:=@Nat.lt_of_lt_of_le
abbrev Bh:=@List.getElem?_of_mem
abbrev Bi:=@List.length_eq_zero_iff
abbrev Bj:=@List.map_cons
abbrev Bk:=@List.length_take
abbrev Bm:=@List.contains_iff_mem
abbrev Bn:=@Nat.ne_of_lt
abbrev Bo:=@Int.toNat_natCast
abbrev Bp:=@List.mem_range
abbrev Bq:=@Array.getElem?_toList
abbrev Br:=@Array.length_toList
abbrev Bs:=@List.pairwise_iff_getElem
abbrev Bt:=@Nat.zero_le
abbrev Bu:=@List.getElem_mem
abbrev Bv:=@Bool.and_eq_true
abbrev Bw:=@List.not_mem_nil
abbrev Bx:=@Int.emod_nonneg
abbrev By:=@Nat.le_trans
abbrev Bz:=@Nat.lt_succ_of_lt
abbrev Ca:=@List.take_length
abbrev Cb:=@List.map_map
abbrev Cc:=@Nat.mod_eq_of_lt
abbrev Cd:=@PySem.Heap.get?_update_other
abbrev Ce:=@Int.emod_lt_of_pos
abbrev Cf:=@List.flatMap_cons
abbrev Cg:=@List.length_drop
abbrev Ch:=@List.nodup_nil
abbrev Ci:=@List.perm_append_comm
abbrev Cj:=@List.take_add_one
abbrev Ck:=@Bool.eq_iff_iff
abbrev Cm:=@Nat.le_of_lt
abbrev Cn:=@List.nodup_iff_pairwise_ne
abbrev Co:=@List.nodup_append
abbrev Cp:=@List.filter_cons
abbrev Cq:=@List.filter_append
abbrev Cr:=@List.take_of_length_le
abbrev Cs:=@Nat.ne_of_gt
abbrev Ct:=@List.pairwise_cons
abbrev Cu:=@List.length_singleton
abbrev Cv:=@List.length_eraseIdx
abbrev Cw:=@PySem.Heap.size_push
abbrev Cy:=@List.count_cons
abbrev Cz:=@Nat.lt_irrefl
abbrev Da:=@PySem.Heap.get?_update_self
abbrev Db:=@List.take_append_drop
abbrev Dc:=@List.flatten_cons
abbrev Dd:=@List.count_pos_iff
abbrev De:=@List.getElem?_drop
abbrev Dg:=@List.foldl_cons
abbrev Dh:=@List.range_succ
abbrev Di:=@Nat.lt_or_ge
abbrev Dj:=@Array.getElem?_eq_getElem
abbrev Dk:=@List.length_pos_iff
abbrev Dl:=@List.ext_getElem?
abbrev Dm:=@List.length_filter_le
abbrev Do:=@List.getElem?_take_of_lt
abbrev Dp:=@List.lookup_cons
abbrev Dq:=@List.getElem_map
abbrev Dr:=@List.mem_iff_getElem
abbrev Ds:=@Array.getD_eq_getD_getElem?
abbrev Du:=@List.flatMap_append
abbrev Dv:=@Bool.not_true
abbrev Dw:=@Int.zero_add
abbrev Dx:=@List.count_eq_zero_of_not_mem
abbrev Dy:=@List.filterMap_cons
abbrev Dz:=@List.getElem?_range
abbrev Eb:=@Nat.zero_add
abbrev Ec:=@Array.getElem?_eq_none
abbrev Ed:=@Nat.mod_self
abbrev Ee:=@List.all_eq_true
abbrev Ef:=@List.exists_mem_of_ne_nil
abbrev Eh:=@List.length_nil
abbrev Ej:=@Nat.not_lt_zero
abbrev Ek:=@Nat.le_succ
abbrev El:=@Nat.le_of_succ_le
abbrev Em:=@Bool.eq_false_iff
abbrev Ep:=@List.count_append
abbrev Er:=@List.pairwise_map
abbrev Es:=@Option.isSome_iff_exists
abbrev Eu:=@List.any_cons
abbrev Ex:=@List.mem_of_mem_eraseIdx
abbrev Ey:=@List.getElem?_replicate
abbrev Ez:=@Bool.xor_false
abbrev Fa:=@List.getElem_range
abbrev Fb:=@List.append_eq_nil_iff
abbrev Fc:=@List.filter_eq_nil_iff
abbrev Fd:=@List.find?_cons
abbrev Fe:=@List.nil_append
abbrev Ff:=@Bool.xor_self
abbrev Fg:=@List.length_replicate
abbrev Fh:=@List.length_range
abbrev Fi:=@List.mem_zipIdx_iff_le_and_getElem?_sub
abbrev Fj:=@List.perm_ext_iff_of_nodup
abbrev Fk:=@List.mem_erase_of_ne
abbrev Fm:=@Nat.one_pos
abbrev Fn:=@List.getElem?_modify
abbrev Fo:=@Bool.false_xor
abbrev Fp:=@Array.getElem?_eq_some_iff
abbrev Fq:=@List.cons_append
abbrev Fr:=@List.mem_flatten
abbrev Fs:=@List.flatten_append
abbrev Ft:=@List.length_erase_of_mem
abbrev Fu:=@List.sum_cons
abbrev Fv:=@Bool.and_comm
abbrev Fw:=@List.mem_filterMap
abbrev Fx:=@List.find?_eq_none
abbrev Fy:=@List.append_of_mem
abbrev Fz:=@Nat.lt_of_le_of_ne
abbrev Ga:=@List.getElem?_cons_succ
abbrev Gb:=@List.pairwise_singleton
abbrev Gc:=@Nat.succ_pos
abbrev Gd:=@List.getElem?_eraseIdx
abbrev Ge:=@List.lt_irrefl
abbrev Gf:=@Nat.zero_lt_of_lt
abbrev Gg:=@List.getElem_inj
abbrev Gh:=@Nat.lt_succ_self
abbrev Gi:=@List.isEmpty_nil
abbrev Gj:=@List.mem_flatMap
abbrev Gk:=@List.lt_trans
abbrev Gm:=@PySem.Heap.get?_push_cases
abbrev Gn:=@List.le_iff_lt_or_eq
abbrev Go:=@List.nodup_iff_count
abbrev Gp:=@Option.map_some
abbrev Gq:=@List.find?_some
abbrev Gr:=@List.filter_sublist
abbrev Gs:=@Bool.and_false
abbrev Gu:=@Nat.mod_lt
abbrev Gv:=@List.all_cons
abbrev Gw:=@List.map_drop
namespace L2
open PySem PySem.Spec PyProof.Rows
abbrev Key:=Sum Int Str
def qK:Key->Value->Bool
 | .inl k,v=>Value.isInt k v
 | .inr x,v=>Value.isStrOf x v
def zq(w:World):Key->Int
 | .inl k=>hashInt k
 | .inr x=>hashStr w x
theorem ku:∀{k:Key} {v:Value},qK k v=true->(∃ i t,k=Sum.inl i/\v=Value.int i t)\/(∃ x t,k=Sum.inr x/\v=Value.str x t)
 | .inl i,v,h=>by
  obtain⟨t,e⟩:=Value.isInt_shape (k:=i) (v:=v) h;exact .inl ⟨i,t,rfl,e⟩
 | .inr x,v,h=>by
  obtain⟨t,e⟩:=Value.isStrOf_shape (x:=x) (v:=v) h;exact .inr ⟨x,t,rfl,e⟩
theorem Ug(i:Int)(t:Tok):qK (.inl i) (.int i t)=true:=by simp [qK,Value.isInt]
theorem Uh(x:Str)(t:Tok):qK (.inr x) (.str x t)=true:=by simp [qK,Value.isStrOf]
theorem Ui(a b:Int):decide ((Sum.inl a:Key)=Sum.inl b)=(a == b):=by
 by_cases e:a=b
 ·subst e;simp
 ·have h:¬(Sum.inl a:Key)=Sum.inl b:=λq=>e<|Sum.inl.inj q;rw [BR h];exact(beq_eq_false_iff_ne.mpr e).symm
theorem Uj(a b:Str):decide ((Sum.inr a:Key)=Sum.inr b)=decide (a=b):=by
 by_cases e:a=b
 ·subst e;simp
 ·have h:¬(Sum.inr a:Key)=Sum.inr b:=λq=>e<|Sum.inr.inj q;rw [BR h,BR e]
theorem Uk(a:Int)(b:Str):decide ((Sum.inl a:Key)=Sum.inr b)=false:=BR λq=>nomatch q
theorem Ul(a:Str)(b:Int):decide ((Sum.inr a:Key)=Sum.inl b)=false:=BR λq=>nomatch q
def dh(prog:Program)(w:World):PySem.KeyKind prog w Key where
 is:=qK
 hash:=zq w
 inj:=λv a b ha hb=>by
  rcases ku ha with ⟨i,t,rfl,rfl⟩ | ⟨x,t,rfl,rfl⟩
  ·rcases ku hb with ⟨j,u,rfl,e⟩ | ⟨y,u,rfl,e⟩
   ·injection e with e1 _;rw [e1]
   ·exact nomatch e
  ·rcases ku hb with ⟨j,u,rfl,e⟩ | ⟨y,u,rfl,e⟩
   ·exact nomatch e
   ·injection e with e1 _;rw [e1]
 byValue:=λk v h=>by
  rcases ku h with ⟨i,t,rfl,rfl⟩ | ⟨x,t,rfl,rfl⟩ <;> rfl
 pyHash:=λhv h=>by
  rcases ku hv with ⟨i,t,rfl,rfl⟩ | ⟨x,t,rfl,rfl⟩
  ·exact wpAny_pyHash_int h
  ·exact wpAny_pyHash_str h
 eqBool:=λhu hv h=>by
  rcases ku hu with ⟨i,t,rfl,rfl⟩ | ⟨x,t,rfl,rfl⟩
  ·rcases ku hv with ⟨j,u,rfl,rfl⟩ | ⟨y,u,rfl,rfl⟩
   ·rw [Ui] at h;exact wpAny_eqBool_int h
   ·rw [Uk] at h;exact SeqAt.EqAt.int_str i t y u _ _ _ _ h
  ·rcases ku hv with ⟨j,u,rfl,rfl⟩ | ⟨y,u,rfl,rfl⟩
   ·rw [Ul] at h;exact SeqAt.EqAt.str_int x t j u _ _ _ _ h
   ·rw [Uj] at h;exact wpAny_eqBool_str h
 «strs»:=λk x t v h=>by
  rcases ku h with ⟨i,u,rfl,e⟩ | ⟨y,u,rfl,e⟩
  ·exact nomatch e
  ·injection e with e1 _
   subst e1;cases v <;> rfl
theorem Um(prog:Program)(w:World)(i:Int)(t:Tok):(dh prog w).is (.inl i) (.int i t)=true:=Ug i t
theorem Uo(prog:Program)(w:World)(x:Str)(t:Tok):(dh prog w).is (.inr x) (.str x t)=true:=Uh x t
inductive V where
 | non | bl (b:Bool) | int (i:Int) | str (x:Str) | iM (b:Array UInt8) | qL (b:UInt64) | ref (a:Addr) | ty (n:String)
 deriving DecidableEq
def RelV:V->Value->Prop
 | .non,u=>u=Value.none
 | .bl b,u=>u=Value.bool b
 | .int i,u=>∃ t,u=Value.int i t
 | .str x,u=>∃ t,u=Value.str x t
 | .iM b,u=>∃ t,u=Value.bytes b t
 | .qL b,u=>∃ t,u=Value.float b t
 | .ref a,u=>u=Value.ref a
 | .ty n,u=>u=Value.type n
abbrev aw:List V->List Value->Prop:=Paired RelV
theorem aw.length{xs:List V}{us:List Value}(r:aw xs us):xs.length=us.length:=Paired.length r
theorem aw.get:∀{xs:List V} {us:List Value} {i:Nat} {x:V},aw xs us->xs[i]?=some x->∃ u,us[i]?=some u/\RelV x u
 | _,_,_,_,.nil,e=>by simp at e
 | _,_,0,_,.cons r _,e=>by simp at e;subst e;exact⟨_,rfl,r⟩
 | _,_,i+1,x,.cons _ t,e=>by
  obtain⟨u,h1,h2⟩:=aw.get (i:=i) (x:=x) t (by simpa using e);exact⟨u,by simpa using h1,h2⟩
theorem aw.set{x:V}{u:Value}(r:RelV x u):∀{xs:List V} {us:List Value} (i:Nat),aw xs us->aw (xs.set i x) (us.set i u)
 | _,_,_,.nil=> .nil
 | _,_,0,.cons _ t=> .cons r t
 | _,_,i+1,.cons q t=> .cons q<|aw.set r i t
theorem aw.append:∀{xs ys:List V} {us ws:List Value},aw xs us->aw ys ws->aw (xs++ys) (us++ws)
 | _,_,_,_,.nil,s=>s
 | _,_,_,_,.cons r t,s=> .cons r<|aw.append t s
theorem aw.take:∀{xs:List V} {us:List Value} (n:Nat),aw xs us->aw (xs.take n) (us.take n)
 | _,_,0,_=> .nil
 | _,_,_+1,.nil=> .nil
 | _,_,n+1,.cons r t=> .cons r<|aw.take n t
theorem aw.drop:∀{xs:List V} {us:List Value} (n:Nat),aw xs us->aw (xs.drop n) (us.drop n)
 | _,_,0,r=>r
 | _,_,_+1,.nil=> .nil
 | _,_,n+1,.cons _ t=>aw.drop n t
def dD:Option V->Option Value->Prop
 | some v,some u=>RelV v u
 | none,none=>True
 | _,_=>False
def KV{κ:Type}:List (κ×V)->List (κ×Value)->Prop:=Paired λ(p:κ×V) (q:κ×Value)=>p.1=q.1/\RelV p.2 q.2
def kV:Key->V
 | .inl i=> .int i
 | .inr x=> .str x
inductive HO where
 | lst (xs:List V)
 | tup (xs:List V)
 | dK (kvs:List<|Key×V) | dT (kvs:List<|List Key×V)
 | set (S:Int->Bool) (n:Nat)
 | ins (C dx:Addr) (fs:List<|Str×V)
 | own (x:Addr)
 | xd (fs:List<|Str×V)
 | met (f x:Addr)
 | wD (lo hi:Int)
 | bX (o:Obj) (u:HO)
 | mP (ps:Array Value)
 | ext (φ:Heap->Prop)
abbrev Hp:=Addr->Option HO
def upd(H:Hp)(a:Addr)(o:HO):Hp:=λb=>if b=a then some o else H b
theorem aB{H:Hp}{a:Addr}{o:HO}:upd H a o a=some o:=by unfold upd;rw [BP rfl]
theorem ay{H:Hp}{a b:Addr}{o:HO}(h:b≠a):upd H a o b=H b:=by unfold upd;rw [BK h]
theorem zu{H:Hp}{a:Addr}{o u:HO}:upd (upd H a o) a u=upd H a u:=by
 funext b;unfold upd;split <;> rfl
theorem bU{H:Hp}{a b:Addr}{o u:HO}(h:H a=some o)(h':H b=some u)(d:o≠u):a≠b:=by
 intro e;subst e;rw [h] at h';exact d<|Option.some.inj h'
theorem bu{H:Hp}{a b:Addr}{o:HO}(h:H a=some o)(h':H b=none):a≠b:=by
 intro e;subst e;rw [h] at h';cases h'
section
variable(P:Program)(w:World)
def aC(H:Hp)(h:Heap)(a:Addr):HO->Prop
 | .lst xs=>xs.length<=sizeLine/\∃(its:List Value) (n:Nat),aw xs its/\h.get? a=some {cls:= .type "list",data:= .seq its.toArray n}
 | .tup xs=>xs.length<=sizeLine/\∃ its:List Value,aw xs its/\IsTup h a its.toArray
 | .dK kvs=>kvs.length<=sizeLine/\(a == sysModules)=false/\∃ vs,KV kvs vs/\h.DictOf (dh P w) a vs
 | .dT kvs=>kvs.length<=sizeLine/\(a == sysModules)=false/\∃ xs:List<|List Key×Addr×Value,
   Paired (λ(p:List Key×V) (q:List Key×Addr×Value)=>p.1=q.1/\H q.2.1=some (.tup<|p.1.map kV)/\RelV p.2 q.2.2) kvs xs /\
   ∃ o es ep,h.get? a=some o/\o.ExactDict/\o.data = .dict es ep/\es.toList=xs.map (entryOfKey<|tupleKind<|dh P w)/\(xs.map (·.1)).Nodup
 | .set S n=>h.SetOf (intKind P w) a S n
 | .ins C dx fs=>H dx=some (.own a)/\fs.length<=1000/\dx≠a/\h.get? a=some (PySem.W.instObj C dx) /\
   ∃ mA,h.Ns1 dx mA/\(∀ f,dD (fs.lookup f)<|mA f)/\PySem.Within mA (fs.map (·.1))
 | .own _=>∃ o,h.get? a=some o
 | .xd fs=>∃ mA,h.Ns1 a mA/\∀ f,dD (fs.lookup f)<|mA f
 | .wD lo hi=>∃ t u v,h.get? a=some {cls:= .type "range",data:= .fields #[.int lo t,.int hi u,.int 1 v]}
 | .bX o u=>h.get? a=some o/\aC H h a u
 | .mP ps=>h.get? a=some {cls:= .none,data:= .fields ps}
 | .met f x=>h.get? a=some (PySem.W.methodObj (.ref f)<|.ref x)
 | .ext φ=>φ h/\(∃ o,h.get? a=some o)/\∀ h1 h2:Heap,φ h1->(∀ o,h1.get? a=some o->h2.get? a=some o)->φ h2
def b6(H:Hp)(h:Heap):Prop:=∀ a o,H a=some o->aC P w H h a o
end
section
variable{P:Program}{w:World}{H H':Hp}{h h':Heap}{a:Addr}{o:HO}
theorem aC.lt(x:aC P w H h a o):a < h.objs.size:=by
 cases o with
 | lst xs=>obtain⟨_,_,_,_,e⟩:=x;exact Au e
 | tup xs=>obtain⟨_,_,_,p⟩:=x;exact p.lt
 | dK kvs=>obtain⟨_,_,_,_,o,_,_,e,_⟩:=x;exact Au e
 | dT kvs=>obtain⟨_,_,_,_,o,_,_,e,_⟩:=x;exact Au e
 | set S n=>obtain⟨o,_,_,_,e,_⟩:=x;exact Au e
 | ins C dx fs=>obtain⟨_,_,_,e,_⟩:=x;exact Au e
 | own y=>obtain⟨_,e⟩:=x;exact Au e
 | xd fs=>obtain⟨_,⟨_,_,_,e,_⟩,_⟩:=x;exact Au e
 | wD lo hi=>obtain⟨_,_,_,e⟩:=x;exact Au e
 | bX ob u=>obtain⟨e,_⟩:=x;exact Au e
 | mP ps=>exact Au (show h.get? a=some _ from x)
 | met f y=>exact Au (show h.get? a=some _ from x)
 | ext φ=>obtain⟨_,⟨_,e⟩,_⟩:=x;exact Au e
theorem Paired.oh{α β:Type}{F G:α->β->Prop}:∀{l₁:List α} {l₂:List β},Paired F l₁ l₂->(∀ a b,F a b->G a b)->Paired G l₁ l₂
 | _,_,.nil,_=> .nil
 | _,_,.cons r t,f=> .cons (f _ _ r)<|Paired.oh t f
theorem aC.gU(x:aC P w H h a o)(k:∀ b u,(b=a\/H b=some (.own a))->h.get? b=some u->h'.get? b=some u)
  (ho:∀ b,H b=some (.own a)->H' b=some (.own a)) (ht:∀ b xs,H b=some (.tup xs)->H' b=some (.tup xs)):aC P w H' h' a o:=by
 induction o with
 | lst xs=>obtain⟨z,its,n,r,e⟩:=x;exact⟨z,its,n,r,k _ _ (.inl rfl) e⟩
 | tup xs=>obtain⟨z,its,r,ob,e,c⟩:=x;exact⟨z,its,r,ob,k _ _ (.inl rfl) e,c⟩
 | dK kvs=>obtain⟨z,y,vs,r,ob,es,ep,e,c⟩:=x;exact⟨z,y,vs,r,ob,es,ep,k _ _ (.inl rfl) e,c⟩
 | dT kvs=>
  obtain⟨z,y,xs,r,ob,es,ep,e,c⟩:=x;exact⟨z,y,xs,Paired.oh r λp q z=>⟨z.1,ht _ _ z.2.1,z.2.2⟩,ob,es,ep,k _ _ (.inl rfl) e,c⟩
 | set S n=>obtain⟨ob,es,ep,t,e,c⟩:=x;exact⟨ob,es,ep,t,k _ _ (.inl rfl) e,c⟩
 | ins C dx fs=>
  obtain⟨d,z,ne,e,mA,⟨od,es,ep,e2,c⟩,r⟩:=x;exact⟨ho _ d,z,ne,k _ _ (.inl rfl) e,mA,⟨od,es,ep,k _ _ (.inr d) e2,c⟩,r⟩
 | own y=>obtain⟨ob,e⟩:=x;exact⟨ob,k _ _ (.inl rfl) e⟩
 | xd fs=>obtain⟨mA,⟨od,es,ep,e,c⟩,r⟩:=x;exact⟨mA,⟨od,es,ep,k _ _ (.inl rfl) e,c⟩,r⟩
 | wD lo hi=>obtain⟨t,u,v,e⟩:=x;exact⟨t,u,v,k _ _ (.inl rfl) e⟩
 | bX ob u ih=>obtain⟨e,q⟩:=x;exact⟨k _ _ (.inl rfl) e,ih q⟩
 | mP ps=>
  have e:h.get? a=some {cls:= .none,data:= .fields ps}:=x;show h'.get? a=some {cls:= .none,data:= .fields ps};exact k a _ (.inl rfl) e
 | met f y=>
  have e:h.get? a=some (PySem.W.methodObj (.ref f)<|.ref y):=x;show h'.get? a=some (PySem.W.methodObj (.ref f)<|.ref y);exact k a _ (.inl rfl) e
 | ext φ=>obtain⟨p,⟨o,e⟩,st⟩:=x;exact⟨st _ _ p λo q=>k _ _ (.inl rfl) q,⟨o,k _ _ (.inl rfl) e⟩,st⟩
theorem b6.lt(x:b6 P w H h)(e:H a=some o):a < h.objs.size:=(x a o e).lt
theorem b6.fresh(x:b6 P w H h)(e:h.objs.size<=a):H a=none:=by
 cases q:H a with
 | none=>rfl
 | some u=>exact absurd (Bg (x.lt q) e)<|Cz _
theorem b6.kept(x:b6 P w H h)(k:∀ b u,h.get? b=some u->h'.get? b=some u):b6 P w H h':=λa o e=>
 (x a o e).gU (λb u _ q=>k b u q) (λ_ q=>q) λ_ _ q=>q
theorem b6.laid(x:b6 P w H h)(k:∀ b u,h.get? b=some u->h'.get? b=some u)(hp:h.objs.size<=a)(new:aC P w (upd H a o) h' a o):b6 P w (upd H a o) h':=λb u e=>by
 have hn:=x.fresh hp
 by_cases hb:b=a
 ·subst hb;rw [aB] at e;cases e;exact new
 ·rw [ay hb] at e;exact(x b u e).gU (λc v _ q=>k c v q) (λc q=>by rw [ay<|bu q hn];exact q) λc xs q=>by rw [ay<|bu q hn];exact q
end
def Rd(H:Hp)(a:Addr)(u:HO):Prop:=H a=some u\/∃ o,H a=some (.bX o u)
theorem Rd.ok{P:Program}{w:World}{H:Hp}{h:Heap}{a:Addr}{u:HO}(r:Rd H a u)(x:b6 P w H h):aC P w H h a u:=by
 rcases r with r | ⟨o,r⟩
 ·exact x a u r
 ·obtain⟨_,q⟩:=x a _ r;exact q
def sM:Option HO->Prop
 | some (.lst _)=>True
 | some (.dK _)=>True
 | some (.dT _)=>True
 | some (.set _ _)=>True
 | some (.ins _ _ _)=>True
 | some (.ext _)=>True
 | _=>False
section
variable{P:Program}{w:World}{H:Hp}{h h':Heap}{x e:Addr}{o':HO}
theorem b6.write(ok:b6 P w H h)(mu:sM<|H x)(he:e=x\/H e=some (.own x))(k:∀ b u,b≠e->h.get? b=some u->h'.get? b=some u)(qM:∃ u,h'.get? e=some u)
  (new:aC P w (upd H x o') h' x o'):b6 P w (upd H x o') h':=λb u q=>by
 have sN:∀ c y,H c=some (.own y)->c≠x:=λc y r z=>by subst z;rw [r] at mu;exact mu
 have zv:∀ c xs,H c=some (.tup xs)->c≠x:=λc xs r z=>by subst z;rw [r] at mu;exact mu
 by_cases hb:b=x
 ·subst hb;rw [aB] at q;cases q;exact new
 ·rw [ay hb] at q
  by_cases k6:b=e
  ·have q':H b=some (.own x):=by
    rcases he with z | z
    ·exact absurd (k6.trans z) hb
    ·rw [k6];exact z
   rw [q] at q';cases q';obtain⟨v,hv⟩:=qM;exact⟨v,by rw [k6];exact hv⟩
  ·refine(ok b u q).gU (λc v hc r=>k c v ?_ r) (λc r=>by rw [ay<|sN c b r];exact r) λc xs r=>by rw [ay<|zv c xs r];exact r
   rcases hc with rfl | hc
   ·exact k6
   ·rintro rfl
    rcases he with z | z
    ·exact sN c b hc z
    ·rw [hc] at z;cases z;exact hb rfl
end
structure Un(fs ex:List Addr)(H H':Hp)(h h':Heap):Prop where
 keep:∀ b o,h.get? b=some o->H b=none->b∉fs->b∉ex->h'.get? b=some o
 slot:∀ b o,h.get? b=some o->H b=none->b∈fs->b∉ex->∃ sl,h'.get? b=some {o with slots:=sl}
 free:∀ b o,h.get? b=some o->H b=none->b∉ex->H' b=none
 there:∀ b o,h.get? b=some o->b∉ex->∃ o',h'.get? b=some o'
 fc:∀ b xs,H b=some (.tup xs)->H' b=some (.tup xs)
 d9:∀ b o u,H b=some (.bX o u)->H' b=some (.bX o u)
 fe:∀ b ps,H b=some (.mP ps)->∃ more,H' b=some (.mP<|ps++more)
section
variable{fs Uq ex K9:List Addr}{H H1 H2:Hp}{h h1 h2 h':Heap}{a x e:Addr}{o:HO}
theorem Un.any(u:Un fs ex H H1 h h1){b:Addr}{ob:Obj}(q:h.get? b=some ob)(n:H b=none)(hx:b∉ex):∃ sl,h1.get? b=some {ob with slots:=sl}:=by
 by_cases hb:b∈fs
 ·exact u.slot b ob q n hb hx
 ·exact⟨ob.slots,u.keep b ob q n hb hx⟩
theorem Un.kept(k:∀ b u,h.get? b=some u->h'.get? b=some u):Un fs ex H H h h':=
 ⟨λb ob q _ _ _=>k b ob q,λb ob q _ _ _=>⟨ob.slots,k b ob q⟩,λ_ _ _ n _=>n,λb ob q _=>⟨ob,k b ob q⟩,λ_ _ q=>q,λ_ _ _ q=>q,λ_ ps q=>⟨#[],by rw [q];simp⟩⟩
theorem Un.refl:Un fs ex H H h h:=Un.kept λ_ _ q=>q
theorem Un.laid(k:∀ b u,h.get? b=some u->h'.get? b=some u)(hp:h.objs.size<=a)(hn:H a=none):Un fs ex H (upd H a o) h h' where
 keep:=λb u q _ _ _=>k b u q
 slot:=λb u q _ _ _=>⟨u.slots,k b u q⟩
 free:=λb u q n _=>by rw [ay<|Bn<|Bg (Au q) hp];exact n
 there:=λb u q _=>⟨u,k b u q⟩
 fc:=λb xs q=>by rw [ay<|bu q hn];exact q
 d9:=λb u xs q=>by rw [ay<|bu q hn];exact q
 fe:=λb ps q=>⟨#[],by rw [ay<|bu q hn,q];simp⟩
theorem Un.write(mu:sM<|H x)(he:e=x\/H e=some (.own x))(k:∀ b u,b≠e->h.get? b=some u->h'.get? b=some u)(qM:∃ u,h'.get? e=some u):Un fs ex H (upd H x o) h h':=by
 have hx:∀ b,H b=none->b≠x:=λb n z=>by subst z;rw [n] at mu;exact mu
 have hb:∀ b,H b=none->b≠e:=λb n z=>by
  subst z
  rcases he with r | r
  ·exact hx b n r
  ·rw [n] at r;cases r
 have hm:∀ b u,H b=some u->¬ sM (some u)->b≠x:=λb u q nm z=>by subst z;rw [q] at mu;exact nm mu
 refine⟨λb u q n _ _=>k b u (hb b n) q,λb u q n _ _=>⟨u.slots,k b u (hb b n) q⟩,λb u q n _=>by rw [ay<|hx b n];exact n,λb u q _=>?_,
  λb xs q=>by rw [ay<|hm b _ q λz=>z];exact q,λb u xs q=>by rw [ay<|hm b _ q λz=>z];exact q,λb ps q=>⟨#[],by rw [ay<|hm b _ q λz=>z,q];simp⟩⟩
 by_cases k6:b=e
 ·subst k6;exact qM
 ·exact⟨u,k b u k6 q⟩
end
def wF(h:Heap)(H:Hp):List Addr:=(List.range h.objs.size).filter λa=>(H a).isSome
def fh(h:Heap)(H:Hp):Heap:=PySem.W.hideAll h<|wF h H
theorem Ur(h:Heap)(H:Hp):(fh h H).objs.size=h.objs.size:=PySem.W.hideAll_size _ _
theorem Us{h:Heap}{H:Hp}{b:Addr}{o:Obj}(e:h.get? b=some o)(n:H b=none):(fh h H).get? b=some o:=
 PySem.W.hideAll_get _ e λhm=>by
  have q:(H b).isSome=true:=(Ba.mp hm).2;rw [n] at q;simp at q
theorem Ut{h:Heap}{H:Hp}{b:Addr}{o:Obj}(e:(fh h H).get? b=some o):h.get? b=some o/\H b=none:=by
 have e':h.get? b=some o:=PySem.W.of_hideAll (wF h H) e;refine⟨e',?_⟩;cases q:H b with
 | none=>rfl
 | some x=>
  have hm:b∈wF h H:=Ba.mpr ⟨Bp.mpr<|Au e',by simp [q]⟩;have z:(fh h H).get? b=none:=PySem.W.hideAll_none (wF h H) hm;rw [z] at e;cases e
structure Mod(K:PySem.W.Frag)(mg:Str->Option Value)(base:Heap):Prop where
 qN:K.In base
 glob:base.Ns mainGlobals mg
 blt:∃ mb,base.Ns builtinsNs mb/\∀ x:Str,x ≠ "__name__"->mb x=bootBuiltins x
 nolimit:base.NoLimit
structure Cx where
 prog:Program
 w:World
 K:PySem.W.Frag
 mg:Str->Option Value
 base:Heap
 A:Around
 N:List Str
 s₀:Shared
 H₀:Hp
 env:Env
 outer:List Env
 stack:List Env
 ex:List Addr
 fn:Str->Bool
 calm:Bool
 pn:List<|Addr×Obj
 xe:Value->Shared->Prop
def eF(l:List Env):List Addr:=l.filterMap (·.frame)
abbrev Cx.fs(X:Cx):List Addr:=eF X.outer
def zx(sc:Scope)(x:Str):Prop:=sc.names.lookup x=some .local\/sc.names.lookup x=some .cell\/sc.names.lookup x=some .free
def Loc(sc:Scope)(x:Str):Prop:=sc.names.lookup x=some .local\/sc.names.lookup x=some .cell
def Look(env:Env)(h:Heap)(m:Str->Option Value)(x:Str)(u:Value):Prop:=
 (env.kindOf x=some .local/\m x=some u)\/((env.kindOf x=some .cell\/env.kindOf x=some .free)/\∃ c,env.cells.lookup x=some c/\h.IsCell c (some u))
structure Cx.Ok(X:Cx):Prop where
 mod:Mod X.K X.mg X.base
 kind:X.env.scope.kind = .function
 glob:X.env.globals=mainGlobals
 blt:X.env.builtins=builtinsNs
 above:X.s₀.heap.objs.size<=X.env.locals
 inj:∀ x y c,X.env.cells.lookup x=some c->X.env.cells.lookup y=some c->x=y
 has:∀ x,(X.env.kindOf x=some .cell\/X.env.kindOf x=some .free)->∃ c,X.env.cells.lookup x=some c
 sO:∀ x c,X.fn x=true->X.env.cells.lookup x=some c->X.s₀.heap.objs.size<=c
 hd:X.calm=true->X.A.handled=none
 frames:X.A.frames=some X.stack
 wG:X.stack=X.outer\/(X.stack=X.env :: X.outer/\X.env.frame=some X.env.locals)
 K':∀ b∈X.ex,b≠X.env.locals/\∀ x c,X.env.cells.lookup x=some c->c≠b
 bs:∀ b o,X.base.get? b=some o->X.s₀.heap.get? b=some o/\X.H₀ b=none
 mQ:X.base.objs.size<=X.s₀.heap.objs.size
 jA:∀ b o,X.base.get? b=some o->b∉X.ex
 k8:∀ b∈X.ex,b∉X.fs
 dE:X.s₀.heap.FunFrames X.base X.outer
 qO:∀ b∈X.fs,X.H₀ b=none
structure Inv(X:Cx)(pins:List<|Addr×Obj)(σ:List<|Option V)(H:Hp)(s:Shared):Prop where
 ok:X.Ok
 os:s.os=X.s₀.os
 bare:AllBare s.gens
 base:Un X.fs X.ex X.H₀ H X.s₀.heap s.heap
 loc:∃ m,s.heap.Ns X.env.locals m/\∀(i:Nat) (x:Str) (v:V),X.N[i]?=some x->σ[i]?=some (some v)->zx X.env.scope x->∃ u,RelV v u/\Look X.env s.heap m x u
 cell:∀ x c,X.env.cells.lookup x=some c->∃ v,s.heap.IsCell c v
 free:H X.env.locals=none
 cf:∀ x c,X.env.cells.lookup x=some c->H c=none
 pin:∀ p∈X.pn++pins,s.heap.get? p.1=some p.2/\H p.1=none/\p.1≠X.env.locals/\p.1∉X.fs/\∀ v,p.2.data ≠ .cell v
 aH:b6 X.prog X.w H s.heap
 len:σ.length=X.N.length
section
variable{X:Cx}{pins:List (Addr×Obj)}{σ:List (Option V)}{H H':Hp}{s:Shared}{h':Heap}
theorem Cx.Ok.zy(ok:X.Ok){b:Addr}{o:Obj}(e:X.base.get? b=some o):b∉X.fs:=λhb=>by
 have:=(ok.dE.mem hb).1;rw [e] at this;cases this
theorem Inv.bs(I:Inv X pins σ H s):∀ b o,X.base.get? b=some o->s.heap.get? b=some o/\H b=none:=λb o e=>
 ⟨I.base.keep b o (I.ok.bs b o e).1 (I.ok.bs b o e).2 (I.ok.zy e)<|I.ok.jA b o e,I.base.free b o (I.ok.bs b o e).1 (I.ok.bs b o e).2<|I.ok.jA b o e⟩
theorem Inv.bk(I:Inv X pins σ H s):∀ b o,X.base.get? b=some o->s.heap.get? b=some o:=λb o e=>(I.bs b o e).1
theorem Inv.mod(I:Inv X pins σ H s):Mod X.K X.mg X.base:=I.ok.mod
theorem Inv.fP(I:Inv X pins σ H s):X.K.In s.heap:=I.ok.mod.qN.keeps I.bk
theorem Inv.lt(I:Inv X pins σ H s):X.env.locals < s.heap.objs.size:=let ⟨_,hn,_⟩:=I.loc;hn.lt
theorem Inv.sz(I:Inv X pins σ H s):X.s₀.heap.objs.size<=s.heap.objs.size:=By I.ok.above<|Cm I.lt
theorem Inv.zA(I:Inv X pins σ H s){a:Addr}(h:s.heap.objs.size<=a):a∉X.fs:=λhb=>by
 obtain⟨_,o,ho,_⟩:=I.ok.dE.mem hb;exact absurd (Bg (Au ho)<|By I.sz h)<|Cz _
theorem Inv.lg(I:Inv X pins σ H s):∀ x c,X.env.cells.lookup x=some c->c≠X.env.locals:=λx c e z=>by
 obtain⟨v,o,ho,hd⟩:=I.cell x c e;obtain⟨m,⟨o',es,ep,fI,oj,_⟩,_⟩:=I.loc;rw [z,fI] at ho;cases ho;rw [oj] at hd;cases hd
theorem Inv.dE(I:Inv X pins σ H s):s.heap.FunFrames X.base X.outer:=by
 have all:∀(l:List Env),(∀ b∈eF l,b∈X.fs)->X.s₀.heap.FunFrames X.base l->s.heap.FunFrames X.base l:=by
  intro l
  induction l with
  | nil=>intro _ _;trivial
  | cons env r ih=>
   intro hs hl;obtain⟨hk,⟨L,o,hf,hn,ho,hd⟩,hr⟩:=hl;have hL:L∈X.fs:=hs L (by unfold eF;rw [Dy,hf];exact Ae);obtain⟨sl,e⟩:=I.base.slot L o ho (I.ok.qO L hL) hL λz=>I.ok.k8 L z hL;exact⟨hk,⟨L,_,hf,hn,e,hd⟩,ih (λb hb=>hs b<|by unfold eF;rw [Dy,hf];exact Ah _ hb) hr⟩
 exact all X.outer (λ_ hb=>hb) I.ok.dE
theorem Inv.stack(I:Inv X pins σ H s):s.heap.FunFrames X.base X.stack:=by
 rcases I.ok.wG with e | ⟨e,hf⟩
 ·rw [e];exact I.dE
 ·rw [e];obtain⟨m,hn,_⟩:=I.loc;refine .cons (by rw [I.ok.kind];decide) hf hn ?_ I.dE;exact Heap.get?_none_of_le<|By I.ok.mQ I.ok.above
theorem Inv.fj(I:Inv X pins σ H s):∀ b∈eF X.stack,b∈X.env.locals :: X.fs:=λb hb=>by
 rcases I.ok.wG with e | ⟨e,hf⟩
 ·rw [e] at hb;exact Ah _ hb
 ·rw [e] at hb;unfold eF at hb;rw [Dy,hf] at hb;exact hb
theorem Inv.dw(I:Inv X pins σ H s):∀ b∈eF X.stack,H b=none:=λb hb=>by
 rcases Ai.mp (I.fj b hb) with e | hb
 ·rw [e];exact I.free
 ·obtain⟨_,o,ho,_⟩:=I.ok.dE.mem hb;exact I.base.free b o ho (I.ok.qO b hb) λz=>I.ok.k8 b z hb
theorem Inv.step{g':Array GenState}{t':Nat}{d':Drawn}{ch:List Addr}(I:Inv X pins σ H s)
  (kz:∀ b∈ch,(b∈X.ex\/X.s₀.heap.objs.size<=b)/\b≠X.env.locals/\(∀ x c,X.env.cells.lookup x=some c->c≠b)/\∀ p∈X.pn++pins,p.1≠b)
  (keep:∀ b o,b≠X.env.locals->b∉X.fs->b∉ch->s.heap.get? b=some o->H b=none->h'.get? b=some o)
  (slot:∀ b o,b≠X.env.locals->b∈X.fs->b∉ch->s.heap.get? b=some o->H b=none->∃ sl,h'.get? b=some {o with slots:=sl}) (free:∀ b o,b∉ch->s.heap.get? b=some o->H b=none->H' b=none)
  (there:∀ b o,b∉ch->s.heap.get? b=some o->∃ o',h'.get? b=some o')
  (fc:∀ b xs,H b=some (.tup xs)->H' b=some (.tup xs)) (d9:∀ b o u,H b=some (.bX o u)->H' b=some (.bX o u)) (fe:∀ b ps,H b=some (.mP ps)->∃ more,H' b=some (.mP<|ps++more))
  (ns:∀ m,s.heap.Ns X.env.locals m->h'.Ns X.env.locals m) (aH:b6 X.prog X.w H' h') (hg:AllBare g') :
  Inv X pins σ H' {s with heap:=h',gens:=g',drawn:=d',toks:=t'}:=by
 have La:∀ b o,X.s₀.heap.get? b=some o->b≠X.env.locals:=λb o e=>Bn<|Bg (Au e) I.ok.above;have wH:∀ b o,X.s₀.heap.get? b=some o->b∉X.ex->b∉ch:=λb o e hx hb=>by
  rcases (kz b hb).1 with z | z
  ·exact hx z
  ·exact absurd (Bg (Au e) z)<|Cz _
 have cellK:∀ x c,X.env.cells.lookup x=some c->∀ v,s.heap.IsCell c v->h'.IsCell c v:=λx c e v ⟨o,ho,hd⟩=>by
  have sP:c∉ch:=λz=>(kz c z).2.2.1 x c e rfl
  by_cases hc:c∈X.fs
  ·obtain⟨sl,q⟩:=slot c o (I.lg x c e) hc sP ho<|I.cf x c e;exact⟨_,q,hd⟩
  ·exact⟨o,keep c o (I.lg x c e) hc sP ho<|I.cf x c e,hd⟩
 refine⟨I.ok,I.os,hg,⟨λb o e n hb hx=>?_,λb o e n hb hx=>?_,λb o e n hx=>?_,λb o e hx=>?_,λb xs e=>fc b xs<|I.base.fc b xs e,λb o xs e=>d9 b o xs<|I.base.d9 b o xs e,λb ps e=>?_⟩,?_,λx c e=>?_,?_,λx c e=>?_,λp hp=>?_,aH,I.len⟩
 ·exact keep b o (La b o e) hb (wH b o e hx) (I.base.keep b o e n hb hx)<|I.base.free b o e n hx
 ·obtain⟨sl,e1⟩:=I.base.slot b o e n hb hx;obtain⟨wI,e2⟩:=slot b _ (La b o e) hb (wH b o e hx) e1<|I.base.free b o e n hx;exact⟨wI,e2⟩
 ·obtain⟨o',e1⟩:=I.base.there b o e hx;exact free b o' (wH b o e hx) e1<|I.base.free b o e n hx
 ·obtain⟨o',e1⟩:=I.base.there b o e hx;exact there b o' (wH b o e hx) e1
 ·obtain⟨m1,e1⟩:=I.base.fe b ps e;obtain⟨m2,e2⟩:=fe b _ e1;exact⟨m1++m2,by rw [e2,Array.append_assoc]⟩
 ·obtain⟨m,hn,hl⟩:=I.loc;refine⟨m,ns m hn,λi x v e1 e2 e3=>?_⟩;obtain⟨u,r,l⟩:=hl i x v e1 e2 e3;refine⟨u,r,?_⟩
  rcases l with l | ⟨k,c,e,z⟩
  ·exact .inl l
  ·exact .inr ⟨k,c,e,cellK x c e _ z⟩
 ·obtain⟨v,z⟩:=I.cell x c e;exact⟨v,cellK x c e v z⟩
 ·obtain⟨m,⟨o,_,_,ho,_⟩,_⟩:=I.loc;exact free _ o (λz=>(kz _ z).2.1 rfl) ho I.free
 ·obtain⟨v,o,ho,hd⟩:=I.cell x c e;exact free c o (λz=>(kz c z).2.2.1 x c e rfl) ho<|I.cf x c e
 ·obtain⟨e,n,ne,nf,d⟩:=I.pin p hp;have sP:p.1∉ch:=λz=>(kz p.1 z).2.2.2 p hp rfl;exact⟨keep p.1 p.2 ne nf sP e n,free p.1 p.2 sP e n,ne,nf,d⟩
theorem Inv.un{t':Nat}(I:Inv X pins σ H s)(u:Un X.fs [] H H' s.heap h')(aH:b6 X.prog X.w H' h'):Inv X pins σ H' {s with heap:=h',toks:=t'}:=by
 obtain⟨m,⟨o,es,ep,ho,r⟩,_⟩:=id I.loc;obtain⟨sl,hL⟩:=u.any ho I.free (by simp);exact I.step (g':=s.gens) (d':=s.drawn) (ch:=[]) (λ_ z=>nomatch z) (λb o _ hb _ e n=>u.keep b o e n hb<|by simp) (λb o _ hb _ e n=>u.slot b o e n hb<|by simp) (λb o _ e n=>u.free b o e n<|by simp) (λb o _ e=>u.there b o e<|by simp) u.fc u.d9 u.fe (λm' hm=>by
  obtain⟨o',fJ,om,fI,r'⟩:=hm;rw [ho] at fI;cases fI;exact⟨_,fJ,om,hL,r'⟩) aH I.bare
theorem Inv.call{g':Array GenState}{t':Nat}{d':Drawn}{ch:List Addr}(I:Inv X pins σ H s)(u:Un (eF X.stack) ch H H' s.heap h')(aH:b6 X.prog X.w H' h')(hg:AllBare g')
  (kz:∀ b∈ch,(b∈X.ex\/X.s₀.heap.objs.size<=b)/\b≠X.env.locals/\(∀ x c,X.env.cells.lookup x=some c->c≠b)/\∀ p∈X.pn++pins,p.1≠b) :
  Inv X pins σ H' {s with heap:=h',gens:=g',drawn:=d',toks:=t'}:=by
 obtain⟨m,⟨o,es,ep,ho,r⟩,_⟩:=id I.loc;obtain⟨sl,hL⟩:=u.any ho I.free λz=>(kz _ z).2.1 rfl;exact I.step (ch:=ch) kz (λb o hL hb hc e n=>u.keep b o e n (λz=>(Ai.mp<|I.fj b z).elim hL hb) hc) (λb o _ _ hc e n=>u.any e n hc) (λb o hc e n=>u.free b o e n hc) (λb o hc e=>u.there b o e hc) u.fc u.d9 u.fe (λm' hm=>by
  obtain⟨o',fJ,om,fI,r'⟩:=hm;rw [ho] at fI;cases fI;exact⟨_,fJ,om,hL,r'⟩) aH hg
theorem Inv.turned{t':Nat}{it:Addr}(I:Inv X pins σ H s)(k:∀ b o,b≠it->s.heap.get? b=some o->h'.get? b=some o)(hn:H it=none)(hL:it≠X.env.locals)
  (h1:it∈X.ex\/X.s₀.heap.objs.size<=it) (h2:∀ x c,X.env.cells.lookup x=some c->c≠it) (h3:∀ p∈X.pn++pins,p.1≠it):Inv X pins σ H {s with heap:=h',toks:=t'}:=by
 have sQ:∀ b u,H b=some u->b≠it:=λb u e z=>by rw [z,hn] at e;cases e
 refine I.step (g':=s.gens) (d':=s.drawn) (ch:=[it]) (λb hb=>?_) (λb o _ _ hc e _=>k b o (λz=>hc<|by simp [z]) e) (λb o _ _ hc e _=>⟨o.slots,k b o (λz=>hc<|by simp [z]) e⟩) (λ_ _ _ _ n=>n)
  (λb o hc e=>⟨o,k b o (λz=>hc<|by simp [z]) e⟩) (λ_ _ e=>e) (λ_ _ _ e=>e) (λb ps e=>⟨#[],by rw [e];simp⟩) (λm hm=>?_) (λb u e=>?_) I.bare
 ·have e:b=it:=by simpa using hb
  subst e;exact⟨h1,hL,h2,h3⟩
 ·obtain⟨o,es,ep,ho,r⟩:=hm;exact⟨o,es,ep,k _ o (CK hL) ho,r⟩
 ·refine(I.aH b u e).gU (λc v hc q=>k c v ?_ q) (λ_ q=>q) λ_ _ q=>q
  rcases hc with z | z
  ·rw [z];exact sQ b u e
  ·exact sQ c _ z
theorem Inv.tok(I:Inv X pins σ H s)(t:Nat):Inv X pins σ H {s with toks:=t}:=I.un (h':=s.heap) (t':=t) Un.refl I.aH
theorem Inv.kept{t':Nat}(I:Inv X pins σ H s)(k:∀ b u,s.heap.get? b=some u->h'.get? b=some u):Inv X pins σ H {s with heap:=h',toks:=t'}:=I.un (Un.kept k)<|I.aH.kept k
theorem Inv.laid{a:Addr}{o:HO}{t':Nat}(I:Inv X pins σ H s)(k:∀ b u,s.heap.get? b=some u->h'.get? b=some u)(hp:s.heap.objs.size<=a)(new:aC X.prog X.w (upd H a o) h' a o) :
  Inv X pins σ (upd H a o) {s with heap:=h',toks:=t'}:=I.un (Un.laid k hp<|I.aH.fresh hp)<|I.aH.laid k hp new
theorem Inv.write{x e:Addr}{o:HO}{t':Nat}(I:Inv X pins σ H s)(mu:sM<|H x)(he:e=x\/H e=some (.own x))(k:∀ b u,b≠e->s.heap.get? b=some u->h'.get? b=some u)(qM:∃ u,h'.get? e=some u)
  (new:aC X.prog X.w (upd H x o) h' x o):Inv X pins σ (upd H x o) {s with heap:=h',toks:=t'}:=I.un (Un.write mu he k qM)<|I.aH.write mu he k qM new
theorem Inv.ic{mR:List (Addr×Obj)}(I:Inv X pins σ H s)(h:∀ p∈mR,s.heap.get? p.1=some p.2/\H p.1=none/\p.1≠X.env.locals/\p.1∉X.fs/\∀ v,p.2.data ≠ .cell v):Inv X mR σ H s:=
 ⟨I.ok,I.os,I.bare,I.base,I.loc,I.cell,I.free,I.cf,λp hp=>(Am.mp hp).elim (λz=>I.pin p<|Bd _ z)<|h p,I.aH,I.len⟩
theorem Lb{N:List Str}(hN:N.Nodup){i j:Nat}{x:Str}(a:N[i]?=some x)(b:N[j]?=some x):i=j:=by
 obtain⟨h1,e1⟩:=Ac.mp a;obtain⟨h2,e2⟩:=Ac.mp b;exact(Gg hN).mp<|e1.trans e2.symm
theorem Uu{M:Model}{A:Around}{E:Value->Shared->Prop}{i:Nat}{x:Str}{v:V}{u:Value}{Q:Unit->Shared->Prop}(I:Inv X pins σ H s)(hN:X.N.Nodup)(hi:X.N[i]?=some x)(hx:Loc X.env.scope x)(r:RelV v u)
  (h:∀ s',Inv X pins (σ.set i<|some v) H s'->(∃ a,Heap.SameBut a s.heap s'.heap/\(a=X.env.locals\/X.env.cells.lookup x=some a))->Q () s') (hf:X.fn x=true\/X.env.scope.names.lookup x=some .local:=by first | exact .inl rfl | exact .inr rfl | assumption):wpAny M A (storeName X.env x u) Q E s:=by
 obtain⟨m,hn,hl⟩:=id I.loc;have zB:(X.env.scope.kind == .class || (X.env.scope.kind == .module && X.env.locals != X.env.globals))=false:=by rw [I.ok.kind];rfl
 have hiσ:i < σ.length:=by rw [I.len];exact(Ac.mp hi).1
 have lg:=I.lg;have tracked:∀{a:Addr} {h':Heap},(∃ o,s.heap.get? a=some o/\H a=none)->Heap.SameBut a s.heap h'->b6 X.prog X.w H h':=λ{a h'} ha hs b ob e=>by
  obtain⟨_,_,mS⟩:=ha;refine(I.aH b ob e).gU (λc w' hc q=>(hs.2 c ?_).trans q) (λ_ q=>q) λ_ _ q=>q;rintro rfl
  rcases hc with rfl | hc
  ·rw [mS] at e;cases e
  ·rw [mS] at hc;cases hc
 rcases hx with hk | hk
 ·refine wpAny_storeName_local hk hn (λh' wJ hs=>?_) zB;obtain⟨oL,_,_,jB,_⟩:=id hn;refine h _ ⟨I.ok,I.os,I.bare,⟨λb o e n hb hx=>?_,λb o e n hb hx=>?_,I.base.free,λb o e hx=>?_,I.base.fc,I.base.d9,I.base.fe⟩,⟨_,wJ,λj y v' e1 e2 e3=>?_⟩,λy c e=>?_,I.free,I.cf,λp hp=>?_,tracked ⟨oL,jB,I.free⟩ hs,by simpa using I.len⟩ ⟨_,hs,.inl rfl⟩
  ·exact(hs.2 b<|Bn<|Bg (Au e) I.ok.above).trans<|I.base.keep b o e n hb hx
  ·obtain⟨sl,e1⟩:=I.base.slot b o e n hb hx;exact⟨sl,(hs.2 b<|Bn<|Bg (Au e) I.ok.above).trans e1⟩
  ·obtain⟨o',e1⟩:=I.base.there b o e hx;exact⟨o',(hs.2 b<|Bn<|Bg (Au e) I.ok.above).trans e1⟩
  ·by_cases hj:j=i
   ·subst hj;rw [hi] at e1;cases e1;rw [SX hiσ] at e2;cases e2;exact⟨u,r,.inl ⟨hk,by simp⟩⟩
   ·rw [List.getElem?_set_ne<|CK hj] at e2;obtain⟨u',r',q⟩:=hl j y v' e1 e2 e3;refine⟨u',r',?_⟩
    rcases q with ⟨k,e⟩ | ⟨k,c,e,z⟩
    ·refine .inl ⟨k,?_⟩;have:y≠x:=λe=>hj<|Lb hN e1<|e ▸ hi;simp [this,e]
    ·exact .inr ⟨k,c,e,z.sameBut hs<|lg y c e⟩
  ·obtain⟨w',z⟩:=I.cell y c e;exact⟨w',z.sameBut hs<|lg y c e⟩
  ·obtain⟨e,n,ne,nf,d⟩:=I.pin p hp;exact⟨(hs.2 p.1 ne).trans e,n,ne,nf,d⟩
 ·have zC:X.fn x=true:=by
   rcases hf with z | z
   ·exact z
   ·rw [z] at hk;cases hk
  obtain⟨c,hc⟩:=I.ok.has x<|.inl hk;obtain⟨w',z⟩:=I.cell x c hc;refine wpAny_storeName_cell I.ok.kind hk hc z λh' bj hs=>?_;obtain⟨oc,Lc,zD⟩:=id z;refine h {s with heap:=h'} ⟨I.ok,I.os,I.bare,⟨λb o e n hb hx=>?_,λb o e n hb hx=>?_,I.base.free,λb o e hx=>?_,I.base.fc,I.base.d9,I.base.fe⟩,⟨m,hn.sameBut hs<|CK<|lg x c hc,λj y v' e1 e2 e3=>?_⟩,λy c' e=>?_,I.free,I.cf,λp hp=>?_,tracked ⟨oc,Lc,I.cf x c hc⟩ hs,by simpa using I.len⟩ ⟨c,hs,.inr hc⟩
  ·exact(hs.2 b<|Bn<|Bg (Au e)<|I.ok.sO x c zC hc).trans<|I.base.keep b o e n hb hx
  ·obtain⟨sl,e1⟩:=I.base.slot b o e n hb hx;exact⟨sl,(hs.2 b<|Bn<|Bg (Au e)<|I.ok.sO x c zC hc).trans e1⟩
  ·obtain⟨o',e1⟩:=I.base.there b o e hx;exact⟨o',(hs.2 b<|Bn<|Bg (Au e)<|I.ok.sO x c zC hc).trans e1⟩
  ·by_cases hj:j=i
   ·subst hj;rw [hi] at e1;cases e1;rw [SX hiσ] at e2;cases e2;exact⟨u,r,.inr ⟨.inl hk,c,hc,bj⟩⟩
   ·rw [List.getElem?_set_ne<|CK hj] at e2;obtain⟨u',r',q⟩:=hl j y v' e1 e2 e3;refine⟨u',r',?_⟩
    rcases q with q | ⟨k,c',e,z'⟩
    ·exact .inl q
    ·refine .inr ⟨k,c',e,z'.sameBut hs ?_⟩;rintro rfl;exact hj<|Lb hN e1<|I.ok.inj _ _ _ e hc ▸ hi
  ·by_cases ie:c'=c
   ·subst ie;exact⟨_,bj⟩
   ·obtain⟨w2,z2⟩:=I.cell y c' e;exact⟨w2,z2.sameBut hs ie⟩
  ·obtain⟨e,n,ne,nf,d⟩:=I.pin p hp;refine⟨(hs.2 p.1 ?_).trans e,n,ne,nf,d⟩;intro q;rw [q,Lc] at e;have q':oc=p.2:=Option.some.inj e;exact d w'<|by rw [<- q'];exact zD
theorem Ld{M:Model}{A:Around}{E:Value->Shared->Prop}{i:Nat}{x:Str}{v:V}{u:Value}{Q:Unit->Shared->Prop}(I:Inv X pins σ H s)(hN:X.N.Nodup)(hi:X.N[i]?=some x)(hx:Loc X.env.scope x)(r:RelV v u)
  (h:∀ s',Inv X pins (σ.set i<|some v) H s'->Q () s') (hf:X.fn x=true\/X.env.scope.names.lookup x=some .local:=by first | exact .inl rfl | exact .inr rfl | assumption):wpAny M A (storeName X.env x u) Q E s:=
 Uu I hN hi hx r (λs' I' _=>h s' I') hf
theorem Inv.call'{s':Shared}{ch:List Addr}(I:Inv X pins σ H s)(ho:s'.os=s.os)(u:Un (eF X.stack) ch H H' s.heap s'.heap)(aH:b6 X.prog X.w H' s'.heap)(hg:AllBare s'.gens)
  (kz:∀ b∈ch,(b∈X.ex\/X.s₀.heap.objs.size<=b)/\b≠X.env.locals/\(∀ x c,X.env.cells.lookup x=some c->c≠b)/\∀ p∈X.pn++pins,p.1≠b):Inv X pins σ H' s':=by
 obtain⟨h',g',d',t',o'⟩:=s';have e:o'=s.os:=ho;subst e;exact I.call (g':=g') (t':=t') (d':=d') u aH hg kz
end
abbrev XK:=Value->Option Addr->Hp->Prop
abbrev St:=List<|Option V
abbrev VK:=V->Hp->Prop
abbrev TE:=St->Hp->VK->Prop
abbrev TT:=St->Hp->(Bool->Hp->Prop)->Prop
abbrev TA:=St->Hp->(List V->Hp->Prop)->Prop
structure Ends where
 nx:St->Hp->Prop
 rt:VK
 bk:St->Hp->Prop:=λ_ _=>False
 ct:St->Hp->Prop:=λ_ _=>False
abbrev TS:=Ends->St->Hp->Prop
def EP(X:Cx)(pins:List<|Addr×Obj)(σ:St)(Q:VK)(u:Value)(s':Shared):Prop:=∃ v H',Inv X pins σ H' s'/\RelV v u/\Q v H'
def TP(X:Cx)(pins:List<|Addr×Obj)(σ:St)(Q:Bool->Hp->Prop)(b:Bool)(s':Shared):Prop:=∃ H',Inv X pins σ H' s'/\Q b H'
def AP(X:Cx)(pins:List<|Addr×Obj)(σ:St)(Q:List V->Hp->Prop)(us:List Value)(s':Shared):Prop:=∃ vs H',Inv X pins σ H' s'/\aw vs us/\Q vs H'
def SP(X:Cx)(pins:List<|Addr×Obj)(D:Ends)(f:Flow)(s':Shared):Prop:=
 match f with
 | .next=>∃ σ' H',Inv X pins σ' H' s'/\D.nx σ' H'
 | .brk=>∃ σ' H',Inv X pins σ' H' s'/\D.bk σ' H'
 | .cont=>∃ σ' H',Inv X pins σ' H' s'/\D.ct σ' H'
 | .ret u=>∃ v σ' H',Inv X pins σ' H' s'/\RelV v u/\D.rt v H'
def PE(X:Cx)(e:Expr)(t:TE):Prop:=
 ∀(pins:List<|Addr×Obj) (s:Shared) (σ:St) (H:Hp) (Q:VK),Inv X pins σ H s->t σ H Q->wpAny (model X.prog X.w) X.A (eval e X.env) (EP X pins σ Q) X.xe s
def PT(X:Cx)(e:Expr)(t:TT):Prop:=
 ∀(pins:List<|Addr×Obj) (s:Shared) (σ:St) (H:Hp) (Q:Bool->Hp->Prop),Inv X pins σ H s->t σ H Q->wpAny (model X.prog X.w) X.A (isTrue e X.env<|eval e X.env) (TP X pins σ Q) X.xe s
def PW(X:Cx)(e:Expr)(t:TT):Prop:=
 ∀(whole:Sem Value) (pins:List<|Addr×Obj) (s:Shared) (σ:St) (H:Hp) (Q:Bool->Hp->Prop),Inv X pins σ H s->t σ H Q->wpAny (model X.prog X.w) X.A (isTrue e X.env whole) (TP X pins σ Q) X.xe s
def PA(X:Cx)(es:List Expr)(t:TA):Prop:=
 ∀(pos:Pos) (pins:List<|Addr×Obj) (s:Shared) (σ:St) (H:Hp) (Q:List V->Hp->Prop),Inv X pins σ H s->t σ H Q->wpAny (model X.prog X.w) X.A (spliced<|backTo pos<|starEach es X.env) (AP X pins σ Q) X.xe s
def PS(X:Cx)(st:Stmt)(t:TS):Prop:=
 ∀(pins:List<|Addr×Obj) (s:Shared) (σ:St) (H:Hp) (D:Ends),Inv X pins σ H s->t D σ H->wpAny (model X.prog X.w) X.A (exec st X.env) (SP X pins D) X.xe s
def iN(X:Cx)(st:List Stmt)(t:TS):Prop:=
 ∀(pins:List<|Addr×Obj) (s:Shared) (σ:St) (H:Hp) (D:Ends),Inv X pins σ H s->t D σ H->wpAny (model X.prog X.w) X.A (execs st X.env) (SP X pins D) X.xe s
theorem aP{α:Type}{t:Sem α}{Q Q':α->Shared->Prop}{M:Model}{A:Around}{E:Value->Shared->Prop}{s:Shared}(h:wpAny M A t Q E s)(hQ:∀ a s,Q a s->Q' a s):wpAny M A t Q' E s:=CT h hQ λ_ _ x=>x
section
variable{X:Cx}
theorem bin{a b:Expr}{ta tb:TE}(ha:PE X a ta)(hb:PE X b tb){pins:List (Addr×Obj)}{s:Shared}{σ:St}{H:Hp}{R:V->V->Hp->Prop}(I:Inv X pins σ H s)(h:ta σ H λx H1=>tb σ H1 λy H2=>R x y H2)
  {α:Type} {Q:α->Shared->Prop} {f:Value->Value->Sem α}
  (hf:∀ v u s2 x y H2,Inv X pins σ H2 s2->RelV x v->RelV y u->R x y H2->wpAny (model X.prog X.w) X.A (f v u) Q X.xe s2) :
  wpAny (model X.prog X.w) X.A (eval a X.env) (λv s₁=>wpAny (model X.prog X.w) X.A (eval b X.env) (λu s₂=>wpAny (model X.prog X.w) X.A (f v u) Q X.xe s₂) X.xe s₁) X.xe s:=by
 refine aP (ha pins s σ H _ I h) λv s1 ⟨x,H1,I1,r1,q1⟩=>?_;refine aP (hb pins s1 σ H1 _ I1 q1) λu s2 ⟨y,H2,I2,r2,q2⟩=>?_;exact hf v u s2 x y H2 I2 r1 r2 q2
def zE(i:Nat):TE:=λσ H Q=>∃ v,σ[i]?=some (some v)/\Q v H
def tC(v:V):TE:=λ_ H Q=>Q v H
theorem Uv{i:Nat}{x:Str}{pos:Pos}(hN:X.N[i]?=some x)(hv:zx X.env.scope x)(hd:(x == ("__debug__" : Str))=false:=by decide)(ig:(x == ("__classdict__" : Str))=false:=by decide):PE X (.Name x pos) (zE i):=by
 intro pins s σ H Q I h;obtain⟨v,e,h⟩:=h;obtain⟨m,hn,hl⟩:=I.loc;obtain⟨u,r,l⟩:=hl i x v hN e hv;have fin:EP X pins σ Q u s:=⟨v,H,I,r,h⟩
 rcases l with ⟨hk,hm⟩ | ⟨hk,c,hc,ii⟩
 ·exact wpAny_Name (wpAny_loadName_local I.ok.kind hk hn hm fin) hd
 ·rcases hk with hk | hk
  ·exact wpAny_Name (wpAny_loadName_cell I.ok.kind hk hc ii fin) hd
  ·exact wpAny_Name (wpAny_loadName_free I.ok.kind hk hc ii fin ig) hd
theorem Uw{i j pos}:PE X (.Constant (.int i) j pos) (tC<|.int i):=λ_ _ _ H _ I h=>wpAny_Constant_int ⟨.int i,H,I.tok _,⟨_,rfl⟩,h⟩
theorem Ux{b j pos}:PE X (.Constant (.bool b) j pos) (tC<|.bl b):=λ_ _ _ H _ I h=>Constant_bool ⟨.bl b,H,I,rfl,h⟩
theorem Uy{x j pos}:PE X (.Constant (.str x) j pos) (tC<|.str x):=λ_ _ _ H _ I h=>Calls.Constant_str ⟨.str x,H,I.tok _,⟨_,rfl⟩,h⟩
def Gl(X:Cx)(x:Str):Prop:=X.env.kindOf x=some .globalImplicit
theorem Le{E:Value->Shared->Prop}{pins:List (Addr×Obj)}{s:Shared}{σ:St}{H:Hp}{x:Str}{u:Value}{pos:Pos}{Q:Value->Shared->Prop}(I:Inv X pins σ H s)(hg:Gl X x)(hm:X.mg x=some u)(h:Q u s)
  (hd:(x == ("__debug__" : Str))=false:=by decide):wpAny (model X.prog X.w) X.A (eval (.Name x pos) X.env) Q E s:=
 Calls.Name_function_global I.ok.kind hg (Calls.loadGlobal_global (by rw [I.ok.glob];exact I.mod.glob.keeps I.bk) hm h) hd
theorem mU{E:Value->Shared->Prop}{pins:List (Addr×Obj)}{s:Shared}{σ:St}{H:Hp}{x:Str}{u:Value}{pos:Pos}{Q:Value->Shared->Prop}(I:Inv X pins σ H s)(hg:Gl X x)(hm:X.mg x=none)(hv:bootBuiltins x=some u)(h:Q u s)
  (hn:x ≠ "__name__":=by decide) (hd:(x == ("__debug__" : Str))=false:=by decide):wpAny (model X.prog X.w) X.A (eval (.Name x pos) X.env) Q E s:=by
 obtain⟨mb,h1,h2⟩:=I.mod.blt;exact Calls.Name_function_global I.ok.kind hg (Calls.loadGlobal_builtin (by rw [I.ok.glob];exact I.mod.glob.keeps I.bk) hm (by rw [I.ok.blt];exact h1.keeps I.bk) ((h2 x hn).trans hv) h) hd
theorem Uz{x:Str}{v:V}{u:Value}{pos:Pos}(hg:Gl X x)(hm:X.mg x=none)(hv:bootBuiltins x=some u)(r:RelV v u)(hn:x ≠ "__name__":=by decide)(hd:(x == ("__debug__" : Str))=false:=by decide):PE X (.Name x pos) (tC v):=
 λ_ _ _ H _ I h=>mU I hg hm hv ⟨v,H,I,r,h⟩ hn hd
variable{a b:Expr}{ta tb:TE}{pos:Pos}
def PC(X:Cx)(op:CmpOp)(a b:Expr)(t:TE):Prop:=
 ∀(pins:List<|Addr×Obj) (s:Shared) (σ:St) (H:Hp) (Q:VK),Inv X pins σ H s->t σ H Q ->
  wpAny (model X.prog X.w) X.A (eval a X.env) (λv s₁=>wpAny (model X.prog X.w) X.A (eval b X.env) (λu s₂=>wpAny (model X.prog X.w) X.A (compareOp op v u) (EP X pins σ Q) X.xe s₂) X.xe s₁) X.xe s
def tB(t:TE):TT:=λσ H Q=>t σ H λx H1=>∃ c,x = .bl c/\Q c H1
theorem UA{op:CmpOp}{t:TE}(h:PC X op a b t)(h1:behindInMarks op b=false:=by first | exact sR _ (by decide) (by decide) | rfl):PT X (.Compare a [op] [b] pos) (tB t):=by
 intro pins s σ H Q I hw;refine wpAny_isTrue_Compare1 (aP (h pins s σ H _ I hw) λv s1 h1=>aP h1 λu s2 h2=>aP h2 λc s3 ⟨x,H1,I1,r1,q1⟩=>?_) h1;obtain⟨d,rfl,q⟩:=q1;cases r1;exact GQ ⟨H1,I1,q⟩
theorem UB{e:Expr}{t:TE}(h:PE X e t)(he:∀ whole,isTrue e X.env whole=(do let v <- whole;standAt e.pos;holding [v] (truthy v)):=by intro _;rfl):PT X e (tB t):=by
 intro pins s σ H Q I hw;refine isTrue_plain (aP (h pins s σ H _ I hw) λv s1 ⟨x,H1,I1,r1,q1⟩=>?_)<|he _;obtain⟨d,rfl,q⟩:=q1;cases r1;exact GQ ⟨H1,I1,q⟩
variable{tA wK:TT}{rest:List Expr}
def zF(t u:TT):TT:=λσ H Q=>t σ H λc H1=>if c=true then u σ H1 Q else Q false H1
def UC(t u:TT):TT:=λσ H Q=>t σ H λc H1=>if c=true then Q true H1 else u σ H1 Q
def zG(t:TT):TT:=λσ H Q=>t σ H λc H1=>Q (!c) H1
theorem UD(ha:PT X a tA):PW X (.BoolOp .And [a] pos) tA:=by
 intro wh pins s σ H Q I h;refine isTrue_and<|aP (ha pins s σ H Q I h) λc s1 e=>?_;cases c with
 | true=>exact isTrue_and_nil e
 | false=>exact e
theorem UE(ha:PT X a tA):PW X (.BoolOp .Or [a] pos) tA:=by
 intro wh pins s σ H Q I h;refine isTrue_or<|aP (ha pins s σ H Q I h) λc s1 e=>?_;cases c with
 | false=>exact isTrue_or_nil e
 | true=>exact e
theorem UH(ha:PT X a tA)(hb:PW X (.BoolOp .And (b :: rest) pos) wK):PW X (.BoolOp .And (a :: b :: rest) pos) (zF tA wK):=by
 intro wh pins s σ H Q I h;refine isTrue_and<|aP (ha pins s σ H _ I h) λc s1 ⟨H1,I1,q1⟩=>?_;cases c with
 | true=>exact hb wh pins s1 σ H1 Q I1 q1
 | false=>exact⟨H1,I1,q1⟩
theorem UI(ha:PT X a tA)(hb:PW X (.BoolOp .Or (b :: rest) pos) wK):PW X (.BoolOp .Or (a :: b :: rest) pos) (UC tA wK):=by
 intro wh pins s σ H Q I h;refine isTrue_or<|aP (ha pins s σ H _ I h) λc s1 ⟨H1,I1,q1⟩=>?_;cases c with
 | true=>exact⟨H1,I1,q1⟩
 | false=>exact hb wh pins s1 σ H1 Q I1 q1
theorem UK(ha:PT X a tA):PT X (.UnaryOp .Not a pos) (zG tA):=by
 intro pins s σ H Q I h;exact isTrue_not<|ha pins s σ H (λc H1=>Q (!c) H1) I h
def UM(t:TT)(ta tb:TE):TE:=λσ H Q=>t σ H λc H1=>if c=true then ta σ H1 Q else tb σ H1 Q
theorem UN{c:Expr}(hc:PT X c tA)(ha:PE X a ta)(hb:PE X b tb):PE X (.IfExp c a b pos) (UM tA ta tb):=by
 intro pins s σ H Q I h;refine wpAny_IfExp<|aP (hc pins s σ H _ I h) λd s1 ⟨H1,I1,q1⟩=>?_;cases d with
 | true=>exact ha pins s1 σ H1 Q I1 q1
 | false=>exact hb pins s1 σ H1 Q I1 q1
end
def aq(K:PySem.W.Frag)(H:Hp)(a:Addr)(xs:List V):Prop:=
 Rd H a (.lst xs) \/
  ∃(o:Obj) (its:Array Value) (n:Nat),K.lookup a=some o/\o.cls = .type "list"/\o.dict=none/\o.data = .seq its n/\its.size<=sizeLine/\aw xs its.toList
def aI(K:PySem.W.Frag)(H:Hp)(a:Addr)(xs:List V):Prop:=
 Rd H a (.tup xs) \/
  ∃(o:Obj) (its:Array Value) (n:Nat),K.lookup a=some o/\o.cls = .type "tuple"/\o.data = .seq its n/\its.size<=sizeLine/\aw xs its.toList
def zH:Value->Option V
 | .none=>some .non
 | .bool b=>some<|.bl b
 | .int i _=>some<|.int i
 | .str x _=>some<|.str x
 | .bytes b _=>some<|.iM b
 | .float b _=>some<|.qL b
 | .ref a=>some<|.ref a
 | .type n=>some<|.ty n
 | _=>none
theorem RelV.abs{x:V}{u:Value}(r:RelV x u):zH u=some x:=by
 cases x with
 | non=>cases r;rfl
 | bl _=>cases r;rfl
 | int _=>obtain⟨t,rfl⟩:=r;rfl
 | str _=>obtain⟨t,rfl⟩:=r;rfl
 | iM _=>obtain⟨t,rfl⟩:=r;rfl
 | qL _=>obtain⟨t,rfl⟩:=r;rfl
 | ref _=>cases r;rfl
 | ty _=>cases r;rfl
theorem RelV.inj{x y:V}{u:Value}(r:RelV x u)(q:RelV y u):x=y:=Option.some.inj<|r.abs.symm.trans q.abs
theorem aw.inj:∀{xs ys:List V} {us:List Value},aw xs us->aw ys us->xs=ys
 | _,_,_,.nil,.nil=>rfl
 | _,_,_,.cons r t,.cons r' t'=>by rw [r.inj r',aw.inj t t']
section
variable{X:Cx}{pins:List (Addr×Obj)}{σ:St}{H:Hp}{s:Shared}{a:Addr}{xs ys:List V}
theorem aq.of{K:PySem.W.Frag}(h:H a=some (.lst xs)):aq K H a xs:= .inl<|.inl h
theorem aI.of{K:PySem.W.Frag}(h:H a=some (.tup xs)):aI K H a xs:= .inl<|.inl h
theorem Inv.list(I:Inv X pins σ H s)(h:aq X.K H a xs):∃ its:List Value,aw xs its/\PlainL s.heap a its.toArray/\xs.length<=sizeLine:=by
 rcases h with h | ⟨o,its,n,hk,hc,hd,hs,hz,r⟩
 ·obtain⟨z,its,n,r,e⟩:=h.ok I.aH;exact⟨its,r,⟨_,n,e,rfl,rfl,rfl⟩,z⟩
 ·refine⟨its.toList,r,⟨o,n,I.fP a o hk,hc,hd,by simpa using hs⟩,?_⟩;have e:=r.length;simp only [Br] at e;omega
theorem Inv.tuple(I:Inv X pins σ H s)(h:aI X.K H a xs):∃ its:List Value,aw xs its/\IsTup s.heap a its.toArray/\xs.length<=sizeLine:=by
 rcases h with h | ⟨o,its,n,hk,hc,hs,hz,r⟩
 ·obtain⟨z,its,r,p⟩:=h.ok I.aH;exact⟨its,r,p,z⟩
 ·refine⟨its.toList,r,⟨o,I.fP a o hk,hc,n,by simpa using hs⟩,?_⟩;have e:=r.length;simp only [Br] at e;omega
theorem Inv.cO(I:Inv X pins σ H s)(h:aq X.K H a xs)(h':aq X.K H a ys):xs=ys:=by
 obtain⟨its,r,⟨o,n,e,_,_,d⟩,_⟩:=I.list h;obtain⟨its',r',⟨o',n',e',_,_,d'⟩,_⟩:=I.list h';rw [e] at e';cases e';rw [d] at d'
 injection d' with d1 _
 have:its=its':=by simpa using BZ Array.toList d1
 subst this;exact r.inj r'
theorem Inv.iO(I:Inv X pins σ H s)(h:aI X.K H a xs)(h':aI X.K H a ys):xs=ys:=by
 obtain⟨its,r,⟨o,e,_,n,d⟩,_⟩:=I.tuple h;obtain⟨its',r',⟨o',e',_,n',d'⟩,_⟩:=I.tuple h';rw [e] at e';cases e';rw [d] at d'
 injection d' with d1 _
 have:its=its':=by simpa using BZ Array.toList d1
 subst this;exact r.inj r'
end
abbrev Cx.eG(X:Cx)(E:Value->Shared->Prop):Cx:={X with xe:=E}
abbrev Cx.qP(X:Cx):Cx:=X.eG λ_ _=>False
theorem Cx.Ok.eG{X:Cx}(ok:X.Ok)(E:Value->Shared->Prop):(X.eG E).Ok:=
 ⟨ok.mod,ok.kind,ok.glob,ok.blt,ok.above,ok.inj,ok.has,ok.sO,ok.hd,ok.frames,ok.wG,ok.K',ok.bs,ok.mQ,ok.jA,ok.k8,ok.dE,ok.qO⟩
theorem Cx.Ok.cg{X:Cx}{E:Value->Shared->Prop}(ok:(X.eG E).Ok):X.Ok:=
 ⟨ok.mod,ok.kind,ok.glob,ok.blt,ok.above,ok.inj,ok.has,ok.sO,ok.hd,ok.frames,ok.wG,ok.K',ok.bs,ok.mQ,ok.jA,ok.k8,ok.dE,ok.qO⟩
section
variable{X:Cx}{pins:List (Addr×Obj)}{σ:St}{H:Hp}{s:Shared}{E:Value->Shared->Prop}
theorem Inv.eG(I:Inv X pins σ H s)(E:Value->Shared->Prop):Inv (X.eG E) pins σ H s:=⟨I.ok.eG E,I.os,I.bare,I.base,I.loc,I.cell,I.free,I.cf,I.pin,I.aH,I.len⟩
theorem Inv.cg(I:Inv (X.eG E) pins σ H s):Inv X pins σ H s:=⟨I.ok.cg,I.os,I.bare,I.base,I.loc,I.cell,I.free,I.cf,I.pin,I.aH,I.len⟩
theorem SP.cg{D:Ends}{f:Flow}{s':Shared}(h:SP (X.eG E) pins D f s'):SP X pins D f s':=by
 cases f with
 | next=>obtain⟨σ',H',I,q⟩:=h;exact⟨σ',H',I.cg,q⟩
 | brk=>obtain⟨σ',H',I,q⟩:=h;exact⟨σ',H',I.cg,q⟩
 | cont=>obtain⟨σ',H',I,q⟩:=h;exact⟨σ',H',I.cg,q⟩
 | ret u=>obtain⟨v,σ',H',I,r,q⟩:=h;exact⟨v,σ',H',I.cg,r,q⟩
theorem iN.qP{st:List Stmt}{t:TS}(h:iN X.qP st t):iN X st t:=λpins s σ H D I hw=>
 CT (h pins s σ H D (I.eG _) hw) (λ_ _ q=>q.cg) λ_ _ z=>False.elim z
end
section
variable{X:Cx}{st:Stmt}{rest:List Stmt}{t u:TS}{e:Expr}{te:TE}{pos:Pos}
def UO:TS:=λD σ H=>D.nx σ H
def zI(t u:TS):TS:=λD σ H=>t {D with nx:=u D} σ H
theorem UP:iN X [] UO:=λ_ _ σ H _ I h=>RW ⟨σ,H,I,h⟩
theorem UQ(h1:PS X st t)(h2:iN X rest u):iN X (st :: rest) (zI t u):=by
 intro pins s σ H D I h;refine wpAny_execs_cons<|aP (h1 pins s σ H {D with nx:=u D} I h) λf s1 q=>?_;cases f with
 | next=>
  obtain⟨σ',H',I',q⟩:=q;exact h2 pins s1 σ' H' D I' q
 | ret v=>exact q
 | brk=>exact q
 | cont=>exact q
theorem Inv.quiet{pins:List (Addr×Obj)}{σ:St}{H:Hp}{s:Shared}(I:Inv X pins σ H s):interactive X.env=false:=by simp [interactive,I.ok.kind]
def UR(te:TE):TS:=λD σ H=>te σ H λ_ H1=>D.nx σ H1
theorem UT(he:PE X e te)(hs:swapsWith e none pos.line X.env=pure false:=by rfl):PS X (.Expr e pos) (UR te):=by
 intro pins s σ H D I h;exact wpAny_Expr_any (aP (he pins s σ H _ I h) λv s1 ⟨x,H1,I1,r1,q1⟩=>⟨σ,H1,I1,q1⟩) I.quiet hs
def zJ(te:TE):TS:=λD σ H=>te σ H D.rt
theorem UU(he:PE X e te):PS X (.Return (some e) pos) (zJ te):=by
 intro pins s σ H D I h;exact wpAny_Return_some<|aP (he pins s σ H _ I h) λv s1 ⟨x,H1,I1,r1,q1⟩=>⟨x,σ,H1,I1,r1,q1⟩
def zK(c:TT)(t u:TS):TS:=λD σ H=>c σ H λb H1=>if b=true then t D σ H1 else u D σ H1
theorem UX{c:Expr}{a b:List Stmt}{tc:TT}(hc:PT X c tc)(ha:iN X a t)(hb:iN X b u):PS X (.If c a b pos) (zK tc t u):=by
 intro pins s σ H D I h;refine wpAny_If<|aP (hc pins s σ H _ I h) λd s1 ⟨H1,I1,q1⟩=>?_;cases d with
 | true=>exact ha pins s1 σ H1 D I1 q1
 | false=>exact hb pins s1 σ H1 D I1 q1
end
abbrev TG:=V->St->Hp->(St->Hp->Prop)->Prop
abbrev oo:=List V->St->Hp->(St->Hp->Prop)->Prop
def PG(X:Cx)(target:Expr)(t:TG):Prop:=
 ∀(pins:List<|Addr×Obj) (s:Shared) (σ:St) (H:Hp) (v:V) (u:Value) (Q:St->Hp->Prop),Inv X pins σ H s->RelV v u->t v σ H Q ->
  wpAny (model X.prog X.w) X.A (assign target X.env u) (λ_ s'=>∃ σ' H',Inv X pins σ' H' s'/\Q σ' H') X.xe s
def wL(X:Cx)(ts:List Expr)(t:oo):Prop:=
 ∀(pins:List<|Addr×Obj) (s:Shared) (σ:St) (H:Hp) (vs:List V) (us:List Value) (Q:St->Hp->Prop),Inv X pins σ H s->aw vs us->t vs σ H Q ->
  wpAny (model X.prog X.w) X.A (assignInOrder ((assignEach ts X.env).map (·.2)) us) (λ_ s'=>∃ σ' H',Inv X pins σ' H' s'/\Q σ' H') X.xe s
section
variable{X:Cx}{pos:Pos}
def Lf(i:Nat):TG:=λv σ H Q=>Q (σ.set i<|some v) H
theorem UY{i:Nat}{x:Str}(hN:X.N.Nodup)(hi:X.N[i]?=some x)(hx:Loc X.env.scope x)(hf:X.fn x=true\/X.env.scope.names.lookup x=some .local:=by first | exact .inl rfl | exact .inr rfl | assumption):PG X (.Name x pos) (Lf i):=by
 intro pins s σ H v u Q I r h;exact wpAny_assign_Name<|Ld I hN hi hx r (λs' I'=>⟨_,H,I',h⟩) hf
def oq:oo:=λvs σ H Q=>vs=[]/\Q σ H
def qR(t:TG)(u:oo):oo:=λvs σ H Q=>∃ v r,vs=v :: r/\t v σ H λσ' H'=>u r σ' H' Q
theorem Lg:wL X [] oq:=by
 intro pins s σ H vs us Q I r h;obtain⟨e,h⟩:=h;subst e;cases r;exact assignInOrder_nil ⟨σ,H,I,h⟩
theorem sS{e:Expr}{es:List Expr}{t:TG}{u:oo}(h1:PG X e t)(h2:wL X es u)
  (hs:(assignEach (e :: es) X.env).map (·.2)=assign e X.env :: (assignEach es X.env).map (·.2):=by rfl):wL X (e :: es) (qR t u):=by
 intro pins s σ H vs us Q I r h;obtain⟨v,vr,e1,h⟩:=h;subst e1;cases r with
 | cons r rr=>
  rw [hs];refine assignInOrder_cons<|aP (h1 pins s σ H _ _ _ I r h) λ_ s1 ⟨σ1,H1,I1,q1⟩=>?_;exact h2 pins s1 σ1 H1 _ _ Q I1 rr q1
def zL(K:PySem.W.Frag)(n:Nat)(t:oo):TG:=λv σ H Q=>∃ a xs,v = .ref a/\aI K H a xs/\xs.length=n/\t xs σ H Q
theorem Lh{es:List Expr}{k:Nat}{t:oo}{n:Nat}(hc:X.calm=true)(h:wL X es t)
  (hn:(assignEach es X.env).length=n:=by rfl) (db:(assignEach es X.env).findIdx? (·.1)=none:=by rfl):PG X (.Tuple es k pos) (zL X.K n t):=by
 intro pins s σ H v u Q I r hw;obtain⟨a,xs,e1,hq,hl,hw⟩:=hw;subst e1;cases r;obtain⟨its,rv,ht,hz⟩:=I.tuple hq;refine assign_Tuple_tuple (I.ok.hd hc) ht (by simp [hn,<- hl,rv.length]) db λh' hx=>?_;have I1:Inv X pins σ H {s with heap:=h'}:=I.kept (t':=s.toks) λb o e=>hx b o (Bn<|Au e) e;exact h pins _ σ H xs _ Q I1 (by simpa using rv) hw
def sU(te:TE)(g:TG):TS:=λD σ H=>te σ H λx H1=>g x σ H1 D.nx
theorem UZ{tg e:Expr}{te:TE}{g:TG}(he:PE X e te)(hg:PG X tg g)(hs:swapsWithSole [tg] e pos.line X.env=pure false:=by rfl)(hw:swappedStores [tg] e X.env=pure none:=by rfl)
  (h1:(assignEach [tg] X.env).map (·.2)=[assign tg X.env]:=by rfl):PS X (.Assign [tg] e pos) (sU te g):=by
 intro pins s σ H D I h;refine wpAny_Assign_stores (aP (he pins s σ H _ I h) λv s1 ⟨x,H1,I1,r1,q1⟩=>?_) hs hw;rw [h1];exact aP (hg pins s1 σ H1 x v _ I1 r1 q1) λ_ s2 q=>q
theorem U0{i:Nat}{x:Str}{e:Expr}{te:TE}{pos':Pos}(hN:X.N.Nodup)(hi:X.N[i]?=some x)(hx:Loc X.env.scope x)(he:PE X e te)(hs:swapsWith e (some<|.Name x pos') pos.line X.env=pure false:=by rfl)(hf:X.fn x=true\/X.env.scope.names.lookup x=some .local:=by first | exact .inl rfl | exact .inr rfl | assumption) :
  PS X (.Assign [.Name x pos'] e pos) (sU te<|Lf i):=by
 intro pins s σ H D I h;refine wpAny_Assign_Name (aP (he pins s σ H _ I h) λv s1 ⟨y,H1,I1,r1,q1⟩=>?_) hs;exact Ld I1 hN hi hx r1 (λs2 I2=>⟨_,H1,I2,q1⟩) hf
def U1(c:TT)(tb:TS):TS:=λD σ H=>∃ W:Nat->St->Hp->Prop,(∃ m,W m σ H)/\∀ m σ H,W m σ H ->
 c σ H λb H1=>if b=true then ∃ N:St->Hp->Prop,(∀ σ' H',N σ' H'->∃ m',m' < m/\W m' σ' H')/\tb {D with nx:=N,ct:=N,bk:=D.nx} σ H1 else D.nx σ H1
theorem U2{c:Expr}{body:List Stmt}{tc:TT}{tb:TS}(hp:PassesOwn (model X.prog X.w) X.A X.env X.xe)(hc:PT X c tc)(hb:iN X body tb):PS X (.While c body [] pos) (U1 tc tb):=by
 intro pins s σ H D I h;obtain⟨W,⟨m0,w0⟩,turn⟩:=h;refine wpAny_While<|codeAny_whileLoop (λn s'=>∃ σ' H',Inv X pins σ' H' s'/\W n σ' H') ?_ m0 ⟨σ,H,I,w0⟩;rintro n s1 ⟨σ1,H1,I1,w1⟩;refine IK hp<|aP (hc pins s1 σ1 H1 _ I1<|turn n σ1 H1 w1) λb s2 ⟨H2,I2,q2⟩=>?_;cases b with
 | true=>
  obtain⟨N,hN,q2⟩:=q2;rw [BP rfl];refine IK hp<|aP (hb pins s2 σ1 H2 _ I2 q2) λf s3 q3=>?_;cases f with
  | next=>
   obtain⟨σ3,H3,I3,n3⟩:=q3;obtain⟨m',hm,w3⟩:=hN σ3 H3 n3;exact⟨m',hm,σ3,H3,I3,w3⟩
  | cont=>
   obtain⟨σ3,H3,I3,n3⟩:=q3;obtain⟨m',hm,w3⟩:=hN σ3 H3 n3;exact⟨m',hm,σ3,H3,I3,w3⟩
  | brk=>exact q3
  | ret v=>exact q3
 | false=>
  rw [BK Av];exact RW ⟨σ1,H2,I2,q2⟩
end
structure It where
 go:Nat->Hp->Prop
 sV:Nat->Hp->V->Hp->Prop
 stop:Nat->Hp->Prop
def b7(X:Cx)(pins:List<|Addr×Obj)(H:Hp)(b:Addr):Prop:=
 H b=none/\b≠X.env.locals/\b∉X.fs/\(b∈X.ex\/X.s₀.heap.objs.size<=b)/\(∀ x c,X.env.cells.lookup x=some c->c≠b)/\∀ p∈X.pn++pins,p.1≠b
theorem Inv.iP{X:Cx}{pins:List (Addr×Obj)}{σ:St}{H H':Hp}{s:Shared}{b:Addr}(I:Inv X pins σ H s)(hb:s.heap.objs.size<=b)(hn:H' b=none):b7 X pins H' b:=by
 refine⟨hn,Cs<|Bg I.lt hb,I.zA hb,.inr<|By I.sz hb,λx c e z=>?_,λp hp z=>?_⟩
 ·obtain⟨v,q⟩:=I.cell x c e;exact absurd (Bg q.lt<|by rw [z];exact hb)<|Cz _
 ·exact absurd (Bg (Au (I.pin p hp).1)<|by rw [z];exact hb)<|Cz _
structure Turn(P:Program)(w:World)(K:PySem.W.Frag)(tg:Expr)(J:It)(fp:List Addr)(it:Addr)(tn:Nat->Heap->Prop):Prop where
 mem:it∈fp
 obj:∀ i h,tn i h->∀ b∈fp,∃ o,h.get? b=some o/\∀ v,o.data ≠ .cell v
 keep:∀ i h h',tn i h->(∀ b∈fp,∀ o,h.get? b=some o->h'.get? b=some o)->tn i h'
 item:∀(X:Cx),X.prog=P->X.w=w->X.K=K->X.calm=true->∀(i:Nat) (pins:List<|Addr×Obj) (s:Shared) (σ:St) (H:Hp) (E:Value->Shared->Prop),Inv X pins σ H s->(∀ b∈fp,b7 X pins H b)->tn i s.heap->J.go i H ->
  wpAny (model P w) X.A (pyNext<|.ref it) (λr s1=>∃ u,r=some u /\
   wpAny (model P w) X.A (letOwnedTupleGo tg (.ref it) u) (λ_ s2=>∃ x H',Inv X pins σ H' s2/\RelV x u/\J.sV i H x H'/\tn (i+1) s2.heap/\∀ b∈fp,H' b=none) E s1) E s
 done:∀(X:Cx),X.prog=P->X.w=w->X.K=K->X.calm=true->∀(i:Nat) (pins:List<|Addr×Obj) (s:Shared) (σ:St) (H:Hp) (E:Value->Shared->Prop),Inv X pins σ H s->(∀ b∈fp,b7 X pins H b)->tn i s.heap->J.stop i H ->
  wpAny (model P w) X.A (pyNext<|.ref it) (λr s1=>r=none/\Inv X pins σ H s1) E s
 self:∀(A:Around) (i:Nat) (s:Shared) (Q:Value->Shared->Prop) (E:Value->Shared->Prop),tn i s.heap->Q (.ref it) s->wpAny (model P w) A (pyIter<|.ref it) Q E s
abbrev TI:=St->Hp->(It->Hp->Prop)->Prop
def Li(X:Cx)(pins:List<|Addr×Obj)(σ:St)(tg:Expr)(R:It->Hp->Prop)(lh:Value)(s2:Shared):Prop:=
 ∃(it:Addr) (fp:List Addr) (tn:Nat->Heap->Prop) (J:It) (H':Hp),lh = .ref it/\Inv X pins σ H' s2/\Turn X.prog X.w X.K tg J fp it tn/\tn 0 s2.heap/\(∀ b∈fp,b7 X pins H' b)/\R J H'
def PI(X:Cx)(tg iter:Expr)(wi:TI):Prop:=
 ∀(pins:List<|Addr×Obj) (s:Shared) (σ:St) (H:Hp) (R:It->Hp->Prop),Inv X pins σ H s->wi σ H R ->
  wpAny (model X.prog X.w) X.A (eval iter X.env) (λv s1=>wpAny (model X.prog X.w) X.A (pyIter v) (Li X pins σ tg R) X.xe s1) X.xe s
theorem zM{M:Model}{A:Around}{E:Value->Shared->Prop}{s:Shared}{tg:Expr}{it:Addr}{u:Value}{o:Obj}{n:String}{vs:Array Value}{Q:Unit->Shared->Prop}(ho:s.heap.get? it=some o)(hc:o.cls = .type n)(hd:o.data = .fields vs)
    (hn:["enumerate","zip","dict_itemiterator","dict_reverseitemiterator","odict_iterator","itertools.zip_longest","itertools.pairwise"].contains n=false) (hQ:Q () s):wpAny M A (letOwnedTupleGo tg (.ref it) u) Q E s:=by
  unfold letOwnedTupleGo;cases tg <;> first
    | exact BL hQ
    | (cases u <;> first
        | exact BL hQ
        | (refine BJ<|wpAny_load ho ?_
           rw [hc,hd];show wpAny M A (if(["enumerate","zip","dict_itemiterator","dict_reverseitemiterator","odict_iterator","itertools.zip_longest","itertools.pairwise"].contains n && vs[0]? == some (rawInt _))=true then _ else _) Q E s;rw [BK<|by intro h;rw [hn,TX] at h;cases h];exact BL hQ))
def ou(K:PySem.W.Frag)(a:Addr):It:=
 ⟨λi H=>∃ xs x,aq K H a xs/\xs[i]?=some x,λi H x H'=>H'=H/\∀ xs,aq K H a xs->xs[i]?=some x,λi H=>∃ xs,aq K H a xs/\xs.length<=i⟩
def wM(K:PySem.W.Frag)(a:Addr):It:=
 ⟨λi H=>∃ xs x,aI K H a xs/\xs[i]?=some x,λi H x H'=>H'=H/\∀ xs,aI K H a xs->xs[i]?=some x,λi H=>∃ xs,aI K H a xs/\xs.length<=i⟩
def qS(lo:Int)(n:Nat):It:=⟨λi _=>i < n,λi H x H'=>H'=H/\x = .int (lo+i),λi _=>n<=i⟩
theorem U3{P:Program}{w:World}{K:PySem.W.Frag}{tg:Expr}(a it:Addr):Turn P w K tg (ou K a) [it] it (λi h=>h.IsListIter it a i) where
 mem:=by simp
 obj:=λi h st b hb=>by
  have e:b=it:=by simpa using hb
  subst e;obtain⟨o,e,c,d⟩:=st;exact⟨o,e,λv z=>by rw [d] at z;cases z⟩
 keep:=λi h h' st k=>st.at λo e=>k it (by simp) o e
 item:=by
  intro X hP hw hK hc i pins s σ H E I hf st hg;subst hP hw hK;obtain⟨xs,x,hq,hx⟩:=hg;obtain⟨its,rv,p,hz⟩:=I.list hq;obtain⟨u,hu,ru⟩:=rv.get hx;obtain⟨f0,f1,f2,f3,f4,f5⟩:=hf it (by simp);refine wpAny_pyNext_list_item st p.isList (x:=u) (by simpa using hu) λh' dA sb=>?_;have I1:Inv X pins σ H {s with heap:=h'}:=I.turned (t':=s.toks) (λb o hb e=>(sb.2 b hb).trans e) f0 f1 f3 f4 f5;obtain⟨o,e,c,d⟩:=id dA;exact⟨u,rfl,zM (s:={s with heap:=h'}) e c d (by decide) ⟨x,H,I1,ru,⟨rfl,λys hy=>by rw [I.cO hy hq];exact hx⟩,dA,λb hb=>(hf b hb).1⟩⟩
 done:=by
  intro X hP hw hK hc i pins s σ H E I hf st hg;subst hP hw hK;obtain⟨xs,hq,hx⟩:=hg;obtain⟨its,rv,p,hz⟩:=I.list hq;obtain⟨f0,f1,f2,f3,f4,f5⟩:=hf it (by simp);have hl:=rv.length;exact wpAny_pyNext_list_end (I.ok.hd hc) st p.isList (by simp;omega) λh' eb=>⟨rfl,I.turned (t':=s.toks) (λb o hb e=>eb b o hb e) f0 f1 f3 f4 f5⟩
 self:=λ_ _ _ _ _ st h=>wpAny_pyIter_listiter st h
theorem U4{P:Program}{w:World}{K:PySem.W.Frag}{tg:Expr}(a it:Addr):Turn P w K tg (wM K a) [it] it (λi h=>h.IsTupleIter it a i) where
 mem:=by simp
 obj:=λi h st b hb=>by
  have e:b=it:=by simpa using hb
  subst e;obtain⟨o,e,c,d⟩:=st;exact⟨o,e,λv z=>by rw [d] at z;cases z⟩
 keep:=λi h h' st k=>st.at λo e=>k it (by simp) o e
 item:=by
  intro X hP hw hK hc i pins s σ H E I hf st hg;subst hP hw hK;obtain⟨xs,x,hq,hx⟩:=hg;obtain⟨its,rv,p,hz⟩:=I.tuple hq;obtain⟨u,hu,ru⟩:=rv.get hx;obtain⟨f0,f1,f2,f3,f4,f5⟩:=hf it (by simp);refine wpAny_pyNext_tuple_item st (show s.heap.IsTuple a its.toArray from p) (x:=u) (by simpa using hu) λh' dA sb=>?_;have I1:Inv X pins σ H {s with heap:=h'}:=I.turned (t':=s.toks) (λb o hb e=>(sb.2 b hb).trans e) f0 f1 f3 f4 f5;obtain⟨o,e,c,d⟩:=id dA;exact⟨u,rfl,zM (s:={s with heap:=h'}) e c d (by decide) ⟨x,H,I1,ru,⟨rfl,λys hy=>by rw [I.iO hy hq];exact hx⟩,dA,λb hb=>(hf b hb).1⟩⟩
 done:=by
  intro X hP hw hK hc i pins s σ H E I hf st hg;subst hP hw hK;obtain⟨xs,hq,hx⟩:=hg;obtain⟨its,rv,p,hz⟩:=I.tuple hq;obtain⟨f0,f1,f2,f3,f4,f5⟩:=hf it (by simp);have hl:=rv.length;exact wpAny_pyNext_tuple_end (I.ok.hd hc) st (show s.heap.IsTuple a its.toArray from p) (by simp;omega) λh' eb=>⟨rfl,I.turned (t':=s.toks) (λb o hb e=>eb b o hb e) f0 f1 f3 f4 f5⟩
 self:=λ_ _ _ _ _ st h=>wpAny_pyIter_tupleiter st h
theorem U5{P:Program}{w:World}{K:PySem.W.Frag}{tg:Expr}(it:Addr)(lo:Int)(n:Nat):Turn P w K tg (qS lo n) [it] it (λi h=>IsRangeIter h it (lo+(i:Nat) * 1) ((n:Int) - (i:Nat)) 1) where
 mem:=by simp
 obj:=λi h st b hb=>by
  have e:b=it:=by simpa using hb
  subst e;exact⟨_,st,λv z=>by
   have z':Data.fields _=Data.cell v:=z;cases z'⟩
 keep:=λi h h' st k=>k it (by simp) _ st
 item:=by
  intro X hP hw hK hc i pins s σ H E I hf st hg;subst hP hw hK;obtain⟨f0,f1,f2,f3,f4,f5⟩:=hf it (by simp);have W:=Walks.range (prog:=X.prog) (w:=X.w) (I.ok.hd hc) it lo 1 n;refine W.item i s _ _ hg st λv h' tk hv dA kk=>?_;obtain⟨t,rfl⟩:=hv;have I1:Inv X pins σ H {s with heap:=h',toks:=tk}:=I.turned (λb o hb e=>kk b o (by simpa using hb) e) f0 f1 f3 f4 f5;refine⟨_,rfl,zM (s:={s with heap:=h',toks:=tk}) (n:= "range_iterator") dA rfl rfl (by decide) ⟨.int<|lo+i,H,I1,⟨t,?_⟩,⟨rfl,rfl⟩,dA,λb hb=>(hf b hb).1⟩⟩;rw [Int.mul_one]
 done:=by
  intro X hP hw hK hc i pins s σ H E I hf st hg;subst hP hw hK;obtain⟨f0,f1,f2,f3,f4,f5⟩:=hf it (by simp);exact wpAny_pyNext_range_end (I.ok.hd hc) st (by have:n<=i:=hg;omega) λh' eb=>⟨rfl,I.turned (t':=s.toks) (λb o hb e=>eb b o hb e) f0 f1 f3 f4 f5⟩
 self:=λ_ _ _ _ _ st h=>wpAny_pyIter_rangeiter st h
section
variable{X:Cx}{tg:Expr}
def U6(K:PySem.W.Frag)(tl:TE):TI:=λσ H R=>tl σ H λx H1=>∃ a,x = .ref a/\(∃ xs,aq K H1 a xs)/\R (ou K a) H1
def zN(K:PySem.W.Frag)(tl:TE):TI:=λσ H R=>tl σ H λx H1=>∃ a,x = .ref a/\(∃ xs,aI K H1 a xs)/\R (wM K a) H1
theorem fQ{l:Expr}{tl:TE}(hl:PE X l tl):PI X tg l (U6 X.K tl):=by
 intro pins s σ H R I h;refine aP (hl pins s σ H _ I h) λv s1 ⟨x,H1,I1,r1,q1⟩=>?_;obtain⟨a,e,⟨xs,hq⟩,q⟩:=q1;subst e;cases r1;obtain⟨its,rv,p,hz⟩:=I1.list hq;refine QS p.isList ?_;refine⟨s1.heap.objs.size,[s1.heap.objs.size],_,_,H1,rfl,I1.kept (t':=s1.toks) λb o e=>Ag _ e,U3 a _,⟨_,At _ rfl,rfl,rfl⟩,λb hb=>?_,q⟩;have e:b=s1.heap.objs.size:=by simpa using hb
 subst e;exact I1.iP (Al _)<|I1.aH.fresh<|Al _
theorem U7{l:Expr}{tl:TE}(hl:PE X l tl):PI X tg l (zN X.K tl):=by
 intro pins s σ H R I h;refine aP (hl pins s σ H _ I h) λv s1 ⟨x,H1,I1,r1,q1⟩=>?_;obtain⟨a,e,⟨xs,hq⟩,q⟩:=q1;subst e;cases r1;obtain⟨its,rv,p,hz⟩:=I1.tuple hq;refine wpAny_pyIter_tuple (show s1.heap.IsTuple a its.toArray from p) ?_;refine⟨s1.heap.objs.size,[s1.heap.objs.size],_,_,H1,rfl,I1.kept (t':=s1.toks) λb o e=>Ag _ e,U4 a _,⟨_,At _ rfl,rfl,rfl⟩,λb hb=>?_,q⟩;have e:b=s1.heap.objs.size:=by simpa using hb
 subst e;exact I1.iP (Al _)<|I1.aH.fresh<|Al _
theorem U8{pins:List (Addr×Obj)}{σ:St}{H:Hp}{s:Shared}{R:It->Hp->Prop}{E:Value->Shared->Prop}{lo hi:Int}{t u v:Tok}{tk:Nat}(I:Inv X pins σ H s)(h1:-(2 ^ 62)<=lo)(h2:lo < 2 ^ 62)(h3:-(2 ^ 62)<=hi)(h4:hi < 2 ^ 62)
  (q:R (qS lo (hi - lo).toNat) H):wpAny (model X.prog X.w) X.A (pyIter<|.ref s.heap.objs.size) (Li X pins σ tg R) E {s with heap:=s.heap.push {cls:= .type "range",data:= .fields #[.int lo t,.int hi u,.int 1 v]},toks:=tk}:=by
 refine wpAny_pyIter_range (IsRange.new ..) (small_one h1 h2 h3 h4) ?_;have I1:Inv X pins σ H {s with heap:=s.heap.push {cls:= .type "range",data:= .fields #[.int lo t,.int hi u,.int 1 v]},toks:=tk}:=I.kept λb o e=>Ag _ e;refine⟨(s.heap.push {cls:= .type "range",data:= .fields #[.int lo t,.int hi u,.int 1 v]}).objs.size,[(s.heap.push {cls:= .type "range",data:= .fields #[.int lo t,.int hi u,.int 1 v]}).objs.size],_,_,H,rfl,
  I1.kept (t':=tk) λb o e=>Ag _ e,U5 _ lo (hi - lo).toNat,?_,λb hb=>?_,q⟩
 ·have e1:lo+((0:Nat):Int) * 1=lo:=by simp
  have e2:(((hi - lo).toNat:Nat):Int) - ((0:Nat):Int)=Builtin.Range.rangeSize lo hi 1:=by rw [rangeSize_one];split <;> omega
  show IsRangeIter _ _ (lo+((0:Nat):Int) * 1) ((((hi - lo).toNat:Nat):Int) - ((0:Nat):Int)) 1;rw [e1,e2];exact At _ rfl
 ·have e:b=(s.heap.push {cls:= .type "range",data:= .fields #[.int lo t,.int hi u,.int 1 v]}).objs.size:=by simpa using hb
  subst e;exact I1.iP (Al _)<|I1.aH.fresh<|Al _
def Lj(ta:TA):TI:=λσ H R=>ta σ H λvs H1=>∃ j:Int,vs=[.int j]/\-(2 ^ 62)<=j/\j < 2 ^ 62/\R (qS 0 j.toNat) H1
theorem Ln{a:Expr}{ta:TA}{p pos:Pos}(hg:Gl X "range")(hm:X.mg "range" = none)(ha:PA X [a] ta)(hs:starEach [a] X.env=[(false,eval a X.env)]:=by rfl):PI X tg (.Call (.Name "range" p) [a] [] pos) (Lj ta):=by
 intro pins s σ H R I h;refine Call_<|mU I hg hm boot_range<|HX (aP (ha pos pins s σ H _ I h) λus s1 ⟨vs,H1,I1,r1,q1⟩=>?_) hs rfl;obtain⟨j,e,q1,q2,q⟩:=q1;subst e;cases r1 with
 | cons r rr=>
  cases rr;obtain⟨t,rfl⟩:=r;exact call_range_1<|U8 I1 (by omega) (by omega) q1 q2<|by simpa using q
def zO(wi:TI)(g:TG)(tb:TS):TS:=λD σ H=>wi σ H λJ H1=>∃ W:Nat->Nat->St->Hp->Prop,(∃ m,W 0 m σ H1)/\∀ i m σ H,W i m σ H ->
 (J.stop i H/\D.nx σ H)\/(J.go i H/\∃ N:St->Hp->Prop,(∀ σ' H',N σ' H'->∃ m',m' < m/\W (i+1) m' σ' H')/\∀ x H',J.sV i H x H'->g x σ H' λσ2 H2=>tb {D with nx:=N,ct:=N,bk:=D.nx} σ2 H2)
def sW(fp:List Addr)(h:Heap):List (Addr×Obj):=fp.filterMap λb=>(h.get? b).map λo=>(b,o)
theorem wN{fp:List Addr}{h:Heap}{b:Addr}{o:Obj}(hb:b∈fp)(e:h.get? b=some o):(b,o)∈sW fp h:=Fw.mpr ⟨b,hb,by rw [e];rfl⟩
theorem U9{fp:List Addr}{h:Heap}{p:Addr×Obj}(hp:p∈sW fp h):p.1∈fp/\h.get? p.1=some p.2:=by
 obtain⟨b,hb,e⟩:=Fw.mp hp;cases q:h.get? b with
 | none=>rw [q] at e;cases e
 | some o=>
  rw [q] at e;have e':(b,o)=p:=Option.some.inj e;subst e';exact⟨hb,q⟩
theorem Inv.pinned{pins:List (Addr×Obj)}{σ:St}{H:Hp}{s:Shared}{fp:List Addr}(I:Inv X pins σ H s)(hf:∀ b∈fp,b7 X pins H b)(ho:∀ b∈fp,∃ o,s.heap.get? b=some o/\∀ v,o.data ≠ .cell v):Inv X (pins++sW fp s.heap) σ H s:=
 I.ic λp hp=>(Am.mp hp).elim (λz=>I.pin p<|Ax _ z) λz=>by
  obtain⟨hb,e⟩:=U9 z;obtain⟨f0,f1,f2,_⟩:=hf p.1 hb;obtain⟨o,e',d⟩:=ho p.1 hb;rw [e] at e';cases e';exact⟨e,f0,f1,f2,d⟩
theorem Inv.cP{pins pl:List (Addr×Obj)}{σ:St}{H:Hp}{s:Shared}(I:Inv X (pins++pl) σ H s):Inv X pins σ H s:=I.ic λp hp=>I.pin p<|Ax _<|Bd _ hp
theorem U'{iter:Expr}{body:List Stmt}{wi:TI}{g:TG}{tb:TS}{pos:Pos}(hp:PassesOwn (model X.prog X.w) X.A X.env X.xe)(hc:X.calm=true)(hi:PI X tg iter wi)(hg:PG X tg g)(hb:iN X body tb)
  (hs:∀ x,foldedSetIterable iter X.env x=pure x:=by intro _;rfl):PS X (.For tg iter body [] pos) (zO wi g tb):=by
 intro pins s σ H D I h;refine wpAny_For (aP (hi pins s σ H _ I h) λv s1 h1=>aP h1 λlh s2 h2=>?_) hs;obtain⟨it,fp,tn,J,H2,e,I2,T,eV,f2,W,⟨m0,w0⟩,turn⟩:=h2;subst e;have stat:∀{H':Hp},(∀ b∈fp,H' b=none)->∀ b∈fp,b7 X pins H' b:=λhn b hb=>⟨hn b hb,(f2 b hb).2⟩;refine codeAny_forLoop_any (λn s'=>∃ i σ' H',Inv X pins σ' H' s'/\tn i s'.heap/\(∀ b∈fp,H' b=none)/\W i n σ' H') ?_ m0 ⟨0,σ,H2,I2,eV,λb hb=>(f2 b hb).1,w0⟩;rintro n s3 ⟨i,σ3,H3,I3,Lq,Lr,w3⟩
 rcases turn i n σ3 H3 w3 with ⟨stop,qn⟩ | ⟨go,N,hN,step⟩
 ·refine IK hp<|aP (T.done X rfl rfl rfl hc i pins s3 σ3 H3 X.xe I3 (stat Lr) Lq stop) λr s4 ⟨hr,I4⟩=>?_;subst hr;exact RW ⟨σ3,H3,I4,qn⟩
 ·refine IK hp<|aP (T.item X rfl rfl rfl hc i pins s3 σ3 H3 X.xe I3 (stat Lr) Lq go) λr s4 ⟨u,hr,h4⟩=>?_;subst hr;refine IK hp<|aP h4 λ_ s5 ⟨x,H5,I5,r5,y5,zP,Va⟩=>?_;have Vb:=I5.pinned (stat Va)<|T.obj _ _ zP;refine IK hp<|aP (hg _ s5 σ3 H5 x u _ Vb r5<|step x H5 y5) λ_ s6 ⟨σ6,H6,I6,q6⟩=>?_;refine IK hp<|aP (hb _ s6 σ6 H6 _ I6 q6) λf s7 q7=>?_;have again:∀{σ7:St} {H7:Hp},Inv X (pins++sW fp s5.heap) σ7 H7 s7->N σ7 H7->∃ m,m < n/\∃ i σ' H',Inv X pins σ' H' s7/\tn i s7.heap/\(∀ b∈fp,H' b=none)/\W i m σ' H':=λ{σ7 H7} I7 n7=>by
   obtain⟨m',hm,w7⟩:=hN σ7 H7 n7;refine⟨m',hm,i+1,σ7,H7,I7.cP,T.keep _ _ _ zP λb hb o e=>(I7.pin (b,o)<|Ax _<|Ax _<|wN hb e).1,λb hb=>?_,w7⟩;obtain⟨o,e,d⟩:=T.obj _ _ zP b hb;exact(I7.pin (b,o)<|Ax _<|Ax _<|wN hb e).2.1
  cases f with
  | next=>obtain⟨σ7,H7,I7,n7⟩:=q7;exact again I7 n7
  | cont=>obtain⟨σ7,H7,I7,n7⟩:=q7;exact again I7 n7
  | brk=>obtain⟨σ7,H7,I7,q7⟩:=q7;exact⟨σ7,H7,I7.cP,q7⟩
  | ret v=>obtain⟨x7,σ7,H7,I7,r7,q7⟩:=q7;exact⟨x7,σ7,H7,I7.cP,r7,q7⟩
end
abbrev R2:=V->V->Hp->VK->Prop
def cG(X:Cx)(f:Value->Value->Sem Value)(r:R2):Prop:=
 ∀(pins:List<|Addr×Obj) (s:Shared) (σ:St) (H:Hp) (x y:V) (v u:Value) (Q:VK),Inv X pins σ H s->RelV x v->RelV y u->r x y H Q ->
  wpAny (model X.prog X.w) X.A (f v u) (EP X pins σ Q) X.xe s
def wO(X:Cx)(f:Value->Sem Value)(r:V->Hp->VK->Prop):Prop:=
 ∀(pins:List<|Addr×Obj) (s:Shared) (σ:St) (H:Hp) (x:V) (v:Value) (Q:VK),Inv X pins σ H s->RelV x v->r x H Q ->
  wpAny (model X.prog X.w) X.A (f v) (EP X pins σ Q) X.xe s
def fT(X:Cx)(f:Value)(r:List V->Hp->VK->Prop):Prop:=
 ∀(pins:List<|Addr×Obj) (s:Shared) (σ:St) (H:Hp) (xs:List V) (us:List Value) (Q:VK),Inv X pins σ H s->aw xs us->r xs H Q ->
  wpAny (model X.prog X.w) X.A (call f us) (EP X pins σ Q) X.xe s
def zQ(X:Cx)(r:V->Hp->(Bool->Hp->Prop)->Prop):Prop:=
 ∀(pins:List<|Addr×Obj) (s:Shared) (σ:St) (H:Hp) (x:V) (v:Value) (Q:Bool->Hp->Prop),Inv X pins σ H s->RelV x v->r x H Q ->
  wpAny (model X.prog X.w) X.A (truthy v) (TP X pins σ Q) X.xe s
def wQ(r:R2)(ta tb:TE):TE:=λσ H Q=>ta σ H λx H1=>tb σ H1 λy H2=>r x y H2 Q
def Vc(r:V->Hp->VK->Prop)(ta:TE):TE:=λσ H Q=>ta σ H λx H1=>r x H1 Q
def rI(C:Int->Int->Prop)(g:Int->Int->V):R2:=λx y H Q=>∃ i j,x = .int i/\y = .int j/\C i j/\Q (g i j) H
def oz(g:Int->Int->V):R2:=λx y H Q=>∃ i j,x = .int i/\y = .int j/\Q (g i j) H
def rU(g:Int->V):V->Hp->VK->Prop:=λx H Q=>∃ i,x = .int i/\Q (g i) H
section
variable{X:Cx}{a b c:Expr}{ta tb tc:TE}{pos:Pos}
theorem oA(ha:PE X a ta)(hb:PE X b tb){pins:List (Addr×Obj)}{s:Shared}{σ:St}{H:Hp}{R:V->V->Hp->Prop}(I:Inv X pins σ H s)
  (h:ta σ H λx H1=>tb σ H1 λy H2=>R x y H2) {Q:Value->Shared->Prop} {f:Value->Value->Sem Value}
  (hf:∀ v u s2 x y H2,Inv X pins σ H2 s2->RelV x v->RelV y u->R x y H2->wpAny (model X.prog X.w) X.A (f v u) Q X.xe s2) :
  wpAny (model X.prog X.w) X.A (eval a X.env) (λv s₁=>wpAny (model X.prog X.w) X.A (eval b X.env) (λu s₂=>wpAny (model X.prog X.w) X.A (f v u) Q X.xe s₂) X.xe s₁) X.xe s:=by
 refine aP (ha pins s σ H _ I h) λv s1 ⟨x,H1,I1,r1,q1⟩=>?_;refine aP (hb pins s1 σ H1 _ I1 q1) λu s2 ⟨y,H2,I2,r2,q2⟩=>?_;exact hf v u s2 x y H2 I2 r1 r2 q2
theorem Vd{op:Operator}{r:R2}(ho:cG X (binaryOp op) r)(ha:PE X a ta)(hb:PE X b tb):PE X (.BinOp a op b pos) (wQ r ta tb):=by
 intro pins s σ H Q I h;exact wpAny_BinOp<|oA ha hb I h λv u s2 x y H2 I2 rx ry q=>ho pins s2 σ H2 x y v u Q I2 rx ry q
theorem Ve{op:UnaryOp}{r:V->Hp->VK->Prop}(ho:wO X (unaryOp op) r)(ha:PE X a ta):PE X (.UnaryOp op a pos) (Vc r ta):=by
 intro pins s σ H Q I h;exact UnaryOp_<|aP (ha pins s σ H _ I h) λv s1 ⟨x,H1,I1,r1,q1⟩=>ho pins s1 σ H1 x v Q I1 r1 q1
theorem wR{f:Value->Value->Sem Value}{C:Int->Int->Prop}{g:Int->Int->Int}
  (rule:∀(i j:Int) (t u:Tok) (s:Shared) (Q:Value->Shared->Prop) (E:Value->Shared->Prop),C i j->Q (.int (g i j) s.toks) {s with toks:=s.toks+1}->wpAny (model X.prog X.w) X.A (f (.int i t)<|.int j u) Q E s) :
  cG X f (rI C λi j=> .int<|g i j):=by
 intro pins s σ H x y v u Q I rx ry h;obtain⟨i,j,rfl,rfl,hc,q⟩:=h;obtain⟨t,rfl⟩:=rx;obtain⟨t',rfl⟩:=ry;exact rule i j t t' s _ _ hc ⟨.int<|g i j,H,I.tok _,⟨_,rfl⟩,q⟩
theorem sX{f:Value->Value->Sem Value}{g:Int->Int->Int}
  (rule:∀(i j:Int) (t u:Tok) (s:Shared) (Q:Value->Shared->Prop) (E:Value->Shared->Prop),Q (.int (g i j) s.toks) {s with toks:=s.toks+1}->wpAny (model X.prog X.w) X.A (f (.int i t)<|.int j u) Q E s) :
  cG X f (oz λi j=> .int<|g i j):=by
 intro pins s σ H x y v u Q I rx ry h;obtain⟨i,j,rfl,rfl,q⟩:=h;obtain⟨t,rfl⟩:=rx;obtain⟨t',rfl⟩:=ry;exact rule i j t t' s _ _ ⟨.int<|g i j,H,I.tok _,⟨_,rfl⟩,q⟩
theorem oB{f:Value->Value->Sem Value}{g:Int->Int->Bool}
  (rule:∀(i j:Int) (t u:Tok) (s:Shared) (Q:Value->Shared->Prop) (E:Value->Shared->Prop),Q (.bool<|g i j) s->wpAny (model X.prog X.w) X.A (f (.int i t)<|.int j u) Q E s) :
  cG X f (oz λi j=> .bl<|g i j):=by
 intro pins s σ H x y v u Q I rx ry h;obtain⟨i,j,rfl,rfl,q⟩:=h;obtain⟨t,rfl⟩:=rx;obtain⟨t',rfl⟩:=ry;exact rule i j t t' s _ _ ⟨.bl<|g i j,H,I,rfl,q⟩
def sY(i j:Int):Prop:=0 < j/\j < 1073741824
def zR(i j:Int):Prop:=0<=j/\j<=1000000/\i.natAbs < 2 ^ 64
def oD(i j:Int):Prop:=(-(2 ^ 64) < i/\i < 2 ^ 64)\/(-(2 ^ 64) < j/\j < 2 ^ 64)
theorem oD.ok{i j:Int}(h:oD i j):IntMulOk i j:=by
 rcases h with ⟨h1,h2⟩ | ⟨h1,h2⟩
 ·exact .of_left<|intBits_le_64 h1 h2
 ·exact .of_right<|intBits_le_64 h1 h2
theorem gG:cG X (binaryOp .Add) (oz λi j=> .int<|i+j):=sX λ_ _ _ _ _ _ _ q=>add_int q
theorem Vf:cG X (binaryOp .Sub) (oz λi j=> .int<|i - j):=sX λ_ _ _ _ _ _ _ q=>sub_int q
theorem wU:cG X (binaryOp .Mult) (rI oD λi j=> .int<|i * j):=wR λ_ _ _ _ _ _ _ hc q=>mul_int q hc.ok
theorem iQ:cG X (binaryOp .FloorDiv) (rI sY λi j=> .int<|i / j):=wR λi j _ _ _ _ _ hc q=>by
 have h1:(0:Int) < j:=hc.1;have h2:j < 1073741824:=hc.2;exact floordiv_int (by omega) (by rw [Int.fdiv_eq_ediv_of_nonneg i<|by omega];exact q)<|.inl<|PyProof.noPylong_small<|by omega
theorem cY:cG X (binaryOp .Mod) (rI (λ_ j=>0 < j) λi j=> .int<|i % j):=wR λi j _ _ _ _ _ hc q=>by
 have h1:(0:Int) < j:=hc;exact mod_int' (by omega)<|by rw [Int.fmod_eq_emod_of_nonneg i<|by omega];exact q
theorem Lv:cG X (binaryOp .Pow) (rI zR λi j=> .int<|i ^ j.toNat):=wR λ_ _ _ _ _ _ _ hc q=>pow_int_small hc.1 hc.2.1 hc.2.2 q
theorem Vg{f:Value->Sem Value}{g:Int->Int}
  (rule:∀(i:Int) (t:Tok) (s:Shared) (Q:Value->Shared->Prop) (E:Value->Shared->Prop),Q (.int (g i) s.toks) {s with toks:=s.toks+1}->wpAny (model X.prog X.w) X.A (f<|.int i t) Q E s) :
  wO X f (rU λi=> .int<|g i):=by
 intro pins s σ H x v Q I rx h;obtain⟨i,rfl,q⟩:=h;obtain⟨t,rfl⟩:=rx;exact rule i t s _ _ ⟨.int<|g i,H,I.tok _,⟨_,rfl⟩,q⟩
theorem Lw:wO X (unaryOp .USub) (rU λi=> .int (-i)):=Vg λ_ _ _ _ _ q=>neg_int q
def sZ:V->V->Bool
 | .non,.non=>true | .non,.int _=>true | .int _,.non=>true | .non,.bl _=>true | .bl _,.non=>true | .non,.str _=>true | .str _,.non=>true
 | .int _,.int _=>true | .bl _,.bl _=>true | .str _,.str _=>true | .iM _,.iM _=>true
 | .int _,.str _=>true | .str _,.int _=>true | .bl _,.str _=>true | .str _,.bl _=>true
 | _,_=>false
def Vh:R2:=λx y H Q=>sZ x y=true/\Q (.bl<|decide (x=y)) H
def Vi:R2:=λx y H Q=>sZ x y=true/\Q (.bl (!decide (x=y))) H
theorem Lx{i j:Int}:decide (V.int i=V.int j)=(i == j):=by
 rw [Ck];simp
theorem zS{i j:Bool}:decide (V.bl i=V.bl j)=(i == j):=by
 rw [Ck];simp
theorem Ly{i j:Str}:decide (V.str i=V.str j)=(i == j):=by
 rw [Ck];simp
theorem Lz{i j:Array UInt8}:decide (V.iM i=V.iM j)=(i.toList == j.toList):=by
 rw [Ck];cases i;cases j;simp
theorem cM{pins:List (Addr×Obj)}{σ:St}{H:Hp}{s:Shared}{Q:VK}{k k':Bool}(I:Inv X pins σ H s)(q:Q (.bl k) H)(e:k=k'):EP X pins σ Q (.bool k') s:=by
 subst e;exact⟨.bl k,H,I,rfl,q⟩
theorem jC:cG X (compareOp .Eq) Vh:=by
 intro pins s σ H x y v u Q I rx ry h;obtain⟨hs,q⟩:=h;cases x with
 | non=>
  cases rx;cases y with
  | non=>cases ry;exact PySem.EqNone.eq_none_none<|cM I q<|by simp
  | bl j=>cases ry;exact PySem.EqNone.eq_none_bool<|cM I q<|by simp
  | int j=>obtain⟨t',rfl⟩:=ry;exact PySem.EqNone.eq_none_int<|cM I q<|by simp
  | str j=>obtain⟨t',rfl⟩:=ry;exact PySem.EqNone.eq_none_str<|cM I q<|by simp
  | _=>exact absurd (show false=true from hs) Av
 | bl i=>
  cases rx;cases y with
  | non=>cases ry;exact PySem.EqNone.eq_bool_none<|cM I q<|by simp
  | bl j=>cases ry;exact eq_bool<|cM I q zS
  | str j=>obtain⟨t',rfl⟩:=ry;exact PySem.EqMixed.eq_bool_str<|cM I q<|by simp
  | _=>exact absurd (show false=true from hs) Av
 | int i=>
  obtain⟨t,rfl⟩:=rx;cases y with
  | non=>cases ry;exact PySem.EqNone.eq_int_none<|cM I q<|by simp
  | int j=>obtain⟨t',rfl⟩:=ry;exact eq_int<|cM I q Lx
  | str j=>obtain⟨t',rfl⟩:=ry;exact PySem.EqMixed.eq_int_str<|cM I q<|by simp
  | _=>exact absurd (show false=true from hs) Av
 | str i=>
  obtain⟨t,rfl⟩:=rx;cases y with
  | non=>cases ry;exact PySem.EqNone.eq_str_none<|cM I q<|by simp
  | bl j=>cases ry;exact PySem.EqMixed.eq_str_bool<|cM I q<|by simp
  | int j=>obtain⟨t',rfl⟩:=ry;exact PySem.EqMixed.eq_str_int<|cM I q<|by simp
  | str j=>obtain⟨t',rfl⟩:=ry;exact eq_str<|cM I q Ly
  | _=>exact absurd (show false=true from hs) Av
 | iM i=>
  obtain⟨t,rfl⟩:=rx;cases y with
  | iM j=>obtain⟨t',rfl⟩:=ry;exact PySem.W.eq_bytes<|cM I q Lz
  | _=>exact absurd (show false=true from hs) Av
 | _=>cases y <;> exact absurd (show false=true from hs) Av
theorem qT:cG X (compareOp .NotEq) Vi:=by
 intro pins s σ H x y v u Q I rx ry h;obtain⟨hs,q⟩:=h;cases x with
 | non=>
  cases rx;cases y with
  | non=>cases ry;exact PySem.EqNone.ne_none_none<|cM I q<|by simp
  | bl j=>cases ry;exact PySem.EqNone.ne_none_bool<|cM I q<|by simp
  | int j=>obtain⟨t',rfl⟩:=ry;exact PySem.EqNone.ne_none_int<|cM I q<|by simp
  | str j=>obtain⟨t',rfl⟩:=ry;exact PySem.EqNone.ne_none_str<|cM I q<|by simp
  | _=>exact absurd (show false=true from hs) Av
 | bl i=>
  cases rx;cases y with
  | non=>cases ry;exact PySem.EqNone.ne_bool_none<|cM I q<|by simp
  | bl j=>cases ry;exact ne_bool<|cM I q<|BZ not zS
  | str j=>obtain⟨t',rfl⟩:=ry;exact PySem.EqMixed.ne_bool_str<|cM I q<|by simp
  | _=>exact absurd (show false=true from hs) Av
 | int i=>
  obtain⟨t,rfl⟩:=rx;cases y with
  | non=>cases ry;exact PySem.EqNone.ne_int_none<|cM I q<|by simp
  | int j=>obtain⟨t',rfl⟩:=ry;exact ne_int<|cM I q<|BZ not Lx
  | str j=>obtain⟨t',rfl⟩:=ry;exact PySem.EqMixed.ne_int_str<|cM I q<|by simp
  | _=>exact absurd (show false=true from hs) Av
 | str i=>
  obtain⟨t,rfl⟩:=rx;cases y with
  | non=>cases ry;exact PySem.EqNone.ne_str_none<|cM I q<|by simp
  | bl j=>cases ry;exact PySem.EqMixed.ne_str_bool<|cM I q<|by simp
  | int j=>obtain⟨t',rfl⟩:=ry;exact PySem.EqMixed.ne_str_int<|cM I q<|by simp
  | str j=>obtain⟨t',rfl⟩:=ry;exact ne_str<|cM I q<|BZ not Ly
  | _=>exact absurd (show false=true from hs) Av
 | iM i=>
  obtain⟨t,rfl⟩:=rx;cases y with
  | iM j=>obtain⟨t',rfl⟩:=ry;exact PySem.W.ne_bytes<|cM I q<|BZ not Lz
  | _=>exact absurd (show false=true from hs) Av
 | _=>cases y <;> exact absurd (show false=true from hs) Av
theorem LA:cG X (compareOp .Lt) (oz λi j=> .bl<|decide (i < j)):=oB λ_ _ _ _ _ _ _ q=>lt_int q
theorem Vj:cG X (compareOp .Gt) (oz λi j=> .bl<|decide (j < i)):=oB λ_ _ _ _ _ _ _ q=>gt_int q
theorem Vk:cG X (compareOp .GtE) (oz λi j=> .bl<|decide (j<=i)):=oB λ_ _ _ _ _ _ _ q=>ge_int q
theorem Vl{op:CmpOp}{r:R2}(ho:cG X (compareOp op) r)(ha:PE X a ta)(hb:PE X b tb)(hm:behindInMarks op b=false):PE X (.Compare a [op] [b] pos) (wQ r ta tb):=by
 intro pins s σ H Q I h;exact wpAny_Compare1 (oA ha hb I h λv u s2 x y H2 I2 rx ry q=>ho pins s2 σ H2 x y v u Q I2 rx ry q) hm
def Vm(t:TE):TT:=λσ H Q=>t σ H λx H'=>∃ k,x = .bl k/\Q k H'
theorem Vn{op:CmpOp}{r:R2}(ho:cG X (compareOp op) r)(ha:PE X a ta)(hb:PE X b tb)(hm:behindInMarks op b=false):PT X (.Compare a [op] [b] pos) (Vm<|wQ r ta tb):=by
 intro pins s σ H Q I h;refine wpAny_isTrue_Compare1 (aP (ha pins s σ H _ I h) λv s1 ⟨x,H1,I1,r1,q1⟩=>aP (hb pins s1 σ H1 _ I1 q1) λu s2 ⟨y,H2,I2,r2,q2⟩=>
  aP (ho pins s2 σ H2 x y v u _ I2 r1 r2 q2) λc s3 ⟨z,H3,I3,r3,k,e,q3⟩=>?_) hm
 subst e;cases r3;exact GQ ⟨H3,I3,q3⟩
def oE(K:PySem.W.Frag)(x:V)(H:Hp)(k:Bool):Prop:=
 match x with
 | .non=>k=false
 | .bl b=>k=b
 | .int i=>k=(i != 0)
 | .str y=>y.length<=sizeLine/\k=((y.length:Int) != 0)
 | .iM y=>y.size<=sizeLine/\k=((y.size:Int) != 0)
 | .ref p=>(∃ xs,aq K H p xs/\k = !xs.isEmpty)\/(∃ xs,aI K H p xs/\k = !xs.isEmpty)\/∃ kvs,H p=some (.dK kvs)/\k = !kvs.isEmpty
 | _=>False
theorem Vo{κ:Type}{kvs:List (κ×V)}{vs:List (κ×Value)}(r:KV kvs vs):(!vs.isEmpty) = !kvs.isEmpty:=by
 cases r <;> rfl
theorem LD{xs:List V}{its:List Value}(r:aw xs its):(!its.toArray.isEmpty) = !xs.isEmpty:=by
 cases r <;> simp
theorem tj:(sizeLine:Nat) < 2 ^ 63:=by rw [DX];decide
theorem Vp:zQ X (λx H Q=>∃ k,oE X.K x H k/\Q k H):=by
 intro pins s σ H x v Q I rx h;obtain⟨k,e,q⟩:=h;have hl:=tj;have hs:sizeLine=16777216:=DX;cases x with
 | non=>
  cases rx;have e':k=false:=e;subst e';exact truthy_none ⟨H,I,q⟩
 | bl b=>
  cases rx;have e':k=b:=e;subst e';exact GQ ⟨H,I,q⟩
 | int i=>
  obtain⟨t,rfl⟩:=rx;have e':k=(i != 0):=e;subst e';exact PySem.P.truthy_int ⟨H,I,q⟩
 | str y=>
  obtain⟨t,rfl⟩:=rx;obtain⟨hy,e'⟩:y.length<=sizeLine/\k=((y.length:Int) != 0):=e;subst e';exact PySem.P.truthy_str (by omega) ⟨H,I.tok _,q⟩
 | iM y=>
  obtain⟨t,rfl⟩:=rx;obtain⟨hy,e'⟩:y.size<=sizeLine/\k=((y.size:Int) != 0):=e;subst e';exact PySem.W.truthy_bytes (by omega) ⟨H,I.tok _,q⟩
 | ref p=>
  cases rx;have e':(∃ xs,aq X.K H p xs/\k = !xs.isEmpty)\/(∃ xs,aI X.K H p xs/\k = !xs.isEmpty)\/∃ kvs,H p=some (.dK kvs)/\k = !kvs.isEmpty:=e
  rcases e' with ⟨xs,hx,e'⟩ | ⟨xs,hx,e'⟩ | ⟨kvs,hx,e'⟩
  ·subst e';obtain⟨its,r,pl,hz⟩:=I.list hx;have hlen:=r.length;exact wpAny_truthy_list pl.isList (by simp only [Aw];omega) ⟨H,I.tok _,by rw [LD r];exact q⟩
  ·subst e';obtain⟨its,r,pl,hz⟩:=I.tuple hx;have hlen:=r.length;exact truthy_tuple pl (by simp only [Aw];omega) ⟨H,I.tok _,by rw [LD r];exact q⟩
  ·subst e';obtain⟨hz,hS,vs,r,m⟩:kvs.length<=sizeLine/\(p == sysModules)=false/\∃ vs,KV kvs vs/\s.heap.DictOf (dh X.prog X.w) p vs:=I.aH p _ hx;have hlen:kvs.length=vs.length:=Paired.length r;exact wpAny_truthy_dict hS m (by omega) ⟨H,I.tok _,by rw [Vo r];exact q⟩
 | _=>exact(show False from e).elim
theorem Vq(ha:PE X a ta)(he:∀ whole,isTrue a X.env whole=(do let v <- whole;standAt a.pos;holding [v] (truthy v))) :
  PT X a (λσ H Q=>ta σ H λx H'=>∃ k,oE X.K x H' k/\Q k H'):=by
 intro pins s σ H Q I h;exact isTrue_plain (aP (ha pins s σ H _ I h) λv s1 ⟨x,H1,I1,r1,q1⟩=>Vp pins s1 σ H1 x v Q I1 r1 q1)<|he _
theorem Vr:cG X (binaryOp .Add) (λx y H Q=>∃ i j,x = .str i/\y = .str j/\i.length+j.length<=sizeLine/\Q (.str<|i++j) H):=by
 intro pins s σ H x y v u Q I rx ry h;obtain⟨i,j,rfl,rfl,hz,q⟩:=h;obtain⟨t,rfl⟩:=rx;obtain⟨t',rfl⟩:=ry;exact add_str (λt' tk=>⟨.str<|i++j,H,I.tok _,⟨_,rfl⟩,q⟩) hz
theorem vals1{x:V}{us:List Value}(r:aw [x] us):∃ u,us=[u]/\RelV x u:=by
 cases r with
 | cons r1 r2=>cases r2;exact⟨_,rfl,r1⟩
theorem vals2{x y:V}{us:List Value}(r:aw [x,y] us):∃ u w',us=[u,w']/\RelV x u/\RelV y w':=by
 cases r with
 | cons r1 r2=>
  cases r2 with
  | cons r3 r4=>cases r4;exact⟨_,_,rfl,r1,r3⟩
theorem LI(hc:X.calm=true):fT X (.builtin "max") (λxs H Q=>∃ i j,xs=[.int i,.int j]/\Q (.int (if j > i then j else i)) H):=by
 intro pins s σ H xs us Q I r h;obtain⟨i,j,rfl,q⟩:=h;obtain⟨u,w',rfl,⟨t,rfl⟩,⟨t',rfl⟩⟩:=vals2 r;refine max_two_ints (I.ok.hd hc) λh' tk k=>⟨_,H,I.kept k,?_,q⟩
 by_cases hj:j > i
 ·rw [BP hj,BP hj];exact⟨_,rfl⟩
 ·rw [BK hj,BK hj];exact⟨_,rfl⟩
end
structure oF(h:Heap)(x dx C:Addr)(mA:Str->Option Value):Prop where
 obj:h.get? x=some (PySem.W.instObj C dx)
 ns:h.Ns1 dx mA
 ne:dx≠x
theorem Vs{h:Heap}{dx:Addr}{mA:Str->Option Value}(n:h.Ns1 dx mA):∃ od,h.get? dx=some od/\∀ name,PySem.W.lookIn name od=some (mA name):=by
 obtain⟨o,es,ep,ho,hd,hk,_,hm⟩:=n;refine⟨o,ho,λname=>?_⟩;have e:=hm name;unfold nsFind findBy at e;rw [<- Array.find?_toList] at e;unfold PySem.W.lookIn;rw [hd]
 dsimp only
 split
 ·rename_i y q;rw [q] at e;exact BZ some e
 ·rename_i q;rw [q] at e;have a:es.toList.any (·.refKey)=false:=by
   rw [List.any_eq_false];intro y hy;obtain⟨z,t,zT⟩:=hk y<|Array.mem_toList_iff.mp hy;simp [DictEntry.refKey,zT]
  have a':¬ es.toList.any (·.refKey)=true:=by rw [a];exact Av
  rw [BK a'];exact BZ some e
theorem oF.look{h:Heap}{x dx C:Addr}{mA:Str->Option Value}(I:oF h x dx C mA):∃ od,PySem.W.InstAt h x (PySem.W.instObj C dx) C (some od)/\∀ name,PySem.W.lookIn name od=some (mA name):=
 let ⟨od,ho,hl⟩:=Vs I.ns
 ⟨od,⟨I.obj,rfl,rfl,ho⟩,hl⟩
section
variable{prog:Program}{w:World}{A:Around}{E:Value->Shared->Prop}{s:Shared}{K:PySem.W.Frag}{x dx C f:Addr}{mA:Str->Option Value}{name:Str}{v:Value}
end
theorem dD.some_of{v:V}{o:Option Value}(r:dD (some v) o):∃ u,o=some u/\RelV v u:=by
 cases o with
 | none=>exact(show False from r).elim
 | some u=>exact⟨u,rfl,r⟩
section
variable{P:Program}{w:World}{H H':Hp}{h h':Heap}{a C dx:Addr}{fs Uq:List (Str×V)}
theorem Vt(aH:b6 P w H h)(e:H a=some (.ins C dx fs)):∃ mA,oF h a dx C mA/\(∀ f,dD (fs.lookup f)<|mA f)/\PySem.Within mA (fs.map (·.1))/\fs.length<=1000/\H dx=some (.own a):=by
 obtain⟨d,z,ne,ob,mA,n,r,q⟩:=(show aC P w H h a (.ins C dx fs) from aH a _ e);exact⟨mA,⟨ob,n,ne⟩,r,q,z,d⟩
end
structure zU(K:PySem.W.Frag)(C:Addr):Prop where
 pg:PySem.W.plainGet K C Str.empty=true
 hd:PySem.W.hasDictIn K C=true
 po:PySem.W.plainOver K C=true
 sa:PySem.W.findIn K (.ref C) "__setattr__" = some (some<|.builtin "object.__setattr__")
theorem zU.get{K:PySem.W.Frag}{C:Addr}(c:zU K C)(f:Str):PySem.W.plainGet K C f=true:=c.pg
section
variable{X:Cx}{pins:List (Addr×Obj)}{σ:St}{H:Hp}{s:Shared}{a C dx:Addr}{fs:List (Str×V)}{f:Str}{v:V}{A:Around}{E:Value->Shared->Prop}
end
section
variable{X:Cx}{o e value:Expr}{f:Str}{pos pos' zV:Pos}{ta tv:TE}
end
section
variable{X:Cx}{pins:List (Addr×Obj)}{σ:St}{H:Hp}{s:Shared}{A:Around}{E:Value->Shared->Prop}{Q:Value->Shared->Prop}{c:Value}{b:Bool}
inductive cZ (K:PySem.W.Frag) (H:Hp):V->Value->Prop where
 | non:cZ K H .non<|.type "NoneType"
 | bl (x:Bool):cZ K H (.bl x)<|.type "bool"
 | int (i:Int):cZ K H (.int i)<|.type "int"
 | str (x:Str):cZ K H (.str x)<|.type "str"
 | qL (x:UInt64):cZ K H (.qL x)<|.type "float"
 | lst {a:Addr} {xs:List V} (e:H a=some (.lst xs)):cZ K H (.ref a)<|.type "list"
 | bX {a:Addr} {o:Obj} {xs:List V} (e:H a=some (.bX o<|.lst xs)):cZ K H (.ref a)<|.type "list"
 | tup {a:Addr} {xs:List V} (e:H a=some (.tup xs)):cZ K H (.ref a)<|.type "tuple"
 | dK {a:Addr} {kvs:List (Key×V)} (e:H a=some (.dK kvs)):cZ K H (.ref a)<|.type "dict"
 | dT {a:Addr} {kvs:List (List Key×V)} (e:H a=some (.dT kvs)):cZ K H (.ref a)<|.type "dict"
 | ins {a C dx:Addr} {fs:List (Str×V)} (e:H a=some (.ins C dx fs)) (cl:zU K C) (ha:PySem.W.findIn K (.ref C) "__class__" = some (some<|.builtin "object.__class__"))
   (hn:PySem.W.specialIn K (.builtin "object.__class__") "__get__" = some (some<|.builtin "getset_descriptor.__get__")) (LJ:PySem.W.takesIn K (.builtin "object.__class__")=some true)
   (hm:PySem.W.mroIn K C (.type "object")=some true):cZ K H (.ref a)<|.ref C
theorem Vu{x:V}{u t:Value}(I:Inv X pins σ H s)(rx:RelV x u)(ty:cZ X.K H x t)(e:PySem.W.kitOne X.K t c=some b)(h:∀ tk,Q (.bool b) {s with toks:=tk}) :
  wpAny (model X.prog X.w) A (call (.builtin "isinstance") [u,c]) Q E s:=by
 cases ty with
 | non=>cases (show u=Value.none from rx);exact DY PySem.W.kitx_none I.fP True.intro e (λz=>nomatch z) h
 | bl y=>cases (show u=Value.bool y from rx);exact DY PySem.W.kitx_bool I.fP True.intro e (λz=>nomatch z) h
 | int i=>obtain⟨t,q⟩:=(show ∃ t,u=Value.int i t from rx);cases q;exact DY PySem.W.kitx_int I.fP True.intro e (λz=>nomatch z) h
 | str y=>obtain⟨t,q⟩:=(show ∃ t,u=Value.str y t from rx);cases q;exact DY PySem.W.kitx_str I.fP True.intro e (λz=>nomatch z) h
 | qL y=>obtain⟨t,q⟩:=(show ∃ t,u=Value.float y t from rx);cases q;exact DY PySem.W.kitx_float I.fP True.intro e (λz=>nomatch z) h
 | @lst a xs ea=>
  cases (show u=Value.ref a from rx);obtain⟨_,_,n,_,h1⟩:=(show aC X.prog X.w H s.heap a (.lst xs) from I.aH a _ ea);exact DY PySem.W.kitx_list I.fP ⟨_,h1,rfl⟩ e (λz=>nomatch z) h
 | @bX a ob xs ea=>
  cases (show u=Value.ref a from rx);obtain⟨_,_,_,n,_,h1⟩:=(show aC X.prog X.w H s.heap a (.bX ob<|.lst xs) from I.aH a _ ea);exact DY PySem.W.kitx_list I.fP ⟨_,h1,rfl⟩ e (λz=>nomatch z) h
 | @tup a xs ea=>
  cases (show u=Value.ref a from rx);obtain⟨_,_,_,p⟩:=(show aC X.prog X.w H s.heap a (.tup xs) from I.aH a _ ea);obtain⟨o,h1,h2,_⟩:=p;exact DY PySem.W.kitx_tuple I.fP ⟨o,h1,h2⟩ e (λz=>nomatch z) h
 | @dK a kvs ea=>
  cases (show u=Value.ref a from rx);obtain⟨_,_,vs,_,p⟩:=(show aC X.prog X.w H s.heap a (.dK kvs) from I.aH a _ ea);obtain⟨o,es,ep,h1,h2,_⟩:=p;exact DY PySem.W.kitx_dict I.fP ⟨o,h1,h2.1⟩ e (λz=>nomatch z) h
 | @dT a kvs ea=>
  cases (show u=Value.ref a from rx);obtain⟨_,_,xs,_,o,es,ep,h1,h2,_⟩:=(show aC X.prog X.w H s.heap a (.dT kvs) from I.aH a _ ea);exact DY PySem.W.kitx_dict I.fP ⟨o,h1,h2.1⟩ e (λz=>nomatch z) h
 | @ins a C dx fs ea cl ha hn LJ hm=>
  cases (show u=Value.ref a from rx);obtain⟨mA,O,_⟩:=Vt I.aH ea;obtain⟨od,J,_⟩:=O.look;exact DY (PySem.W.kitx_own (cl.get _) cl.hd ha hn LJ hm) I.fP J e (λz=>nomatch z) h
end
structure bw(k:Nat)(A:Around):Prop where
 hd:A.handled=none
 dp:A.depth+3 * k+5 < recursionLimit
 un:A.units+16 * k+200 < cLine
theorem bw.mono{j k:Nat}{A:Around}(r:bw k A)(h:j<=k):bw j A:=⟨r.hd,by have:=r.dp;omega,by have:=r.un;omega⟩
theorem bw.deeper{k:Nat}{A:Around}(r:bw (k+1) A)(env:Env):bw k (A.deeper env):=
 ⟨r.hd,by have:=r.dp;show A.depth+1+3 * k+5 < _;omega,by have:=r.un;show A.units+3+16 * k+200 < _;omega⟩
theorem bw.depth{k:Nat}{A:Around}(r:bw k A):A.depth < recursionLimit:=by have:=r.dp;omega
def zW:TA:=λ_ H Q=>Q [] H
def LL(ta:TE)(tr:TA):TA:=λσ H Q=>ta σ H λx H1=>tr σ H1 λxs H2=>Q (x :: xs) H2
section
variable{X:Cx}{e:Expr}{es:List Expr}{te:TE}{t:TA}{pos:Pos}
theorem Vv:PA X [] zW:=λ_ _ _ _ H Q I h=>Calls.spliced_nil ⟨[],H,I,.nil,h⟩
theorem Vw(ha:PE X e te)(hr:PA X es t)(hs:starEach (e :: es) X.env=(false,eval e X.env) :: starEach es X.env:=by rfl):PA X (e :: es) (LL te t):=by
 intro pos pins s σ H Q I h;rw [hs];show wpAny _ _ (spliced<|(false,eval e X.env) :: backTo pos (starEach es X.env)) _ _ s;refine Calls.spliced_cons<|aP (ha pins s σ H _ I h) λu s1 ⟨x,H1,I1,r1,q1⟩=>?_;exact aP (hr pos pins s1 σ H1 _ I1 q1) λus s2 ⟨xs,H2,I2,r2,q2⟩=>⟨x :: xs,H2,I2,.cons r1 r2,q2⟩
def zX(t:TA):TE:=λσ H Q=>t σ H λxs H1=>xs.length<=sizeLine/\∀ p,H1 p=none->Q (.ref p) (upd H1 p<|.tup xs)
def zY(t:TA):TE:=λσ H Q=>t σ H λxs H1=>xs.length<=sizeLine/\∀ p,H1 p=none->Q (.ref p) (upd H1 p<|.lst xs)
theorem Vx{x1}(h:PA X es t):PE X (.Tuple es x1 pos) (zX t):=by
 intro pins s σ H Q I hq;refine wpAny_Tuple_spliced (aP (h pos pins s σ H _ I hq) λus s1 ⟨xs,H1,I1,r,z,q⟩=>⟨by rw [<- r.length];exact z,?_⟩);have hf:H1 s1.heap.objs.size=none:=I1.aH.fresh<|Al _;refine⟨.ref s1.heap.objs.size,upd H1 s1.heap.objs.size<|.tup xs,I1.laid (t':=s1.toks) (λb u e=>Ag _ e) (Al _) ?_,rfl,q _ hf⟩;exact⟨z,us,r,⟨_,At _ rfl,rfl,_,rfl⟩⟩
theorem Vy(h:PA X es t):PE X (.List es pos) (zY t):=by
 intro pins s σ H Q I hq;refine wpAny_List_spliced (aP (h pos pins s σ H _ I hq) λus s1 ⟨xs,H1,I1,r,z,q⟩=>⟨by rw [<- r.length];exact z,?_⟩);have hf:H1 s1.heap.objs.size=none:=I1.aH.fresh<|Al _;refine⟨.ref s1.heap.objs.size,upd H1 s1.heap.objs.size<|.lst xs,I1.laid (t':=s1.toks) (λb u e=>Ag _ e) (Al _) ?_,rfl,q _ hf⟩;exact⟨z,us,0,r,At _ rfl⟩
end
abbrev Sp:=List V->Hp->VK->XK->Prop
abbrev gH:=List Env->Hp->Shared->XK->Value->Shared->Prop
structure li(P:Program)(w:World)(K:PySem.W.Frag)(mg:Str->Option Value)(base:Heap)(A:Around)(outer:List Env)(s:Shared)(H:Hp):Prop where
 frames:A.frames=some outer
 mod:Mod K mg base
 bs:∀ b o,base.get? b=some o->s.heap.get? b=some o/\H b=none
 mQ:base.objs.size<=s.heap.objs.size
 dE:s.heap.FunFrames base outer
 qO:∀ b∈eF outer,H b=none
 aH:b6 P w H s.heap
 bare:AllBare s.gens
def CE(outer:List Env)(P:Program)(w:World)(H:Hp)(s:Shared)(Q:VK)(u:Value)(s':Shared):Prop:=
 ∃ v H',s'.os=s.os/\AllBare s'.gens/\Un (eF outer) [] H H' s.heap s'.heap/\b6 P w H' s'.heap/\RelV v u/\Q v H'
def CR(CX:gH)(outer:List Env)(P:Program)(w:World)(H:Hp)(s:Shared)(Q:VK)(E:XK)(r:Result)(s':Shared):Prop:=
 match r with
 | .ok (.ret u)=>CE outer P w H s Q u s'
 | .ok _=>False
 | .error e=>CX outer H s E e s'
structure aF(P:Program)(w:World)(K:PySem.W.Frag)(mg:Str->Option Value)(base:Heap)(CX:gH)(k:Nat)(f:Addr)(fd:FuncData)(ps:List Str)(sp:Sp):Prop where
 len:∀ vs H Q E,sp vs H Q E->vs.length=ps.length
 run:∀(A:Around) (outer:List Env) (s:Shared) (H:Hp) (args:Args) (us:List Value) (vs:List V) (Q:VK) (E:XK),bw k A->li P w K mg base A outer s H->BindsTo s fd args (ps.zip us)->aw vs us->sp vs H Q E ->
  codeAny (model P w) A (.call (.ref f) args) (CR CX outer P w H s Q E) s
theorem aF.mono{P:Program}{w:World}{K:PySem.W.Frag}{mg:Str->Option Value}{base:Heap}{CX:gH}{j k:Nat}{f:Addr}{fd:FuncData}{ps:List Str}{sp:Sp}(F:aF P w K mg base CX j f fd ps sp)(h:j<=k) :
  aF P w K mg base CX k f fd ps sp:=⟨F.len,λA outer s H args us vs Q E hr=>F.run A outer s H args us vs Q E<|hr.mono h⟩
section
variable{X:Cx}{pins:List (Addr×Obj)}{σ:St}{H:Hp}{s s':Shared}
theorem Inv.zZ(I:Inv X pins σ H s):li X.prog X.w X.K X.mg X.base X.A X.stack s H:=
 ⟨I.ok.frames,I.ok.mod,I.bs,By I.ok.mQ I.sz,I.stack,I.dw,I.aH,I.bare⟩
theorem Inv.after{Q:VK}{u:Value}(I:Inv X pins σ H s)(h:CE X.stack X.prog X.w H s Q u s'):EP X pins σ Q u s':=by
 obtain⟨v,H',os,bare,un,aH,r,q⟩:=h;obtain⟨hh,g,d,t,bS⟩:=s';obtain rfl:bS=s.os:=os;exact⟨v,H',I.call (h':=hh) (g':=g) (d':=d) (t':=t) (ch:=[]) un aH bare (λb z=>absurd z<|by simp),r,q⟩
end
def LN(sp:Sp)(lj:List V)(E:XK)(t:TA):TE:=λσ H Q=>t σ H λvs H1=>sp (vs++lj) H1 Q E
def Binds(K:PySem.W.Frag)(fd:FuncData)(ps:List Str)(ds:List Value):Prop:=
 ∀(s:Shared) (us:List Value),K.In s.heap->(us++ds).length=ps.length->BindsTo s fd ⟨us,[]⟩ (ps.zip<|us++ds)
theorem Binds.all{K:PySem.W.Frag}{fd:FuncData}{ps:List Str}(h:∀ us:List Value,us.length=ps.length->bindArgs fd ⟨us,[]⟩=pure (ps.zip us)):Binds K fd ps []:=λs us _ hl=>by
 rw [Be] at hl ⊢;exact .of_eq<|h us hl
def ll(CX:gH)(X:Cx)(E:XK):Prop:=∀(pins:List<|Addr×Obj) (σ:St) (H:Hp) (s:Shared) (e:Value) (s':Shared),Inv X pins σ H s->CX X.stack H s E e s'->X.xe e s'
section
variable{X:Cx}{CX:gH}{k:Nat}{f C:Addr}{fd:FuncData}{ps:List Str}{sp:Sp}{lj:List V}{ds:List Value}{E:XK}{x m:Str}{p pos apos:Pos}{e o:Expr}{es:List Expr}{ta:TE}{t:TA}
theorem Vz{pins:List (Addr×Obj)}{σ:St}{H:Hp}{s:Shared}{Q:VK}{us:List Value}{vs:List V}(F:aF X.prog X.w X.K X.mg X.base CX k f fd ps sp)(hr:bw k X.A)(hb:Binds X.K fd ps ds)(hd:aw lj ds)(hx:ll CX X E)
  (I:Inv X pins σ H s) (r:aw vs us) (h:sp (vs++lj) H Q E):wpAny (model X.prog X.w) X.A (call (.ref f) us) (EP X pins σ Q) X.xe s:=by
 have r2:aw (vs++lj) (us++ds):=r.append hd;have hl:(us++ds).length=ps.length:=by rw [<- r2.length];exact F.len _ _ _ _ h
 refine wpAny_call<|JK (F.run X.A X.stack s H ⟨us,[]⟩ (us++ds) (vs++lj) Q E hr I.zZ (hb s us I.fP hl) r2 h) λr s' hq=>?_;cases r with
 | error e=>exact hx pins σ H s e s' I hq
 | ok fl=>
  cases fl with
  | ret u=>exact I.after hq
  | next=>exact False.elim hq
  | brk=>exact False.elim hq
  | cont=>exact False.elim hq
theorem VA(F:aF X.prog X.w X.K X.mg X.base CX k f fd ps sp)(hr:bw k X.A)(hg:Gl X x)(hm:X.mg x=some (.ref f))(hk:PySem.W.keepIn X.K (.ref f)=true)(hb:Binds X.K fd ps ds)(hd:aw lj ds)(hx:ll CX X E)
  (ha:PA X (e :: es) t) (di:(x == ("__debug__" : Str))=false:=by decide) (he:starEach (e :: es) X.env=(false,eval e X.env) :: starEach es X.env:=by rfl) (iR:(backTo pos<|starEach es X.env).any (·.1)=false:=by rfl) :
  PE X (.Call (.Name x p) (e :: es) [] pos) (LN sp lj E t):=by
 intro pins s σ H Q I h;refine JW<|Le I hg hm ?_ di;refine PySem.W.callWith_K (h₀:=X.base) I.ok.mod.qN hk (aP (ha pos pins s σ H _ I h) λus s1 ⟨vs,H1,I1,r,q⟩=>⟨I1.fP,?_⟩) he iR;exact Vz F hr hb hd hx I1 r q
end
section
variable{X:Cx}{CX:gH}{k:Nat}{f C:Addr}{fd:FuncData}{ps ks:List Str}{sp:Sp}{E:XK}{x m:Str}{p pos apos VC:Pos}{e o:Expr}{es:List Expr}{kws:List Keyword}{te ta:TE}{t tk:TA}{nm:Option Str}
variable{g:List Value->List Value->List Value}{gV:List V->List V->List V}
end
structure ak(N P:List Str)(sc:Scope):Prop where
 kind:sc.kind = .function
 co:sc.isCoroutine=false
 gen:sc.isGenerator=false
 nd:N.Nodup
 pre:N.take P.length=P
 par:∀ x∈P,sc.names.lookup x=some .local\/sc.names.lookup x=some .cell
 oG:∀ y∈sc.names,y.2 ≠ .free
theorem LO{kindOf:Str->Option NameKind}{x:Str}:∀{binds:List (Str×Value)} {m:Str->Option Value},(∀ v,(x,v)∉binds)->bindL kindOf binds m x=m x
 | [],_,_=>rfl
 | (n,v) :: r,m,h=>by
  unfold bindL;rw [LO λw hw=>h w<|Ah _ hw]
  split
  ·have:x≠n:=by rintro rfl;exact h v Ae
   simp [this]
  ·rfl
theorem LU{kindOf:Str->Option NameKind}{x:Str}:∀{binds:List (Str×Value)} {m:Str->Option Value},(∀ v,(x,v)∉binds)->bindC kindOf binds m x=m x
 | [],_,_=>rfl
 | (n,v) :: r,m,h=>by
  unfold bindC;rw [LU λw hw=>h w<|Ah _ hw]
  split
  ·rfl
  ·have:x≠n:=by rintro rfl;exact h v Ae
   simp [this]
theorem LV{kindOf:Str->Option NameKind}{x:Str}{v:Value}:∀{P:List Str} {vs:List Value} {i:Nat} {m:Str->Option Value},P.Nodup->P[i]?=some x->vs[i]?=some v->kindOf x=some .local ->
  bindL kindOf (P.zip vs) m x=some v
 | [],_,_,_,_,h,_,_=>by simp at h
 | _ :: _,[],_,_,_,_,h,_=>by simp at h
 | p :: P,w :: vs,0,m,nd,h1,h2,hk=>by
  simp at h1 h2;subst h1;subst h2;show bindL kindOf ((p,w) :: P.zip vs) m p=_;unfold bindL;rw [LO λv hv=>(Bf.mp nd).1 (RX hv).1,BP hk];simp
 | p :: P,w :: vs,i+1,m,nd,h1,h2,hk=>by
  show bindL kindOf ((p,w) :: P.zip vs) m x=_;unfold bindL;exact LV (i:=i) (Bf.mp nd).2 (by simpa using h1) (by simpa using h2) hk
theorem LW{kindOf:Str->Option NameKind}{x:Str}{v:Value}:∀{P:List Str} {vs:List Value} {i:Nat} {m:Str->Option Value},P.Nodup->P[i]?=some x->vs[i]?=some v->kindOf x≠some .local ->
  bindC kindOf (P.zip vs) m x=some v
 | [],_,_,_,_,h,_,_=>by simp at h
 | _ :: _,[],_,_,_,_,h,_=>by simp at h
 | p :: P,w :: vs,0,m,nd,h1,h2,hk=>by
  simp at h1 h2;subst h1;subst h2;show bindC kindOf ((p,w) :: P.zip vs) m p=_;unfold bindC;rw [LU λv hv=>(Bf.mp nd).1 (RX hv).1,BK hk];simp
 | p :: P,w :: vs,i+1,m,nd,h1,h2,hk=>by
  show bindC kindOf ((p,w) :: P.zip vs) m x=_;unfold bindC;exact LW (i:=i) (Bf.mp nd).2 (by simpa using h1) (by simpa using h2) hk
def start(N:List Str)(vs:List V):St:=vs.map some++List.replicate (N.length - vs.length) none
def c6(CX:gH)(P:Program)(w:World)(K:PySem.W.Frag)(mg:Str->Option Value)(base:Heap)(N:List Str)(qual:Str)(scope:Scope)(f:Addr)(cd:Value)(A:Around)(outer:List Env)(s:Shared)(H:Hp)(E:XK):Cx where
 prog:=P
 w:=w
 K:=K
 mg:=mg
 base:=base
 A:=A.deeper<|envOfC qual scope s.heap.objs.size f cd
 N:=N
 s₀:=s
 H₀:=H
 env:=envOfC qual scope s.heap.objs.size f cd
 outer:=outer
 stack:=envOfC qual scope s.heap.objs.size f cd :: outer
 ex:=[]
 calm:=true
 fn:=λ_=>true
 pn:=[]
 xe:=λe s'=>wpAny (model P w) (A.deeper<|envOfC qual scope s.heap.objs.size f cd) (leaving (envOfC qual scope s.heap.objs.size f cd) e) (λ_ tq=>CX outer H s E e tq) (λe' tq=>CX outer H s E e' tq) s'
theorem LX{sc:Scope}{n:Nat}{x:Str}(h:sc.names.lookup x=some .cell):∃ c,(cellsFrom n sc.names []).lookup x=some c:=by
 have q:=JF sc.names n []<|.inl h;exact Es.mp q
theorem VE{CX:gH}{P:Program}{w:World}{K:PySem.W.Frag}{mg:Str->Option Value}{base:Heap}{N ps:List Str}{qual:Str}{scope:Scope}{f:Addr}{cd:Value}{A:Around}{outer:List Env}{s s1:Shared}{H:Hp}{E:XK}{us:List Value}{vs:List V}
  (S:ak N ps scope) (hd:A.handled=none) (e0:li P w K mg base A outer s H) (hl:vs.length=ps.length) (r:aw vs us)
  (x:InCallC s s.heap.objs.size (bindL (envOfC qual scope s.heap.objs.size f cd).kindOf (ps.zip us) λ_=>none) (cellsFrom (s.heap.objs.size+1) scope.names []) (bindC (envOfC qual scope s.heap.objs.size f cd).kindOf (ps.zip us) λ_=>none) s1) :
  Inv (c6 CX P w K mg base N qual scope f cd A outer s H E) [] (start N vs) H s1:=by
 have iR:ps.length<=N.length:=by have:=BZ List.length S.pre;rw [Bk] at this;omega
 obtain⟨h1,tk,rfl,hk⟩:=x.done;have tu:∀ b:Addr,b∉(c6 CX P w K mg base N qual scope f cd A outer s H E).ex:=λb z=>absurd (show b∈([]:List Addr) from z) (by simp);refine⟨⟨e0.mod,S.kind,rfl,rfl,Al _,λy z c h1 h2=>?_,λy hy=>?_,λy c _ h=>?_,λ_=>hd,Around.frames_deeper e0.frames,.inr ⟨rfl,rfl⟩,λb z=>absurd z<|tu b,e0.bs,e0.mQ,λb _ _=>tu b,λb z=>absurd z<|tu b,e0.dE,e0.qO⟩,
  rfl,e0.bare,Un.kept hk,⟨_,x.toInCall.ns,λi y v h1 h2 h3=>?_⟩,λy c h=>⟨_,x.cell y c h⟩,e0.aH.fresh<|Al _,λy c h=>?_,λp hp=>absurd (show p∈([]:List<|Addr×Obj) from hp) (by simp),e0.aH.kept hk,?_⟩
 ·exact name_of_addr x.apart (CZ h1)<|CZ h2
 ·have hy:scope.names.lookup y=some .cell\/scope.names.lookup y=some .free:=hy
  rcases hy with hy | hy
  ·exact LX hy
  ·exact absurd rfl (S.oG _<|CZ hy)
 ·exact Cm<|x.above y c<|CZ h
 ·have hi:i < vs.length:=by
   unfold start at h2
   by_cases hi:i < vs.length
   ·exact hi
   ·rw [Ay<|by simpa using hi] at h2;rw [Ey] at h2
    split at h2 <;> cases h2
  have ha:vs[i]?=some v:=by
   unfold start at h2;rw [Ar (by simpa using hi),Aj] at h2;cases e:vs[i]? with
   | none=>rw [e] at h2;cases h2
   | some a=>rw [e] at h2;cases h2;rfl
  obtain⟨u,hu,rv⟩:=r.get ha;have hp:ps[i]?=some y:=by
   rw [<- S.pre,Do<|by omega];exact h1
  have LY:ps.Nodup:=by rw [<- S.pre];exact S.nd.sublist<|List.take_sublist _ _
  refine⟨u,rv,?_⟩
  rcases S.par y (Ap hp) with k | k
  ·exact .inl ⟨k,LV LY hp hu k⟩
  ·obtain⟨c,e⟩:=LX (n:=s.heap.objs.size+1) k;refine .inr ⟨.inl k,c,e,?_⟩;have q:=x.cell y c e;rw [LW LY hp hu<|by show scope.names.lookup y≠_;rw [k];decide] at q;exact q
 ·exact e0.aH.fresh<|Cm<|x.above y c<|CZ h
 ·unfold start;show _=N.length;rw [Af,Aa,Fg];omega
theorem LZ{CX:gH}{P:Program}{w:World}{K:PySem.W.Frag}{mg:Str->Option Value}{base:Heap}{k:Nat}{f:Addr}{name qual:Str}{params:Arguments}{body:List Stmt}{scope:Scope}{dV kV doc pm bI ct oc:Value}{an od:Option Addr}
  {kA:Array (Option Value)} {N ps:List Str} {sp:Sp} (lk:K.lookup f=some ⟨oc,od,.func<|PySem.W.fnOf name qual params body scope dV kV doc pm an bI ct,kA⟩) (ig:PySem.W.codeIn K bI qual=true) (S:ak N ps scope)
  (len:∀ vs H Q E,sp vs H Q E->vs.length=ps.length)
  (cQ : ∀ (A : Around) (outer : List Env) (s : Shared) (H : Hp) (vs : List V) (Q : VK) (E : XK), bw k (A.deeper<|envOfC qual scope s.heap.objs.size f bI) → sp vs H Q E →
   ∃ t,iN (c6 CX P w K mg base N qual scope f bI A outer s H E) body t/\t {nx:=λ_ H'=>Q .non H',rt:=Q} (start N vs) H) :
  aF P w K mg base CX (k+1) f (PySem.W.fnOf name qual params body scope dV kV doc pm an bI ct) ps sp:=by
 refine⟨len,λA outer s H args us vs Q E hr e0 hb r dX=>?_⟩;have hl:=len _ _ _ _ dX;have KX:K.In s.heap:=e0.mod.qN.keeps λb o e=>(e0.bs b o e).1;have lim:s.heap.NoLimit:=e0.mod.nolimit.keeps λb o e=>(e0.bs b o e).1;have tD:∀ y∈ps.zip us,scope.names.lookup y.1=some .local\/(scope.names.lookup y.1=some .cell/\((cellsFrom (s.heap.objs.size+1) scope.names []).lookup y.1).isSome=true):=λ⟨n,v⟩ hy=>by
  rcases S.par n (RX hy).1 with q | q
  ·exact .inl q
  ·exact .inr ⟨q,JF _ _ _<|.inl q⟩
 refine codeAny_call_function hr.depth (KX _ _ lk) rfl S.co S.gen rfl (PySem.W.codeRec_of KX ig) (hb _ _ _ _ ?_);refine wpAny_newFunctionEnv_cells S.kind tD λenv he s1 x=>?_;subst he;refine⟨lim.keeps x.toInCall.keep,codeAny_func ?_⟩;obtain⟨t,ht,hq⟩:=cQ A outer s H vs Q E (hr.deeper _) dX;have I:Inv (c6 CX P w K mg base N qual scope f bI A outer s H E) [] (start N vs) H s1:=VE S hr.hd e0 hl r x;refine CT (ht [] s1 (start N vs) H _ I hq) (λfl s' hs=>?_) λe s' hs=>hs;have fin:∀{σ':St} {H':Hp} {v:V} {u:Value},Inv (c6 CX P w K mg base N qual scope f bI A outer s H E) [] σ' H' s'->RelV v u->Q v H'->CE outer P w H s Q u s':=
  λ{σ' H' v u} J rv q=>⟨v,H',J.os,J.bare,J.base,J.aH,rv,q⟩
 cases fl with
 | ret u=>
  obtain⟨v,σ',H',J,rv,q⟩:=hs;exact fin J rv q
 | next=>
  obtain⟨σ',H',J,q⟩:=hs;exact fin (v:=V.non) (u:=Value.none) J rfl q
 | brk=>
  obtain⟨_,_,_,q⟩:=hs;exact False.elim q
 | cont=>
  obtain⟨_,_,_,q⟩:=hs;exact False.elim q
section
variable{X:Cx}{x:Str}{p pos:Pos}{e:Expr}{es:List Expr}{t:TA}{id T:String}{r:List V->Hp->VK->Prop}
def wV(r:List V->Hp->VK->Prop)(t:TA):TE:=λσ H Q=>t σ H λvs H1=>r vs H1 Q
theorem VH(hc:fT X (.builtin id) r)(hg:Gl X x)(hm:X.mg x=none)(hv:bootBuiltins x=some (.builtin id))(ha:PA X (e :: es) t)(hn:x ≠ "__name__":=by decide)(di:(x == ("__debug__" : Str))=false:=by decide)
  (he:starEach (e :: es) X.env=(false,eval e X.env) :: starEach es X.env:=by rfl) (iR:(backTo pos<|starEach es X.env).any (·.1)=false:=by rfl):PE X (.Call (.Name x p) (e :: es) [] pos) (wV r t):=by
 intro pins s σ H Q I h;refine JW<|mU I hg hm hv ?_ hn di;exact PyProof.Rows.callWith_builtin1 (aP (ha pos pins s σ H _ I h) λus s1 ⟨vs,H1,I1,r1,q1⟩=>hc pins s1 σ H1 vs us Q I1 r1 q1) he iR
theorem VI(hc:fT X (.type T) r)(hg:Gl X x)(hm:X.mg x=none)(hv:bootBuiltins x=some (.type T))(ha:PA X (e :: es) t)(hn:x ≠ "__name__":=by decide)(di:(x == ("__debug__" : Str))=false:=by decide)
  (he:starEach (e :: es) X.env=(false,eval e X.env) :: starEach es X.env:=by rfl) (iR:(backTo pos<|starEach es X.env).any (·.1)=false:=by rfl):PE X (.Call (.Name x p) (e :: es) [] pos) (wV r t):=by
 intro pins s σ H Q I h;refine JW<|mU I hg hm hv ?_ hn di;exact HX (aP (ha pos pins s σ H _ I h) λus s1 ⟨vs,H1,I1,r1,q1⟩=>hc pins s1 σ H1 vs us Q I1 r1 q1) he iR
end
end L2
namespace HT
open PySem PyProof.Rows
section
open PySem.SeqAt
open PySem.AutoSeq1 (wpAny_loadPart')
open PySem.MeetsSeq PySem.MeetsSeq2 PySem.MeetsSeq3
end
section
variable{prog:Program}{w:World}{A:Around}{E:Value->Shared->Prop}{s:Shared}
def fU(n d:Nat):Option Int->Nat
 | none=>d
 | some v=>if v < 0 then(v+(n:Int)).toNat else min v.toNat n
theorem fV(n d:Nat):fU n d none=d:=rfl
theorem ik(n d k:Nat):fU n d (some (k:Int))=min k n:=by
 show(if(k:Int) < 0 then((k:Int)+(n:Int)).toNat else min (k:Int).toNat n)=min k n;rw [BK (by omega),Bo]
end
end HT
namespace L2
open PySem PySem.Spec PyProof.Rows
abbrev TO:=St->Hp->(Option Int->Hp->Prop)->Prop
def PO(X:Cx)(e:Option Expr)(t:TO):Prop:=
 ∀(pins:List<|Addr×Obj) (s:Shared) (σ:St) (H:Hp) (Q:Option Int->Hp->Prop),Inv X pins σ H s->t σ H Q ->
  wpAny (model X.prog X.w) X.A (evalPart e X.env) (λu s'=>∃ o H',Inv X pins σ H' s'/\IsPart u o/\Q o H') X.xe s
def VJ:TO:=λ_ H Q=>Q none H
def VL(t:TE):TO:=λσ H Q=>t σ H λx H1=>∃ i,x = .int i/\Q (some i) H1
section
variable{X:Cx}{e:Expr}{te:TE}{lo hi:Option Expr}{tl th:TO}{pos p2:Pos}
theorem VM:PO X none VJ:=by
 intro pins s σ H Q I h;rw [evalPart_none];exact BL ⟨none,H,I,.none,h⟩
theorem VN(h:PE X e te):PO X (some e) (VL te):=by
 intro pins s σ H Q I hw;rw [QL];refine aP (h pins s σ H _ I hw) λu s1 ⟨x,H1,I1,r1,q1⟩=>?_;obtain⟨i,rfl,q⟩:=q1;obtain⟨t,rfl⟩:=r1;exact⟨some i,H1,I1,.int i t,q⟩
def z6(X:Cx)(r:V->Option Int->Option Int->Hp->VK->Prop):Prop:=
 ∀(pins:List<|Addr×Obj) (s:Shared) (σ:St) (H:Hp) (x:V) (v vl vu:Value) (lo hi:Option Int) (sl:Addr) (Q:VK),Inv X pins σ H s->RelV x v->s.heap.IsSliceOf sl vl vu .none->IsPart vl lo->IsPart vu hi->r x lo hi H Q ->
  ∃ T id,typeLookup (.type T) "__getitem__" = pure (some<|.builtin id)/\s.TypeIs v T/\wpAny (model X.prog X.w) X.A (getItem v<|.ref sl) (EP X pins σ Q) X.xe s
def VO(r:V->Option Int->Option Int->Hp->VK->Prop)(te:TE)(tl th:TO):TE:=λσ H Q=>te σ H λx H1=>tl σ H1 λl H2=>th σ H2 λu H3=>r x l u H3 Q
theorem VP{r:V->Option Int->Option Int->Hp->VK->Prop}(hr:z6 X r)(he:PE X e te)(hl:PO X lo tl)(hu:PO X hi th):PE X (.Subscript e (.Slice lo hi none p2) pos) (VO r te tl th):=by
 intro pins s σ H Q I h;refine QX<|aP (he pins s σ H _ I h) λv s1 ⟨x,H1,I1,r1,q1⟩=>?_;refine wpAny_Slice<|aP (hl pins s1 σ H1 _ I1 q1) λvl s2 ⟨l,H2,I2,pl,q2⟩=>aP (hu pins s2 σ H2 _ I2 q2) λvu s3 ⟨u,H3,I3,pu,q3⟩=>?_;rw [evalPart_none];refine BL ?_;have I4:Inv X pins σ H3 {s3 with heap:=s3.heap.push {cls:= .type "slice",data:= .fields #[vl,vu,.none]}}:=I3.kept (t':=s3.toks) λb ob q=>Ag _ q;obtain⟨T,id,hT,ht,hg⟩:=hr pins {s3 with heap:=s3.heap.push {cls:= .type "slice",data:= .fields #[vl,vu,.none]}} σ H3 x v vl vu l u s3.heap.objs.size Q I4 r1 (Heap.IsSliceOf.new ..) pl pu q3;show wpAny (model X.prog X.w) X.A (subscriptTail e (.Slice lo hi none p2) v<|.ref s3.heap.objs.size) (EP X pins σ Q) X.xe {s3 with heap:=s3.heap.push {cls:= .type "slice",data:= .fields #[vl,vu,.none]}};exact tail_any (ops:=[.ref s3.heap.objs.size,v]) ht hT hg<|by with_unfolding_all rfl
def fX(xs:List V)(lo hi:Option Int):List V:=(xs.drop<|HT.fU xs.length 0 lo).take<|HT.fU xs.length xs.length hi - HT.fU xs.length 0 lo
theorem VQ(xs:List V)(lo hi:Option Int):(fX xs lo hi).length<=xs.length:=by
 unfold fX;rw [Bk,Cg];omega
end
def mV(n:Nat)(i:Int):Option Nat:=if 0<=i then(if i < n then some i.toNat else none) else if -(n:Int)<=i then some (i+n).toNat else none
def dY{α:Type}(xs:List α)(i:Int):Option α:=(mV xs.length i).bind λj=>xs[j]?
theorem VR{n:Nat}{i:Int}{j:Nat}(h:mV n i=some j):seqIndex? i n=some j/\j < n/\-(n:Int)<=i/\i < n:=by
 unfold mV at h
 by_cases h0:0<=i
 ·rw [BP h0] at h
  by_cases h1:i < n
  ·rw [BP h1] at h;have e:i.toNat=j:=Option.some.inj h;exact⟨by rw [seqIndex_of h0 h1,e],by omega,by omega,h1⟩
  ·rw [BK h1] at h;cases h
 ·rw [BK h0] at h
  by_cases h1:-(n:Int)<=i
  ·rw [BP h1] at h;have e:(i+n).toNat=j:=Option.some.inj h;exact⟨by rw [seqIndex_neg (by omega) h1,e],by omega,h1,by omega⟩
  ·rw [BK h1] at h;cases h
theorem z7{α:Type}{xs:List α}{i:Int}{v:α}(h:dY xs i=some v):∃ j,seqIndex? i xs.length=some j/\xs[j]?=some v/\j < xs.length/\-(xs.length:Int)<=i/\i < xs.length:=by
 unfold dY at h;cases e:mV xs.length i with
 | none=>rw [e] at h;cases h
 | some j=>
  rw [e] at h;obtain⟨h1,h2,h3,h4⟩:=VR e;exact⟨j,h1,h,h2,h3,h4⟩
theorem lr{α:Type}{xs:List α}{j:Nat}{v:α}(h:xs[j]?=some v):dY xs (j:Int)=some v:=by
 have hj:j < xs.length:=(Ac.mp h).1;have e:mV xs.length (j:Int)=some j:=by
  unfold mV;rw [BP (by omega),BP<|by omega];simp
 unfold dY;rw [e];exact h
theorem VS{α:Type}(xs:List α)(v:α):dY (xs++[v]) (-1)=some v:=by
 have hl:(xs++[v]).length=xs.length+1:=by simp
 have e:mV (xs++[v]).length (-1)=some xs.length:=by
  unfold mV;rw [hl,BK (by decide),BP<|by omega]
  congr 1
  omega
 unfold dY;rw [e];show(xs++[v])[xs.length]?=some v;simp
def L0(b:Expr):Prop:=∀ o i,subscripted b false o i=operate [o,i] (getItem o i)
def tE(X:Cx)(r:R2):Prop:=
 ∀(value slice:Expr) (pins:List<|Addr×Obj) (s:Shared) (σ:St) (H:Hp) (x y:V) (v u:Value) (Q:VK),Inv X pins σ H s->RelV x v->RelV y u->r x y H Q ->
  subscripted slice false v u=operate [v,u] (getItem v u)->wpAny (model X.prog X.w) X.A (subscriptTail value slice v u) (EP X pins σ Q) X.xe s
def z8(X:Cx)(id:String)(r:V->List V->Hp->VK->Prop):Prop:=
 ∀(pins:List<|Addr×Obj) (s:Shared) (σ:St) (H:Hp) (x:V) (xs:List V) (v:Value) (us:List Value) (Q:VK),Inv X pins σ H s->RelV x v->aw xs us->r x xs H Q ->
  wpAny (model X.prog X.w) X.A (call (.builtin id)<|v :: us) (EP X pins σ Q) X.xe s
section
variable{X:Cx}{a b:Expr}{ta tb:TE}{pos:Pos}
theorem VU{r:R2}(hr:tE X r)(ha:PE X a ta)(hb:PE X b tb)(hs:L0 b):PE X (.Subscript a b pos) (wQ r ta tb):=by
 intro pins s σ H Q I h;exact QX<|oA ha hb I h λv u s2 x y H2 I2 rx ry q=>hr a b pins s2 σ H2 x y v u Q I2 rx ry q<|hs _ _
def z9(K:PySem.W.Frag):R2:=λx y H Q=>∃ p xs i v,x = .ref p/\y = .int i/\aq K H p xs/\dY xs i=some v/\Q v H
def AA(K:PySem.W.Frag):R2:=λx y H Q=>∃ p xs i v,x = .ref p/\y = .int i/\aI K H p xs/\dY xs i=some v/\Q v H
def AB:R2:=λx y H Q=>∃ z i c,x = .str z/\y = .int i/\z.length<=sizeLine/\dY z.cps.toList i=some c/\Q (.str ⟨#[c]⟩) H
theorem cN:tE X (z9 X.K):=by
 intro value slice pins s σ H x y v u Q I rx ry h hs;obtain⟨p,xs,i,z,rfl,rfl,hq,he,q⟩:=h;cases rx;obtain⟨t,rfl⟩:=ry;obtain⟨its,r,pl,hz⟩:=I.list hq;obtain⟨j,h1,h2,h3,h4,h5⟩:=z7 he;obtain⟨w,ew,fK⟩:=r.get h2;have hl:=r.length;have hn:=tj;have fin:EP X pins σ Q w s:=⟨z,H,I,fK,q⟩
 by_cases h0:0<=i
 ·have hj:i.toNat=j:=by
   rw [seqIndex_of h0 h5] at h1;exact Option.some.inj h1
  exact item_listR pl.isList h0 (by omega) (by rw [hj];simpa using ew) fin hs
 ·have hj:(i+(its.toArray.size:Int)).toNat=j:=by
   rw [seqIndex_neg (by omega) h4] at h1;rw [Aw,<- hl];exact Option.some.inj h1
  exact subscriptTail_builtinR (x:=w) pl.isList.typeIs slot_list_getitem.lookup
   (wpAny_getItem_list_neg (Q:=λr s'=>r=w/\EP X pins σ Q r s') pl.isList (by omega) (by rw [Aw] <;> omega) (by omega) (by rw [hj];simpa using ew) ⟨rfl,fin⟩) hs
theorem bF:tE X (AA X.K):=by
 intro value slice pins s σ H x y v u Q I rx ry h hs;obtain⟨p,xs,i,z,rfl,rfl,hq,he,q⟩:=h;cases rx;obtain⟨t,rfl⟩:=ry;obtain⟨its,r,pl,hz⟩:=I.tuple hq;obtain⟨j,h1,h2,h3,h4,h5⟩:=z7 he;obtain⟨w,ew,fK⟩:=r.get h2;have hl:=r.length;have hn:=tj;have fin:EP X pins σ Q w s:=⟨z,H,I,fK,q⟩;exact subscriptTail_builtinR (x:=w) pl.typeIs slot_tuple_getitem.lookup
  (getItem_tuple (j:=j) (Q:=λr s'=>r=w/\EP X pins σ Q r s') pl (by omega) (by omega) (by rw [Aw,<- hl];exact h1) (by simpa using ew) ⟨rfl,fin⟩) hs
theorem L4:tE X AB:=by
 intro value slice pins s σ H x y v u Q I rx ry h hs;obtain⟨z,i,c,rfl,rfl,hz,he,q⟩:=h;obtain⟨t,rfl⟩:=rx;obtain⟨t',rfl⟩:=ry;obtain⟨j,h1,h2,h3,h4,h5⟩:=z7 he;have hl:z.cps.toList.length=z.length:=by simp [Str.length]
 rw [hl] at h1 h4 h5;have hn:=tj;exact tail_any (typeIs_str s z t) slot_str_getitem.lookup (getItem_str (c:=c) (by
  have e1:decide (i < -(2 ^ 63:Int))=false:=BR (by omega);have e2:decide (i>=2 ^ 63)=false:=BR (by omega);rw [e1,e2,Bool.or_false]) (by rw [h1];simpa using h2) ⟨.str ⟨#[c]⟩,H,I.tok _,⟨_,rfl⟩,q⟩) hs
theorem VV(lo hi:Option Int)(n:Nat):(sliceBounds lo hi none n).1=((HT.fU n 0 lo:Nat):Int)/\(sliceBounds lo hi none n).2.1=((HT.fU n n hi:Nat):Int)/\(sliceBounds lo hi none n).2.2=1:=by
 refine⟨?_,?_,rfl⟩
 ·cases lo with
  | none=>simp [sliceBounds,HT.fU]
  | some i=>
   simp only [sliceBounds,HT.fU,Option.getD_none,show(1:Int) > 0 by decide,DK]
   by_cases h:i < 0
   ·simp only [h,DK] <;> omega
   ·simp only [h,CV] <;> omega
 ·cases hi with
  | none=>simp [sliceBounds,HT.fU]
  | some i=>
   simp only [sliceBounds,HT.fU,Option.getD_none,show(1:Int) > 0 by decide,DK]
   by_cases h:i < 0
   ·simp only [h,DK] <;> omega
   ·simp only [h,CV] <;> omega
theorem VW(its:List Value)(lo hi:Option Int):slicePick its.toArray lo hi none=((its.drop<|HT.fU its.length 0 lo).take<|HT.fU its.length its.length hi - HT.fU its.length 0 lo).toArray:=by
 obtain⟨h1,h2,h3⟩:=VV lo hi its.toArray.size;unfold slicePick;rw [h1,h2,h3];simp only [sliceRange_one,pick_run,Aw] <;> rfl
def AF(K:PySem.W.Frag):V->Option Int->Option Int->Hp->VK->Prop:=λx lo hi H Q=>∃ a xs,x = .ref a/\aq K H a xs/\∀ p,H p=none->Q (.ref p) (upd H p<|.lst<|fX xs lo hi)
theorem L5:z6 X (AF X.K):=by
 intro pins s σ H x v vl vu lo hi sl Q I rx hs pl pu h;obtain⟨a,xs,rfl,hx,q⟩:=h;cases rx;obtain⟨its,r,ht,hz⟩:=I.list hx;have hlen:=r.length;refine⟨"list",_,slot_list_getitem.lookup,ht.isList.typeIs,?_⟩;refine JX ht.isList hs pl pu .none (by simp) ?_ (by rw [Aw] <;> omega);rw [VW,<- hlen];refine⟨.ref s.heap.objs.size,_,I.laid (t':=s.toks) (o:= .lst<|fX xs lo hi) (λb ob q=>Ag _ q) (Al _) ?_,rfl,q _<|I.aH.fresh<|Al _⟩;exact⟨By (VQ xs lo hi) hz,_,0,(r.drop<|HT.fU xs.length 0 lo).take<|HT.fU xs.length xs.length hi - HT.fU xs.length 0 lo,At _ rfl⟩
def jD:V->Bool
 | .non=>true
 | .bl _=>true
 | .int _=>true
 | .str _=>true
 | _=>false
def cH:V->V->Bool
 | .non,.non=>true
 | .bl a,.bl b=>a == b
 | .bl a,.int b=>(if a then 1 else 0) == b
 | .int a,.bl b=>a == (if b then 1 else 0)
 | .int a,.int b=>a == b
 | .str a,.str b=>a == b
 | _,_=>false
theorem L9{A:Around}{s:Shared}{y x:V}{u v:Value}(ry:RelV y u)(rx:RelV x v)(fy:jD y=true)(fx:jD x=true):SeqAt.EqAt A s u v (cH y x):=by
 cases y with
 | non=>
  cases ry;cases x with
  | non=>cases rx;exact SeqAt.EqAt.same _
  | bl b=>cases rx;exact SeqAt.EqAt.none_bool b
  | int b=>obtain⟨t,rfl⟩:=rx;exact SeqAt.EqAt.none_int b t
  | str b=>obtain⟨t,rfl⟩:=rx;exact SeqAt.EqAt.none_str b t
  | _=>exact absurd (show false=true from fx) Av
 | bl a=>
  cases ry;cases x with
  | non=>cases rx;exact SeqAt.EqAt.bool_none a
  | bl b=>cases rx;exact SeqAt.EqAt.bool_bool a b
  | int b=>obtain⟨t,rfl⟩:=rx;exact SeqAt.EqAt.bool_int a b t
  | str b=>obtain⟨t,rfl⟩:=rx;exact SeqAt.EqAt.bool_str a b t
  | _=>exact absurd (show false=true from fx) Av
 | int a=>
  obtain⟨t',rfl⟩:=ry;cases x with
  | non=>cases rx;exact SeqAt.EqAt.int_none a t'
  | bl b=>cases rx;exact SeqAt.EqAt.int_bool a t' b
  | int b=>obtain⟨t,rfl⟩:=rx;exact SeqAt.EqAt.int_int a t' b t
  | str b=>obtain⟨t,rfl⟩:=rx;exact SeqAt.EqAt.int_str a t' b t
  | _=>exact absurd (show false=true from fx) Av
 | str a=>
  obtain⟨t',rfl⟩:=ry;cases x with
  | non=>cases rx;exact SeqAt.EqAt.str_none a t'
  | bl b=>cases rx;exact SeqAt.EqAt.str_bool a t' b
  | int b=>obtain⟨t,rfl⟩:=rx;exact SeqAt.EqAt.str_int a t' b t
  | str b=>obtain⟨t,rfl⟩:=rx;exact SeqAt.EqAt.str_str a t' b t
  | _=>exact absurd (show false=true from fx) Av
 | _=>exact absurd (show false=true from fy) Av
def gW(x:V)(u:Value):Bool:=match u with
 | .none=>cH .non x
 | .bool b=>cH (.bl b) x
 | .int i _=>cH (.int i) x
 | .str z _=>cH (.str z) x
 | _=>false
theorem Ma{x y:V}{u:Value}(r:RelV y u)(f:jD y=true):gW x u=cH y x:=by
 cases y with
 | non=>cases r;rfl
 | bl b=>cases r;rfl
 | int i=>obtain⟨t,rfl⟩:=r;rfl
 | str z=>obtain⟨t,rfl⟩:=r;rfl
 | _=>exact absurd (show false=true from f) Av
theorem tF{x:V}:∀{xs:List V} {us:List Value},aw xs us->xs.all jD=true->us.any (gW x)=xs.any λy=>cH y x
 | _,_,.nil,_=>rfl
 | y :: xs,u :: us,.cons r t,f=>by
  rw [Gv,Bv] at f;rw [Eu,Eu,Ma r f.1,tF t f.2]
theorem tG{A:Around}{s:Shared}{x:V}{v:Value}(rx:RelV x v)(fx:jD x=true):∀{xs:List V} {us:List Value},aw xs us->xs.all jD=true->∀ u∈us,SeqAt.EqAt A s u v<|gW x u
 | _,_,.nil,_=>λu hu=>by cases hu
 | y :: xs,u :: us,.cons r t,f=>λu' hu=>by
  rw [Gv,Bv] at f
  rcases Ai.mp hu with rfl | hu
  ·rw [Ma r f.1];exact L9 r rx f.1 fx
  ·exact tG rx fx t f.2 u' hu
def tH(x:V)(xs:List V):Bool:=xs.any λy=>cH y x
def Mb(K:PySem.W.Frag)(neg:Bool):R2:=λx y H Q=>∃ p xs,y = .ref p/\(aq K H p xs\/aI K H p xs)/\jD x=true/\xs.all jD=true/\Q (.bl (if neg then !tH x xs else tH x xs)) H
theorem qU:cG X (compareOp .In) (Mb X.K false):=by
 intro pins s σ H x y v u Q I rx ry h;obtain⟨p,xs,rfl,hq,fx,fs,q⟩:=h;cases ry
 rcases hq with hq | hq
 ·obtain⟨its,r,pl,hz⟩:=I.list hq;refine SeqAt.in_listAt (gW x) pl.isList (λw hw=>tG rx fx r fs w<|by simpa using hw) ⟨.bl _,H,I,rfl,?_⟩;rw [show its.toArray.any (gW x)=its.any (gW x) by simp,tF r fs];exact q
 ·obtain⟨its,r,pl,hz⟩:=I.tuple hq;refine SeqAt.in_tupleAt (gW x) pl (λw hw=>tG rx fx r fs w<|by simpa using hw) ⟨.bl _,H,I,rfl,?_⟩;rw [show its.toArray.any (gW x)=its.any (gW x) by simp,tF r fs];exact q
theorem VX:cG X (compareOp .NotIn) (Mb X.K true):=by
 intro pins s σ H x y v u Q I rx ry h;obtain⟨p,xs,rfl,hq,fx,fs,q⟩:=h;cases ry
 rcases hq with hq | hq
 ·obtain⟨its,r,pl,hz⟩:=I.list hq;refine SeqAt.notIn_listAt (gW x) pl.isList (λw hw=>tG rx fx r fs w<|by simpa using hw) ⟨.bl _,H,I,rfl,?_⟩;rw [show its.toArray.any (gW x)=its.any (gW x) by simp,tF r fs];exact q
 ·obtain⟨its,r,pl,hz⟩:=I.tuple hq;refine SeqAt.notIn_tupleAt (gW x) pl (λw hw=>tG rx fx r fs w<|by simpa using hw) ⟨.bl _,H,I,rfl,?_⟩;rw [show its.toArray.any (gW x)=its.any (gW x) by simp,tF r fs];exact q
theorem dF:fT X (.builtin "len") (λxs H Q=>∃ p ys,xs=[.ref p]/\(aq X.K H p ys\/aI X.K H p ys)/\Q (.int ys.length) H):=by
 intro pins s σ H xs us Q I r h;obtain⟨p,ys,rfl,hq,q⟩:=h;obtain⟨u,rfl,rx⟩:=vals1 r;cases rx;have hn:=tj
 rcases hq with hq | hq
 ·obtain⟨its,r',pl,hz⟩:=I.list hq;have hlen:=r'.length;exact Calls.call_len_list pl.isList (by simp only [Aw] <;> omega) ⟨.int ys.length,H,I.tok _,⟨s.toks+1,by rw [Aw,hlen]⟩,q⟩
 ·obtain⟨its,r',pl,hz⟩:=I.tuple hq;have hlen:=r'.length;exact len_tuple pl (by simp only [Aw] <;> omega) ⟨.int ys.length,H,I.tok _,⟨s.toks+1,by rw [Aw,hlen]⟩,q⟩
theorem VY:fT X (.type "list") (λxs H Q=>∃ p ys,xs=[.ref p]/\(aq X.K H p ys\/aI X.K H p ys)/\∀ l,H l=none->Q (.ref l) (upd H l<|.lst ys)):=by
 intro pins s σ H xs us Q I r h;obtain⟨p,ys,rfl,hq,q⟩:=h;obtain⟨u,rfl,rx⟩:=vals1 r;cases rx;have fin:∀(its:List Value),aw ys its->ys.length<=sizeLine->∀(h':Heap) (c':Nat),(∀ b o',s.heap.get? b=some o'->h'.get? b=some o') ->
   h'.get? s.heap.objs.size=some {cls:= .type "list",dict:=none,data:= .seq its.toArray c',slots:=#[]}->EP X pins σ Q (.ref s.heap.objs.size) {s with heap:=h'}:=λits r' hz h' c' kp e=>
  ⟨.ref s.heap.objs.size,_,I.laid (t':=s.toks) kp (Al _) (show aC X.prog X.w _ h' _ (.lst ys) from⟨hz,its,c',r',e⟩),rfl,q _<|I.aH.fresh<|Al _⟩
 rcases hq with hq | hq
 ·obtain⟨its,r',pl,hz⟩:=I.list hq;have hlen:=r'.length;obtain⟨o,ho,hc,n,hd⟩:=pl.isList;exact call_list_seq p (.inl rfl) ho hc hd (λh' c' kp e=>fin its r' hz h' c' kp e)<|by simp only [Aw] <;> omega
 ·obtain⟨its,r',pl,hz⟩:=I.tuple hq;have hlen:=r'.length;obtain⟨o,ho,hc,n,hd⟩:=pl;exact call_list_seq p (.inr rfl) ho hc hd (λh' c' kp e=>fin its r' hz h' c' kp e)<|by simp only [Aw] <;> omega
def oH(K:PySem.W.Frag)(T:String)(x:V)(H:Hp):Prop:=match x with
 | .str _=>T = "str"
 | .int _=>T = "int"
 | .ref p=>(T = "list"/\∃ xs,aq K H p xs)\/(T = "tuple"/\∃ o,K.lookup p=some o/\o.cls = .type "tuple"/\o.dict=none) \/
   (T = "dict"/\((∃ kvs,H p=some (.dK kvs))\/∃ kvs,H p=some (.dT kvs)))\/(T = "set"/\∃ S n,H p=some (.set S n))
 | _=>False
theorem VZ{pins:List (Addr×Obj)}{σ:St}{H:Hp}{s:Shared}{T:String}{x:V}{v:Value}(I:Inv X pins σ H s)(r:RelV x v)(ty:oH X.K T x H) :
  s.TypeIs v T/\∀ a,v = .ref a->∃ ob,s.heap.get? a=some ob/\ob.dict=none:=by
 cases x with
 | str z=>
  obtain⟨t,rfl⟩:=r;cases (show T = "str" from ty);exact⟨typeIs_str s z t,λ_ e=>nomatch e⟩
 | int i=>
  obtain⟨t,rfl⟩:=r;cases (show T = "int" from ty);exact⟨typeIs_int s i t,λ_ e=>nomatch e⟩
 | ref p=>
  cases r
  rcases ty with ⟨rfl,xs,hq⟩ | ⟨rfl,o,hk,hc,hd⟩ | ⟨rfl,hk⟩ | ⟨rfl,S,n,hk⟩
  ·obtain⟨its,_,pl,_⟩:=I.list hq;refine⟨pl.isList.typeIs,λa e=>?_⟩;cases e;obtain⟨o,n,e,c,hd,_⟩:=pl;exact⟨o,e,hd⟩
  ·refine⟨⟨o,I.fP p o hk,hc⟩,λa e=>?_⟩;cases e;exact⟨o,I.fP _ o hk,hd⟩
  ·have z:∃ o,s.heap.get? p=some o/\o.ExactDict:=by
    rcases hk with ⟨kvs,hk⟩ | ⟨kvs,hk⟩
    ·obtain⟨_,_,_,_,o,_,_,e,ex,_⟩:=I.aH p _ hk;exact⟨o,e,ex⟩
    ·obtain⟨_,_,_,_,o,_,_,e,ex,_⟩:=I.aH p _ hk;exact⟨o,e,ex⟩
   obtain⟨o,e,ex⟩:=z;refine⟨⟨o,e,ex.1⟩,λa e2=>?_⟩;cases e2;exact⟨o,e,ex.2.1⟩
  ·obtain⟨o,_,_,_,e,ex,_⟩:=I.aH p _ hk;refine⟨⟨o,e,ex.1⟩,λa e2=>?_⟩;cases e2;exact⟨o,e,ex.2.1⟩
 | _=>exact False.elim ty
def V0(K:PySem.W.Frag)(T:String)(r:V->List V->Hp->VK->Prop)(to:TE)(t:TA):TE:=λσ H Q=>to σ H λx H1=>oH K T x H1/\t σ H1 λxs H2=>r x xs H2 Q
variable{o e:Expr}{es:List Expr}{to:TE}{t:TA}{name:Str}{apos fk:Pos}{T id:String}{r:V->List V->Hp->VK->Prop}
theorem AG(pa:PlainAttrs T)(slot:Slot T name id)(oI:typeOf (.builtin id)=pure (.type "method_descriptor"))(hm:z8 X id r)(ho:PE X o to)(ha:PA X (e :: es) t)
  (ci:attributeBase o name X.env (eval o X.env)=eval o X.env:=by rfl)
  (cI : ((backTo fk<|starEach (e :: es) X.env).all (λx => !x.1) && (backToKw fk<|keywordEach [] X.env).all (λx => x.1.isSome)
   && decide ((e :: es).length+([]:List Keyword).length+(if([]:List Keyword).isEmpty then 0 else 1) < 30))=true:=by rfl)
  (hline:(apos.endLine == fk.line)=true:=by rfl) (hs:starEach (e :: es) X.env=(false,eval e X.env) :: starEach es X.env:=by rfl) (bV:(backTo fk<|starEach es X.env).any (·.1)=false:=by rfl) :
  PE X (.Call (.Attribute o name apos) (e :: es) [] fk) (V0 X.K T r to t):=by
 intro pins s σ H Q I h;refine wpAny_Call_method_late ci cI hline rfl (aP (ho pins s σ H _ I h) λv s1 ⟨x,H1,I1,r1,ty,q1⟩=>?_);obtain⟨h1,h2⟩:=VZ I1 r1 ty;refine⟨T,id,pa,slot,oI,h1,h2,?_⟩;have hA:=ha fk pins s1 σ H1 _ I1 q1;rw [hs] at hA ⊢;refine KQ (by show(false || (backTo fk<|starEach es X.env).any (·.1))=false;rw [bV] <;> rfl)<|NQ ?_;exact aP hA λus s2 ⟨vs,H2,I2,r2,q2⟩=>hm pins s2 σ H2 x vs v us Q I2 r1 r2 q2
end
def qV(X:Cx)(id:String)(r:V->List V->Hp->VK->Prop):Prop:=
 ∀(pins:List<|Addr×Obj) (s:Shared) (σ:St) (H:Hp) (x:V) (xs:List V) (v:Value) (us:List Value) (Q:VK),Inv X pins σ H s->RelV x v->aw xs us->r x xs H Q ->
  wpAny (model X.prog X.w) X.A (call (.builtin id)<|v :: us) (EP X pins σ Q) X.xe s
theorem aw.hd{x:V}{xs:List V}{us:List Value}(h:aw (x :: xs) us):∃ u vs,us=u :: vs/\RelV x u/\aw xs vs:=by
 cases h with
 | cons r t=>exact⟨_,_,rfl,r,t⟩
theorem aw.nl{us:List Value}(h:aw [] us):us=[]:=by
 cases h;rfl
theorem aw.one{x:V}{us:List Value}(h:aw [x] us):∃ u,us=[u]/\RelV x u:=by
 obtain⟨u,vs,rfl,r,t⟩:=h.hd;rw [t.nl];exact⟨u,rfl,r⟩
theorem aw.two{x y:V}{us:List Value}(h:aw [x,y] us):∃ u v,us=[u,v]/\RelV x u/\RelV y v:=by
 obtain⟨u,vs,rfl,r,t⟩:=h.hd;obtain⟨v,ws,rfl,q,t⟩:=t.hd;rw [t.nl];exact⟨u,v,rfl,r,q⟩
theorem aw.zero:∀{us:List Value},aw [] us->us=[]
 | _,.nil=>rfl
theorem aw.eraseIdx:∀{xs:List V} {us:List Value} (i:Nat),aw xs us->aw (xs.eraseIdx i) (us.eraseIdx i)
 | _,_,_,.nil=> .nil
 | _,_,0,.cons _ t=>t
 | _,_,i+1,.cons r t=> .cons r<|aw.eraseIdx i t
theorem Md{α:Type}:∀(l:List α) (i:Nat),(l.eraseIdx i).length<=l.length
 | [],_=>Al _
 | _ :: _,0=>Ek _
 | _ :: r,i+1=>Nat.succ_le_succ<|Md r i
section
variable{X:Cx}{pins:List (Addr×Obj)}{σ:St}{H:Hp}{s:Shared}{l b:Addr}{xs ys zs:List V}
theorem Inv.lv{its its':List Value}{n:Nat}{f:Array Value->Array Value}{t':Nat}(I:Inv X pins σ H s)(hH:H l=some (.lst xs))
  (e:s.heap.get? l=some {cls:= .type "list",data:= .seq its.toArray n}) (hf:f its.toArray=its'.toArray) (hv:aw ys its') (hz:ys.length<=sizeLine) :
  Inv X pins σ (upd H l<|.lst ys) {s with heap:=s.heap.update l<|Obj.mapSeq f,toks:=t'}:=by
 have q:=PySem.IsL.update e f;rw [hf] at q;refine I.write (x:=l) (e:=l) (by rw [hH];exact trivial) (.inl rfl) (λb' u hb hu=>(Cd s.heap (Obj.mapSeq f)<|CK hb).trans hu) ⟨_,q⟩ ?_;exact⟨hz,its',_,hv,q⟩
theorem Inv.oJ{its:List Value}{t':Nat}(I:Inv X pins σ H s)(hv:aw ys its)(hz:ys.length<=sizeLine) :
  Inv X pins σ (upd H s.heap.objs.size<|.lst ys) {s with heap:=s.heap.push {cls:= .type "list",data:= .seq its.toArray},toks:=t'}:=
 I.laid (λ_ _ q=>Ag _ q) (Al _) ⟨hz,its,0,hv,At _ rfl⟩
theorem Inv.fresh(I:Inv X pins σ H s):H s.heap.objs.size=none:=I.aH.fresh<|Al _
theorem Inv.gX(I:Inv X pins σ H s)(hH:H l=some (.lst xs)):xs.length<=sizeLine/\∃(its:List Value) (n:Nat),aw xs its/\xs.length=its.length/\s.heap.get? l=some {cls:= .type "list",data:= .seq its.toArray n}:=by
 obtain⟨z,its,n,r,e⟩:=I.aH l _ hH;exact⟨z,its,n,r,r.length,e⟩
theorem V1{n:Nat}(h:n<=sizeLine):Builtin.List.listTooLong n=false:=by
 unfold Builtin.List.listTooLong;exact BR<|by omega
end
section
variable{X:Cx}
def V2:V->List V->Hp->VK->Prop:=λx vs H Q=>∃ l xs y,x = .ref l/\vs=[y]/\H l=some (.lst xs)/\xs.length < sizeLine/\Q .non (upd H l<|.lst<|xs++[y])
theorem Mf:qV X "list.append" V2:=by
 intro pins s σ H x vs v us Q I rx rv h;obtain⟨l,xs,y,rfl,rfl,hH,hz,q⟩:=h;cases rx;obtain⟨u,rfl,ru⟩:=rv.one;obtain⟨z,its,n,r,hl,e⟩:=I.gX hH;refine QZ F.slot_list_append ⟨_,e,rfl⟩ F.entry_list_append (F.args_list_append_2 _ _) (PySem.list_append l its.toArray n u<|by rw [Aw];omega) ⟨e,?_⟩;refine⟨.non,_,I.lv (its':=its++[u]) hH e (by simp) (r.append<|.cons ru .nil) ?_,rfl,q⟩;rw [Af,Cu];omega
def V3:V->List V->Hp->VK->Prop:=λx vs H Q=>∃ l b xs zs,x = .ref l/\vs=[.ref b]/\H l=some (.lst xs)/\H b=some (.lst zs)/\xs.length+zs.length<=sizeLine/\Q .non (upd H l<|.lst<|xs++zs)
theorem V4:qV X "list.extend" V3:=by
 intro pins s σ H x vs v us Q I rx rv h;obtain⟨l,b,xs,zs,rfl,rfl,hH,hB,hz,q⟩:=h;cases rx;obtain⟨u,rfl,ru⟩:=rv.one;cases ru;obtain⟨z,its,n,r,hl,e⟩:=I.gX hH;obtain⟨z2,dG,n2,r2,kC,e2⟩:=I.gX hB;have hsz:its.toArray.size+dG.toArray.size<=sizeLine:=by rw [Aw,Aw];omega
 have tI:¬(!its.toArray.isEmpty && Builtin.List.listTooLong (its.toArray.size+dG.toArray.size))=true:=by
  rw [V1 hsz,Gs];exact Av
 refine QZ F.slot_list_extend ⟨_,e,rfl⟩ F.entry_list_extend (F.args_list_extend_2 _ _)
  (AutoSeq1.list_extend_list_list_0 l its.toArray n b dG.toArray n2 tI (by rw [Aw];omega)<|by omega) ⟨e,e2,?_⟩
 refine⟨.non,_,I.lv (its':=its++dG) hH e (by simp) (r.append r2) ?_,rfl,q⟩;rw [Af];omega
def V5:V->List V->Hp->VK->Prop:=λx vs H Q=>∃ l xs i k y,x = .ref l/\vs=[.int i]/\H l=some (.lst xs)/\-(2 ^ 63)<=i/\i < 2 ^ 63/\seqIndex? i xs.length=some k/\xs[k]?=some y/\Q y (upd H l<|.lst<|xs.eraseIdx k)
theorem V6:qV X "list.pop" V5:=by
 intro pins s σ H x vs v us Q I rx rv h;obtain⟨l,xs,i,k,y,rfl,rfl,hH,h1,h2,hk,hy,q⟩:=h;cases rx;obtain⟨u,rfl,ru⟩:=rv.one;obtain⟨t,rfl⟩:=ru;obtain⟨z,its,n,r,hl,e⟩:=I.gX hH;obtain⟨w,hw,fK⟩:=r.get hy;refine QZ F.slot_list_pop ⟨_,e,rfl⟩ F.entry_list_pop (F.args_list_pop_2 _ _)
  (MeetsSeq.list_pop_at l its.toArray n i t k w (fitsIndex_both h1 h2) (by rw [Aw,<- hl];exact hk) (by rw [<- Bq];exact hw)<|by rw [Aw];omega) ⟨e,?_⟩
 refine⟨y,_,I.lv (its':=its.eraseIdx k) hH e ?_ (r.eraseIdx k) ?_,fK,q⟩
 ·show its.toArray.eraseIdxIfInBounds k=(its.eraseIdx k).toArray;rw [List.eraseIdxIfInBounds_toArray]
 ·have:=Md xs k;omega
def AH:R2:=λx y H Q=>∃ l b xs zs,x = .ref l/\y = .ref b/\H l=some (.lst xs)/\H b=some (.lst zs)/\xs.length+zs.length<=sizeLine/\∀ p,H p=none->Q (.ref p) (upd H p<|.lst<|xs++zs)
theorem V7:cG X (binaryOp .Add) AH:=by
 intro pins s σ H x y v u Q I rx ry h;obtain⟨l,b,xs,zs,rfl,rfl,hH,hB,hz,q⟩:=h;cases rx;cases ry;obtain⟨z,its,n,r,hl,e⟩:=I.gX hH;obtain⟨z2,dG,n2,r2,kC,e2⟩:=I.gX hB;refine PySem.P.add_list e e2 ?_ (by rw [Aw,Aw];omega);have ea:its.toArray++dG.toArray=(its++dG).toArray:=by simp
 rw [ea];exact⟨.ref _,_,I.oJ (t':=s.toks) (r.append r2) (by rw [Af];omega),rfl,q _ I.fresh⟩
end
section
variable{prog:Program}{w:World}{A:Around}{E:Value->Shared->Prop}{s:Shared}
end
section
variable{X:Cx}
end
end L2
namespace Mg
open PySem PySem.W PySem.Calls PyProof.Rows
theorem V8{P:Params}{h:Heap}:∀(ns:List Int) (vs:List Value),WellAll P h vs (ns.map WData.int)->IntsAre vs ns:=by
 intro ns
 induction ns with
 | nil=>
  intro vs w;rw [List.map_nil] at w;cases w;exact .nil
 | cons n ns ih=>
  intro vs w;rw [Bj] at w;cases w with
  | cons a b=>
   cases a;exact .cons _ _<|ih _ b
theorem V9{l:OpenLaw}{n:Nat}(hn:l.most=some n){P:Params}{h:Heap}{args:List WData}{vals:List Value}
  (lz:l.row.toRowW.claim.pre args=true) (AI:WellAll P h vals args) :
  ∃ a vs ns,vals=[Value.ref a]/\args=[WData.list<|ns.map WData.int]/\h.get? a=some {cls:= .type "list",data:= .seq vs.toArray}/\IntsAre vs ns/\ns.length<=n:=by
 have V':WShape.hasAll [] args [.list .int]=true:=(pre_splitW lz).1;have hc:l.pre.holds [] {args:=args}=true:=(pre_splitW lz).2;obtain⟨d,r,rfl,h1,h2⟩:=hasAllW_cons V';obtain rfl:=hasAllW_nil h2;obtain⟨xs,rfl,h3⟩:=hasW_list h1;obtain⟨ns,rfl⟩:=items_int h3;have hlen:ns.length<=n:=by
  unfold OpenLaw.pre at hc;have h4:(WTm.not<|.lt (.lit<|.int (n:Int))<|.len<|.arg 0).holds [] {args:=[.list<|ns.map .int]}=true:=by
   have h4:=(holds_andW hc).1;rw [hn] at h4;exact h4
  have h5:=condW_of h4<|w_not<|w_lt w_lit<|w_len_list<|w_arg rfl;rw [Aa] at h5;refine Nat.le_of_not_lt λq=>?_;have q':(n:Int) < ((ns.length:Nat):Int):=by omega
  first
   | (rw [BW q'] at h5;exact absurd h5<|by decide)
   | (simp at h5;omega)
 cases AI with
 | cons w1 w2=>
  cases w2;cases w1 with
  | list ho AJ=>exact⟨_,_,ns,rfl,rfl,ho,V8 ns _ AJ,hlen⟩
theorem Wa(l:OpenLaw)(args:List WData):l.row.toRowW.claim.post args (.bool true) args=true:=
 postW_of (r:=l.row.toRowW) (X:=(true == true))
  (show WShape.has [] (.bool true) .bool=true by first | rfl | decide | simp [WShape.has,WShape.arms,WShape.armsAll])
  (show(WTm.eq .res<|.lit<|.bool true).value [] {args:=args,res:=some<|.bool true,after:=args}=some (.bool<|true == true) from w_eq_bool (w_res rfl) w_lit) rfl
theorem fY{l:OpenLaw}{n:Nat}{q:Program}{loose:List Str}{XP:(Str->Option Value)->Heap->Prop}{YP:World->Heap->Prop}{d:DefRec}
  (hn:l.most=some n) (lB:d.params.defaults=[])
  (call : ∀ (w : World) (s₀ s₁ : Shared) (mg mb : Str → Option Value) (fa : Addr) (o : Obj) (pm cd doc : Value) (a : Addr) (vs : List Value) (ns : List Int),
   Ground q loose [] XP w s₀ mg mb s₁.heap->YP w s₁.heap ->
   s₁.heap.get? fa=some o->o.data = .func (docDef d.name d.params d.body d.scope pm cd doc)->s₁.heap.CodeRec cd d.name->mg d.name=some (.ref fa) ->
   s₁.heap.get? a=some {cls:= .type "list",data:= .seq vs.toArray}->IntsAre vs ns->ns.length<=n->s₁.gens=#[] ->
   codeAny (model l.prog w) callerA (.call (.ref fa) ⟨[.ref a],[]⟩) (λr s'=>r = .ok (.ret<|.bool true)/\OldK s₁.heap s'.heap/\s'.os=s₁.os/\AllBare s'.gens) s₁) :
  WalkO q loose XP YP l.row.toRowW d [] (λf vs=>PySem.call f vs):=by
 intro w s₀ s₁ mg mb G Y fa o pm cd doc dV kV ho hd ig hD tJ hg args vals as lz hlay hrd AI Mh;obtain rfl:dV = .none:=Dflts.none hD lB;obtain rfl:kV = .none:=Dflts.noKw hD;obtain⟨a,vs,ns,rfl,rfl,gY,hints,hlen⟩:=V9 hn lz AI;refine enter_call<|JK (call w s₀ s₁ mg mb fa o pm cd doc a vs ns G Y ho (fd_plain hd) ig tJ gY hints hlen hg) λr s' hq=>?_;obtain⟨rfl,h2,h3,h4⟩:=hq;exact⟨.inl ⟨.bool true,.bool true,[],rfl,λ_=>rfl,.bool true,Wa l _,λ_=>⟨List.Pairwise.nil,λ_ hm=>(nomatch hm)⟩⟩,h2,h3,h4⟩
section
variable{prog:Program}{w:World}{A:Around}{E:Value->Shared->Prop}{s:Shared}{K:Frag}
end
end Mg
namespace L2
open PySem PySem.Spec PyProof.Rows
theorem Mi:∀{vs:List Value} {ns:List Int},IntsAre vs ns->aw (ns.map V.int) vs
 | _,_,.nil=> .nil
 | _,_,.cons n t h=> .cons ⟨t,rfl⟩<|Mi h
def Only(H:Hp):Prop:=∀ b,H b=none\/∃ o xs,H b=some (.bX o<|.lst xs)
theorem Wb{P:Program}{w:World}{K:PySem.W.Frag}{mg mb:Str->Option Value}{CX:gH}{k:Nat}{fa a:Addr}{fd:FuncData}{x:Str}{sp:Sp}{s₁:Shared}{vs:List Value}{ns:List Int}
  (KX:K.In s₁.heap) (wW:s₁.heap.Ns mainGlobals mg) (hb:s₁.heap.Ns builtinsNs mb) (Wc:∀ x:Str,x ≠ "__name__"->mb x=bootBuiltins x) (AK:s₁.heap.NoLimit) (hg:s₁.gens=#[])
  (ha:s₁.heap.get? a=some {cls:= .type "list",data:= .seq vs.toArray}) (hi:IntsAre vs ns) (hl:ns.length<=sizeLine) (hr:bw k callerA)
  (F:∀ base:Heap,K.In base->base.Ns mainGlobals mg->aF P w K mg base CX k fa fd [x] sp) (tK:∀(s:Shared) (u:Value),BindsTo s fd ⟨[u],[]⟩ [(x,u)])
  (dX:∀ H:Hp,Only H->aq K H a (ns.map V.int)->sp [.ref a] H (λv _=>v = .bl true) λ_ _ _=>False)
  (AO:∀ H e s',CX [] H s₁ (λ_ _ _=>False) e s'->False) :
  codeAny (model P w) callerA (.call (.ref fa) ⟨[.ref a],[]⟩) (λr s'=>r = .ok (.ret<|.bool true)/\OldK s₁.heap s'.heap/\s'.os=s₁.os/\AllBare s'.gens) s₁:=by
 have rv:=Mi hi;have AQ:=hi.length;have core:∀ H:Hp,Only H->aq K H a (ns.map V.int)->b6 P w H s₁.heap->(∀ b,H b≠none->b=a)->(H a≠none->K.lookup a=none) ->
   codeAny (model P w) callerA (.call (.ref fa) ⟨[.ref a],[]⟩) (λr s'=>r = .ok (.ret<|.bool true)/\OldK s₁.heap s'.heap/\s'.os=s₁.os/\AllBare s'.gens) s₁:=by
  intro H hO hS aH hA hK;have iq:∀{b:Addr} {o:Obj},s₁.heap.get? b=some o->H b=none->(fh s₁.heap H).get? b=some o:=λe n=>Us e n;have tu:∀{b:Addr} {o:Obj} {es:Array DictEntry} {ep:Nat},s₁.heap.get? b=some o->o.data = .dict es ep->H b=none:=λ{b o es ep} e d=>by
   cases q:H b with
   | none=>rfl
   | some u=>
    have e':b=a:=hA b (by rw [q];simp);subst e';rw [ha] at e;cases e;have d':Data.seq vs.toArray _=Data.dict es ep:=d;cases d'
  have wX:∀{b:Addr} {m:Str->Option Value},s₁.heap.Ns b m->(fh s₁.heap H).Ns b m:=λ{b m} ⟨o,es,ep,e,d,r⟩=>⟨o,es,ep,iq e<|tu e d,d,r⟩;have Mj:K.In (fh s₁.heap H):=λb o e=>iq (KX b o e)<|by
   cases q:H b with
   | none=>rfl
   | some u=>
    have e':b=a:=hA b (by rw [q];simp);subst e';rw [hK<|by rw [q];simp] at e;cases e
  have hM:Mod K mg (fh s₁.heap H):=⟨Mj,wX wW,⟨mb,wX hb,Wc⟩,let ⟨mc,h1,h2⟩:=AK;⟨mc,wX h1,h2⟩⟩;have e0:li P w K mg (fh s₁.heap H) callerA [] s₁ H:=⟨rfl,hM,λb o e=>Ut e,Nat.le_of_eq<|Ur _ _,trivial,λb hb=>absurd (show b∈([]:List Addr) from hb) (by simp),aH,.of_eq hg⟩;refine JK ((F _ Mj<|wX wW).run callerA [] s₁ H ⟨[.ref a],[]⟩ [.ref a] [.ref a] _ _ hr e0 (tK s₁<|.ref a) (.cons rfl .nil)<|dX H hO hS) λr s' h=>?_;cases r with
  | error e=>exact(AO H e s' h).elim
  | ok fl=>
   cases fl with
   | next=>exact False.elim h
   | brk=>exact False.elim h
   | cont=>exact False.elim h
   | ret u=>
    obtain⟨v,H',os,bare,un,AT,r',q⟩:=h;have q':v = .bl true:=q;subst q';obtain rfl:u=Value.bool true:=r';refine⟨rfl,OldK.of_keep λb o e=>?_,os,bare⟩;cases q:H b with
    | none=>exact un.keep b o e q (by intro z;exact absurd (show b∈([]:List Addr) from z)<|by simp)<|by simp
    | some u=>
     rcases hO b with z | ⟨ob,xs,z⟩
     ·rw [q] at z;cases z
     ·have z2:=un.d9 b ob _ z;obtain⟨e1,_⟩:=aH b _ z;obtain⟨e2,_⟩:=AT b _ z2;rw [e] at e1;cases e1;exact e2
 cases hk:K.lookup a with
 | some o=>
  have e:=KX a o hk;rw [ha] at e;cases e;refine core (λ_=>none) (λ_=> .inl rfl) (.inr ⟨_,vs.toArray,_,hk,rfl,rfl,rfl,by rw [Aw,AQ];exact hl,by simpa using rv⟩) (λb u z=>by have z':(none:Option HO)=some u:=z;cases z') (λb z=>absurd rfl z) λz=>absurd rfl z
 | none=>
  refine core (λb=>if b=a then some (.bX {cls:= .type "list",data:= .seq vs.toArray}<|.lst<|ns.map V.int) else none) (λb=>?_) (.inl<|.inr ⟨{cls:= .type "list",data:= .seq vs.toArray},BP rfl⟩) (λb u z=>?_) (λb z=>?_) λ_=>hk
  ·by_cases hb:b=a
   ·exact .inr ⟨_,_,BP hb⟩
   ·exact .inl<|BK hb
  ·by_cases hb:b=a
   ·have z':=(BP hb).symm.trans z;cases z';subst hb;exact⟨ha,by rw [Aa];exact hl,vs,_,rv,ha⟩
   ·have z':=(BK hb).symm.trans z;cases z'
  ·by_cases hb:b=a
   ·exact hb
   ·exact absurd (BK hb) z
theorem lD{l:PySem.W.OpenLaw}{n k:Nat}{q:Program}{loose:List Str}{XP:(Str->Option Value)->Heap->Prop}{YP:World->Heap->Prop}{d:DefRec}{K:Params->PySem.W.Frag}{CX:World->gH}{sp:World->Sp}{x:Str}
  (hn:l.most=some n) (AU:n<=sizeLine) (lB:d.params.defaults=[]) (hr:bw k callerA)
  (hY:∀(w:World) (h:Heap),YP w h->(K w.params).In h)
  (F : ∀ (w : World) (mg : Str → Option Value) (fa : Addr) (h : Heap), (K w.params).In h → h.Ns mainGlobals mg → mg d.name = some (.ref fa) →
   ∃ fd:FuncData,(∀(s:Shared) (u:Value),BindsTo s fd ⟨[u],[]⟩ [(x,u)]) /\
    ∀ base:Heap,(K w.params).In base->base.Ns mainGlobals mg->aF l.prog w (K w.params) mg base (CX w) k fa fd [x] (sp w))
  (dX:∀(w:World) (H:Hp) (a:Addr) (ns:List Int),ns.length<=n->Only H->aq (K w.params) H a (ns.map V.int)->sp w [.ref a] H (λv _=>v = .bl true) λ_ _ _=>False)
  (AO:∀(w:World) (H:Hp) (s:Shared) (e:Value) (s':Shared),CX w [] H s (λ_ _ _=>False) e s'->False) :
  PySem.W.WalkO q loose XP YP l.row.toRowW d [] (λf vs=>PySem.call f vs):=by
 refine Mg.fY hn lB λw s₀ s₁ mg mb fa o pm cd doc a vs ns G Y ho hd ig tJ gY hints hlen hg=>?_;have KX:=hY w _ Y;obtain⟨fd,hb,hF⟩:=F w mg fa _ KX G.T.g tJ;exact Wb KX G.T.g G.T.b G.T.builtins G.T.nolimit hg gY hints (By hlen AU) hr hF hb (λH hO hS=>dX w H a ns hlen hO hS) λH e s'=>AO w H s₁ e s'
def mW(s:Stmt):Arguments:=match s with
 | .FunctionDef _ a _ _ _ _ _ _ _ _=>a
 | _=>{posonlyargs:=[],args:=[],vararg:=none,kwonlyargs:=[],kw_defaults:=[],kwarg:=none,defaults:=[]}
def iS(s:Stmt):List Stmt:=match s with
 | .FunctionDef _ _ b _ _ _ _ _ _ _=>b
 | _=>[]
def aW(s:Stmt):Scope:=match s with
 | .FunctionDef _ _ _ _ _ _ sc _ _ _=>sc
 | _=>{kind:= .function,names:=[],isGenerator:=false,isCoroutine:=false}
abbrev bJ:gH:=λ_ _ _ _ _ _=>False
abbrev E0:XK:=λ_ _ _=>False
theorem jE{X:Cx}:ll bJ X E0:=λ_ _ _ _ _ _ _ h=>h.elim
structure bx(K:PySem.W.Frag)(x qual:Str)(st:Stmt)(f:Addr)(fd:FuncData):Prop where
 ex:∃(oc:Value) (od:Option Addr) (kV doc pm:Value) (an:Option Addr) (bI ct:Value) (kA:Array<|Option Value),
  fd=PySem.W.fnOf x qual (mW st) (iS st) (aW st) .none kV doc pm an bI ct/\K.lookup f=some ⟨oc,od,.func fd,kA⟩/\PySem.W.codeIn K bI qual=true
 kp:PySem.W.keepIn K (.ref f)=true
section
variable{P:Program}{w:World}{K:PySem.W.Frag}{mg:Str->Option Value}{base:Heap}
theorem bx.ok{x qual:Str}{st:Stmt}{f:Addr}{fd:FuncData}{N ps:List Str}{k:Nat}{sp:Sp}(F:bx K x qual st f fd)(S:ak N ps<|aW st)(len:∀ vs H Q E,sp vs H Q E->vs.length=ps.length)
  (cQ : ∀ (bI : Value) (A : Around) (outer : List Env) (s : Shared) (H : Hp) (vs : List V) (Q : VK) (E : XK), bw k (A.deeper<|envOfC qual (aW st) s.heap.objs.size f bI) → sp vs H Q E →
   ∃ t,iN (c6 bJ P w K mg base N qual (aW st) f bI A outer s H E).qP (iS st) t/\t {nx:=λ_ H'=>Q .non H',rt:=Q} (start N vs) H):aF P w K mg base bJ (k+1) f fd ps sp:=by
 obtain⟨oc,od,kV,doc,pm,an,bI,ct,kA,rfl,lk,ig⟩:=F.ex;refine LZ lk ig S len λA outer s H vs Q E hr dX=>?_;obtain⟨t,h,q⟩:=cQ bI A outer s H vs Q E hr dX;exact⟨t,h.qP,q⟩
theorem bx.binds{x qual:Str}{st:Stmt}{f:Addr}{fd:FuncData}{ps:List Str}(F:bx K x qual st f fd)
  (h:∀(kV doc pm:Value) (an:Option Addr) (bI ct:Value) (us:List Value),us.length=ps.length->bindArgs (PySem.W.fnOf x qual (mW st) (iS st) (aW st) .none kV doc pm an bI ct) ⟨us,[]⟩=pure (ps.zip us)):Binds K fd ps []:=by
 obtain⟨oc,od,kV,doc,pm,an,bI,ct,kA,rfl,lk,ig⟩:=F.ex;exact .all<|h kV doc pm an bI ct
theorem Wd{x qual:Str}{st:Stmt}{f:Addr}{oc:Value}{od an:Option Addr}{kA:Array (Option Value)}{kV doc pm bI ct:Value}(l:K.lookup f=some ⟨oc,od,.func<|PySem.W.fnOf x qual (mW st) (iS st) (aW st) .none kV doc pm an bI ct,kA⟩)
  (c:PySem.W.codeIn K bI qual=true) (k:PySem.W.keepIn K (.ref f)=true):bx K x qual st f (PySem.W.fnOf x qual (mW st) (iS st) (aW st) .none kV doc pm an bI ct):=⟨⟨oc,od,kV,doc,pm,an,bI,ct,kA,rfl,l,c⟩,k⟩
end
section
variable{X:Cx}
end
theorem bG{A B:Prop}(h:B):if false=true then A else B:=by
 rw [BK Av];exact h
theorem cA{A B:Prop}(h:A):if true=true then A else B:=by
 rw [BP rfl];exact h
theorem jF{c A B:Prop} [Decidable c] (h1:c->A) (h2:¬ c->B):if c then A else B:=by
 by_cases h:c
 ·rw [BP h];exact h1 h
 ·rw [BK h];exact h2 h
def au(H H':Hp):Prop:=∀ b o,H b=some o->H' b=some o
theorem au.refl(H:Hp):au H H:=λ_ _ h=>h
theorem au.trans{H H1 H2:Hp}(a:au H H1)(b:au H1 H2):au H H2:=λc o h=>b c o<|a c o h
theorem au.free{H H':Hp}(e:au H H'){l:Addr}(h:H' l=Option.none):H l=Option.none:=by
 cases q:H l with
 | none=>rfl
 | some o=>
  rw [e l o q] at h;cases h
theorem au.seq{K:PySem.W.Frag}{H H':Hp}{a:Addr}{xs:List V}(e:au H H')(h:aq K H a xs):aq K H' a xs:=by
 rcases h with (h | ⟨o,h⟩) | h
 ·exact .inl<|.inl<|e _ _ h
 ·exact .inl<|.inr ⟨o,e _ _ h⟩
 ·exact .inr h
section
variable{κ:Type} [DecidableEq κ]
def aJ(kvs:List<|κ×V)(k:κ):Option V:=(kvs.find? λkv=>decide (kv.1=k)).map (·.2)
def putK(kvs:List<|κ×V)(k:κ)(v:V):List (κ×V):=
 if(kvs.any λkv=>decide (kv.1=k))=true then kvs.map (λkv=>if kv.1=k then(kv.1,v) else kv) else kvs++[(k,v)]
theorem iT{p:κ×V}{r:List (κ×V)}{k:κ}(e:p.1=k):aJ (p :: r) k=some p.2:=by simp [aJ,Fd,e]
theorem iU{p:κ×V}{r:List (κ×V)}{k:κ}(e:¬ p.1=k):aJ (p :: r) k=aJ r k:=by simp [aJ,Fd,e]
theorem qW(k:κ):∀ kvs:List<|κ×V,(kvs.any λkv=>decide (kv.1=k))=(aJ kvs k).isSome
 | []=>rfl
 | p :: r=>by
  rw [Eu]
  by_cases e:p.1=k
  ·simp only [iT e,BW e,Bool.true_or,Option.isSome_some]
  ·rw [iU e,BR e,Bool.false_or];exact qW k r
theorem Mk(k j:κ)(y:V):∀ kvs:List<|κ×V,aJ (kvs.map λkv=>if kv.1=k then(kv.1,y) else kv) j=(aJ kvs j).map λx=>if j=k then y else x
 | []=>rfl
 | p :: r=>by
  have ih:=Mk k j y r;rw [Bj]
  by_cases h:p.1=k
  ·rw [BP h]
   by_cases e:p.1=j
   ·rw [iT (p:=(p.1,y)) e,iT e,Gp,BP<|e.symm.trans h]
   ·rw [iU (p:=(p.1,y)) e,iU e,ih]
  ·rw [BK h]
   by_cases e:p.1=j
   ·rw [iT (p:=p) e,iT e,Gp,BK λz=>h<|e.trans z]
   ·rw [iU (p:=p) e,iU e,ih]
theorem Ml(k j:κ)(y:V):∀ kvs:List<|κ×V,aJ kvs k=none->aJ (kvs++[(k,y)]) j=if j=k then some y else aJ kvs j
 | [],_=>by
  by_cases e:k=j
  ·rw [BP e.symm];exact iT (p:=(k,y)) e
  ·rw [BK λz=>e z.symm];exact iU (p:=(k,y)) e
 | p :: r,hn=>by
  rw [Fq];have hk:¬ p.1=k:=λz=>by rw [iT z] at hn;cases hn
  rw [iU hk] at hn;have ih:=Ml k j y r hn
  by_cases e:p.1=j
  ·rw [iT e,iT e,BK λz=>hk<|e.trans z]
  ·rw [iU e,iU e,ih]
theorem eW(kvs:List<|κ×V)(k j:κ)(y:V):aJ (putK kvs k y) j=if j=k then some y else aJ kvs j:=by
 unfold putK
 by_cases a:(kvs.any λkv=>decide (kv.1=k))=true
 ·rw [BP a,Mk];rw [qW] at a
  by_cases e:j=k
  ·obtain⟨x,hx⟩:=Es.mp a;rw [BP e,e,hx,Gp,BP rfl]
  ·rw [BK e];cases aJ kvs j with
   | none=>rfl
   | some x=>rw [Gp,BK e]
 ·rw [BK a];refine Ml k j y kvs ?_;rw [qW] at a;cases q:aJ kvs k with
  | none=>rfl
  | some x=>rw [q] at a;exact(a rfl).elim
theorem iu(kvs:List<|κ×V)(k:κ)(v:V):(putK kvs k v).length<=kvs.length+1:=by
 unfold putK
 split
 ·rw [Aa];omega
 ·rw [Af,As,Eh];omega
theorem Mm{kvs:List (κ×V)}{k:κ}(v:V)(h:aJ kvs k=none):putK kvs k v=kvs++[(k,v)]:=by
 unfold putK;rw [qW,h];exact BK<|by decide
theorem dD.c7{o:Option V}{u:Option Value}(r:dD o u):o.isSome=u.isSome:=by
 cases o with
 | none=>cases u with
  | none=>rfl
  | some _=>exact(show False from r).elim
 | some _=>cases u with
  | none=>exact(show False from r).elim
  | some _=>rfl
theorem KV.val{kvs:List (κ×V)}{vs:List (κ×Value)}(r:KV kvs vs)(k:κ):dD (aJ kvs k) (valueAt vs k):=by
 unfold KV at r
 induction r with
 | nil=>exact True.intro
 | @cons p q ps qs h t ih=>
  obtain⟨h1,h2⟩:=h
  by_cases e:p.1=k
  ·have e':q.1=k:=h1.symm.trans e;have b:valueAt (q :: qs) k=some q.2:=by simp [valueAt,Fd,e']
   rw [iT e,b];exact h2
  ·have e':¬ q.1=k:=λz=>e<|h1.trans z;have b:valueAt (q :: qs) k=valueAt qs k:=by simp [valueAt,Fd,e']
   rw [iU e,b];exact ih
theorem KV.any{kvs:List (κ×V)}{vs:List (κ×Value)}(r:KV kvs vs)(k:κ):(kvs.any λkv=>decide (kv.1=k))=vs.any λkv=>decide (kv.1=k):=by
 unfold KV at r
 induction r with
 | nil=>rfl
 | cons h t ih=>rw [Eu,Eu,ih,h.1]
theorem KV.repl{kvs:List (κ×V)}{vs:List (κ×Value)}(r:KV kvs vs)(k:κ){y:V}{u:Value}(ry:RelV y u) :
  KV (kvs.map λkv=>if kv.1=k then(kv.1,y) else kv) (vs.map λkv=>if kv.1=k then(kv.1,u) else kv):=by
 unfold KV at r ⊢
 induction r with
 | nil=>exact .nil
 | @cons p q ps qs h t ih=>
  rw [Bj,Bj];refine .cons ?_ ih;obtain⟨h1,h2⟩:=h
  by_cases e:p.1=k
  ·rw [BP e,BP<|h1.symm.trans e];exact⟨h1,ry⟩
  ·rw [BK e,BK λz=>e<|h1.trans z];exact⟨h1,h2⟩
theorem KV.put{kvs:List (κ×V)}{vs:List (κ×Value)}(r:KV kvs vs)(k:κ){y:V}{u:Value}(ry:RelV y u):KV (putK kvs k y) (stored vs k u):=by
 unfold putK stored;rw [r.any k]
 by_cases e:(vs.any λkv=>decide (kv.1=k))=true
 ·rw [BP e,BP e];exact r.repl k ry
 ·rw [BK e,BK e];exact Paired.snoc r ⟨rfl,ry⟩
theorem KV.keys{kvs:List (κ×V)}{vs:List (κ×Value)}(r:KV kvs vs):kvs.map (·.1)=vs.map (·.1):=by
 unfold KV at r
 induction r with
 | nil=>rfl
 | cons h t ih=>rw [Bj,Bj,ih,h.1]
theorem KV.length{kvs:List (κ×V)}{vs:List (κ×Value)}(r:KV kvs vs):kvs.length=vs.length:=Paired.length r
end
theorem oK{P:Program}{w:World}{k:Key}{u:Value}(r:RelV (kV k) u):(dh P w).is k u=true:=by
 cases k with
 | inl i=>obtain⟨t,e⟩:=(show ∃ t,u=Value.int i t from r);subst e;exact Um P w i t
 | inr x=>obtain⟨t,e⟩:=(show ∃ t,u=Value.str x t from r);subst e;exact Uo P w x t
theorem Mp{P:Program}{w:World}:∀{ks:List Key} {us:List Value},aw (ks.map kV) us->ItemsAre (dh P w) ks us
 | [],_,r=>by rw [List.map_nil] at r;cases r;exact .nil
 | k :: ks,_,r=>by
  rw [Bj] at r;cases r with
  | cons h t=>exact .cons (oK h)<|Mp t
abbrev KT(H:Hp):List (List Key×V)->List (List Key×Addr×Value)->Prop:=Paired λp q=>p.1=q.1/\H q.2.1=some (.tup<|p.1.map kV)/\RelV p.2 q.2.2
theorem KT.val{H:Hp}{kvs:List (List Key×V)}{xs:List (List Key×Addr×Value)}(r:KT H kvs xs)(k:List Key):dD (aJ kvs k) ((atKey xs k).map (·.2)):=by
 induction r with
 | nil=>exact True.intro
 | @cons p q ps qs h t ih=>
  obtain⟨h1,_,h2⟩:=h
  by_cases e:p.1=k
  ·have e':q.1=k:=h1.symm.trans e;have b:atKey (q :: qs) k=some q.2:=by simp [atKey,Fd,e']
   rw [iT e,b];exact h2
  ·have e':¬ q.1=k:=λz=>e<|h1.trans z;have b:atKey (q :: qs) k=atKey qs k:=by simp [atKey,Fd,e']
   rw [iU e,b];exact ih
theorem KT.repl{H:Hp}{kvs:List (List Key×V)}{xs:List (List Key×Addr×Value)}(r:KT H kvs xs)(k:List Key){y:V}{u:Value}(ry:RelV y u) :
  KT H (kvs.map λkv=>if kv.1=k then(kv.1,y) else kv) (xs.map<|putAt k u):=by
 induction r with
 | nil=>exact .nil
 | @cons p q ps qs h t ih=>
  rw [Bj,Bj];refine .cons ?_ ih;obtain⟨h1,h2,h3⟩:=h;unfold putAt
  by_cases e:p.1=k
  ·rw [BP e,BP<|h1.symm.trans e];exact⟨h1,h2,ry⟩
  ·rw [BK e,BK λz=>e<|h1.trans z];exact⟨h1,h2,h3⟩
theorem KT.put{H:Hp}{kvs:List (List Key×V)}{xs:List (List Key×Addr×Value)}(r:KT H kvs xs)(k:List Key){b:Addr}{y:V}{u:Value}(hb:H b=some (.tup<|k.map kV))(ry:RelV y u) :
  KT H (putK kvs k y) (storedH xs k b u):=by
 have e:(kvs.any λkv=>decide (kv.1=k))=(atKey xs k).isSome:=by
  rw [qW,(r.val k).c7,Option.isSome_map]
 unfold putK storedH;rw [e]
 by_cases q:(atKey xs k).isSome=true
 ·rw [BP q,BP q];exact r.repl k ry
 ·rw [BK q,BK q];exact Paired.snoc r ⟨rfl,hb,ry⟩
theorem KT.keeps{H H':Hp}{kvs:List (List Key×V)}{xs:List (List Key×Addr×Value)}(r:KT H kvs xs)(ht:∀ b ys,H b=some (.tup ys)->H' b=some (.tup ys)):KT H' kvs xs:=
 Paired.oh r λ_ _ z=>⟨z.1,ht _ _ z.2.1,z.2.2⟩
section
variable{P:Program}{w:World}{H:Hp}{h:Heap}{a:Addr}
theorem Mq{u:HO}(ok:b6 P w H h)(e:Rd H a u):aC P w H h a u:=e.ok ok
theorem tL{kvs:List (Key×V)}(ok:b6 P w H h)(e:Rd H a<|.dK kvs):kvs.length<=sizeLine/\(a == sysModules)=false/\∃ vs,KV kvs vs/\h.DictOf (dh P w) a vs:=
 show aC P w H h a (.dK kvs) from Mq ok e
theorem AV{kvs:List (Key×V)}(ok:b6 P w H h)(e:H a=some (.dK kvs)):kvs.length<=sizeLine/\(a == sysModules)=false/\∃ vs,KV kvs vs/\h.DictOf (dh P w) a vs:=tL ok<|.inl e
theorem tM{ks:List Key}(ok:b6 P w H h)(e:H a=some (.tup<|ks.map kV)):(tupleKind<|dh P w).is h ks a:=by
 obtain⟨_,its,r,o,h1,h2,n,h3⟩:=(show aC P w H h a (.tup<|ks.map kV) from ok a _ e);exact⟨o,its.toArray,n,h1,h2,h3,by simpa using Mp r⟩
theorem wY{kvs:List (List Key×V)}(ok:b6 P w H h)(e:Rd H a<|.dT kvs):kvs.length<=sizeLine/\(a == sysModules)=false /\
  ∃ xs,KT H kvs xs/\h.DictOfH (tupleKind<|dh P w) a xs:=by
 obtain⟨z,y,xs,r,o,es,ep,h1,h2,h3,h4,h5⟩:=(show aC P w H h a (.dT kvs) from Mq ok e);refine⟨z,y,xs,r,o,es,ep,h1,h2,h3,h4,λx hx=>?_,h5⟩;have all:∀{l:List (List Key×V)} {m:List (List Key×Addr×Value)},KT H l m->∀ x∈m,(tupleKind<|dh P w).is h x.1 x.2.1:=by
  intro l m q
  induction q with
  | nil=>intro x hx;exact nomatch hx
  | @cons p q ps qs hq t ih=>
   intro x hx
   rcases Ai.mp hx with e | hx
   ·subst e;exact tM ok<|by rw [<- hq.1];exact hq.2.1
   ·exact ih x hx
 exact all r x hx
theorem Mr{kvs:List (List Key×V)}(ok:b6 P w H h)(e:H a=some (.dT kvs)):kvs.length<=sizeLine/\(a == sysModules)=false /\
  ∃ xs,KT H kvs xs/\h.DictOfH (tupleKind<|dh P w) a xs:=wY ok<|.inl e
end
def bn(H:Hp)(a:Addr)(y:V)(r:Option V):Prop:=
 (∃ kvs k,Rd H a (.dK kvs)/\y=kV k/\r=aJ kvs k)\/∃ kvs k b,Rd H a (.dT kvs)/\y = .ref b/\H b=some (.tup<|k.map kV)/\r=aJ kvs k
def cB(H:Hp)(a:Addr)(y v:V)(H':Hp):Prop:=
 (∃ kvs k,H a=some (.dK kvs)/\y=kV k/\kvs.length < sizeLine/\H'=upd H a (.dK<|putK kvs k v)) \/
 ∃ kvs k b,H a=some (.dT kvs)/\y = .ref b/\H b=some (.tup<|k.map kV)/\kvs.length < sizeLine/\H'=upd H a (.dT<|putK kvs k v)
theorem bn.k{H:Hp}{a:Addr}{kvs:List (Key×V)}{k:Key}(e:H a=some (.dK kvs)):bn H a (kV k) (aJ kvs k):= .inl ⟨kvs,k,.inl e,rfl,rfl⟩
theorem bn.t{H:Hp}{a b:Addr}{kvs:List (List Key×V)}{k:List Key}(e:H a=some (.dT kvs))(eb:H b=some (.tup<|k.map kV)):bn H a (.ref b) (aJ kvs k):= .inr ⟨kvs,k,b,.inl e,rfl,eb,rfl⟩
theorem cB.k{H:Hp}{a:Addr}{kvs:List (Key×V)}{k:Key}{v:V}(e:H a=some (.dK kvs))(hl:kvs.length < sizeLine):cB H a (kV k) v (upd H a<|.dK<|putK kvs k v):= .inl ⟨kvs,k,e,rfl,hl,rfl⟩
theorem cB.t{H:Hp}{a b:Addr}{kvs:List (List Key×V)}{k:List Key}{v:V}(e:H a=some (.dT kvs))(eb:H b=some (.tup<|k.map kV))(hl:kvs.length < sizeLine) :
  cB H a (.ref b) v (upd H a<|.dT<|putK kvs k v):= .inr ⟨kvs,k,b,e,rfl,eb,hl,rfl⟩
section
variable{X:Cx}{pins:List (Addr×Obj)}{σ:St}{H:Hp}{s:Shared}{a:Addr}{y v:V}{u r:Value}{o:Option V}{A:Around}{E:Value->Shared->Prop}
theorem Inv.big(I:Inv X pins σ H s):sysModules < s.heap.objs.size:=by
 have h:mainGlobals < s.heap.objs.size:=(I.mod.glob.keeps I.bk).lt;exact Nat.lt_trans (by decide) h
theorem Wf{Q:Value->Shared->Prop}(hu:A.units+1 < cLine)(I:Inv X pins σ H s)(g:bn H a y<|some v)(ry:RelV y u)(h:∀ w' s',Inv X pins σ H s'->RelV v w'->Q w' s') :
  wpAny (model X.prog X.w) A (getItem (.ref a) u) Q E s:=by
 rcases g with ⟨kvs,k,e,ey,l⟩ | ⟨kvs,k,b,e,ey,eb,l⟩
 ·subst ey;obtain⟨z,hd,vs,rel,dd⟩:=tL I.aH e;obtain⟨w',hw,fK⟩:=dD.some_of (v:=v) (o:=valueAt vs k) (by rw [l];exact rel.val k);exact wpAny_getItem_of (oK ry) dd.mapOf hw<|h w' _ (I.tok _) fK
 ·subst ey;cases (show u=Value.ref b from ry);obtain⟨z,hd,xs,rel,dd⟩:=wY I.aH e;obtain⟨w',hw,fK⟩:=dD.some_of (v:=v) (o:=(atKey xs k).map (·.2)) (by rw [l];exact rel.val k);obtain⟨p,hp,iV⟩:=Az.mp hw;refine wpAny_getItem_heap (QD hu) (tM I.aH eb) dd hp ?_;rw [iV];exact h w' _ (I.tok _) fK
theorem AW{Q:Value->Shared->Prop}(hu:A.units+1 < cLine)(I:Inv X pins σ H s)(g:bn H a y o)(ry:RelV y u)(h:∀ s',Inv X pins σ H s'->Q (.bool o.isSome) s') :
  wpAny (model X.prog X.w) A (compareOp .In u<|.ref a) Q E s:=by
 rcases g with ⟨kvs,k,e,ey,l⟩ | ⟨kvs,k,b,e,ey,eb,l⟩
 ·subst ey;obtain⟨z,hd,vs,rel,dd⟩:=tL I.aH e;refine wpAny_in_of (oK ry) hd dd.mapOf ?_;rw [<- (rel.val k).c7,<- l];exact h _<|I.tok _
 ·subst ey;cases (show u=Value.ref b from ry);obtain⟨z,hd,xs,rel,dd⟩:=wY I.aH e;refine wpAny_in_heap (QD hu) (tM I.aH eb) hd dd ?_;have q:=(rel.val k).c7;rw [Option.isSome_map] at q;rw [<- q,<- l];exact h _<|I.tok _
theorem mX{h':Heap}{t':Nat}{ob:HO}(I:Inv X pins σ H s)(mu:sM<|H a)(hs:Heap.SameBut a s.heap h')(he:∃ q,h'.get? a=some q)(new:aC X.prog X.w (upd H a ob) h' a ob) :
  Inv X pins σ (upd H a ob) {s with heap:=h',toks:=t'}:=
 I.write (x:=a) (e:=a) mu (.inl rfl) (λb q hb z=>(hs.2 b hb).trans z) he new
theorem AX{P:Program}{w:World}{H':Hp}{h':Heap}{kvs:List (Key×V)}{vs:List (Key×Value)}(z:kvs.length<=sizeLine)(hd:(a == sysModules)=false)(rel:KV kvs vs)(dd:h'.DictOf (dh P w) a vs) :
  aC P w H' h' a (.dK kvs):=⟨z,hd,vs,rel,dd⟩
theorem Wg{H':Hp}{Q:Unit->Shared->Prop}(hu:A.units+1 < cLine)(I:Inv X pins σ H s)(g:cB H a y v H')(ry:RelV y u)(rv:RelV v r)(h:∀ s',Inv X pins σ H' s'->Q () s') :
  wpAny (model X.prog X.w) A (setItem (.ref a) u r) Q E s:=by
 rcases g with ⟨kvs,k,e,ey,l,eH⟩ | ⟨kvs,k,b,e,ey,eb,l,eH⟩
 ·subst ey eH;obtain⟨z,hd,vs,rel,dd⟩:=AV I.aH e;have hz:vs.length<=sizeLine:=by rw [<- rel.length];exact z
  have hl:(putK kvs k v).length<=sizeLine:=by have:=iu kvs k v;omega
  refine wpAny_setItem_pairs (hsz:=hz) (oK ry) dd λh' jo hs=>h _ ?_;have he:∃ q,h'.get? a=some q:=let ⟨q,_,_,hq,_⟩:=jo;⟨q,hq⟩
  exact mX I (by rw [e];exact True.intro) hs he<|AX hl hd (rel.put k rv) jo
 ·subst ey eH;cases (show u=Value.ref b from ry);obtain⟨z,hd,xs,rel,dd⟩:=Mr I.aH e;have hz:xs.length<=sizeLine:=by rw [<- Paired.length rel];exact z
  have hl:(putK kvs k v).length<=sizeLine:=by have:=iu kvs k v;omega
  refine wpAny_setItem_heap (hsz:=hz) (QD hu) (tM I.aH eb) dd λh' jo hs=>h _ ?_;obtain⟨q,es,ep,hq,h2,h3,h4,_,h5⟩:=jo;refine mX I (by rw [e];exact True.intro) hs ⟨q,hq⟩ ⟨hl,hd,_,(rel.put k eb rv).keeps λc ys ec=>?_,q,es,ep,hq,h2,h3,h4,h5⟩;rw [ay<|bU ec e λz=>nomatch z];exact ec
end
section
variable{X:Cx}{pins:List (Addr×Obj)}{σ:St}{H:Hp}{s:Shared}{a:Addr}{kvs:List (Key×V)}{k:Key}{u:Value}{A:Around}{E:Value->Shared->Prop}
end
def oM(i:Expr):Prop:=∀ ov iv,subscripted i false ov iv=operate [ov,iv] (getItem ov iv)
theorem Wh{prog:Program}{w:World}{A:Around}{E:Value->Shared->Prop}{s:Shared}{env:Env}{value slice:Expr}{pos:Pos}{T id:String}{Q:Value->Shared->Prop}
  (hl:typeLookup (.type T) "__getitem__" = pure (some<|.builtin id)) (hs:oM slice)
  (h:wpAny (model prog w) A (eval value env) (λo s₁=>wpAny (model prog w) A (eval slice env) (λi s₂=>s₂.TypeIs o T/\wpAny (model prog w) A (getItem o i) Q E s₂) E s₁) E s) :
  wpAny (model prog w) A (eval (.Subscript value slice pos) env) Q E s:=by
 refine QX<|CT h (λo s₁ h₁=>CT h₁ (λi s₂ h₂=>?_) λ_ _ x=>x) λ_ _ x=>x;obtain⟨hT,h₂⟩:=h₂;unfold subscriptTail;refine BJ ?_;rw [getitemInPython_of_ne hT.not_modules];refine BJ<|RZ hT hl ?_;have fin:wpAny (model prog w) A (subscripted slice false o i) (λr s₃=>wpAny (model prog w) A (letTemporaryGo value o r >>= λ_=>pure r) Q E s₃) E s₂:=by
  rw [hs o i];exact wpAny_operating<|CT h₂ (λr s₃ h₃=>BJ<|wpAny_letTemporaryGo<|BL h₃) λ_ _ x=>x
 first
  | exact BL<|BJ fin
  | exact BJ<|BL<|BJ fin
  | exact BJ fin
theorem Wi{X:Cx}{pins:List (Addr×Obj)}{σ:St}{H:Hp}{s:Shared}{a:Addr}{y:V}{o:Option V}(I:Inv X pins σ H s)(g:bn H a y o):s.TypeIs (.ref a) "dict":=by
 rcases g with ⟨kvs,k,e,_,_⟩ | ⟨kvs,k,b,e,_,_,_⟩
 ·obtain⟨_,_,vs,_,dd⟩:=tL I.aH e;exact dd.typeIs
 ·obtain⟨_,_,xs,_,dd⟩:=wY I.aH e;exact dd.typeIs
def Wj(td ty:TE):TE:=λσ H Q=>td σ H λx H1=>ty σ H1 λy H2=>∃ a v,x = .ref a/\bn H2 a y (some v)/\Q v H2
def AY(ty td:TE):TE:=λσ H Q=>ty σ H λy H1=>td σ H1 λx H2=>∃ a o,x = .ref a/\bn H2 a y o/\Q (.bl o.isSome) H2
def Wk(td ty tv:TE):TS:=λD σ H=>tv σ H λv H1=>td σ H1 λx H2=>ty σ H2 λy H3=>∃ a H4,x = .ref a/\cB H3 a y v H4/\D.nx σ H4
section
variable{X:Cx}{o i e value:Expr}{pos pos' zV:Pos}{td ty tv:TE}
theorem Wl(hu:X.A.units+1 < cLine)(ho:PE X o td)(hi:PE X i ty)(hs:oM i):PE X (.Subscript o i pos) (Wj td ty):=by
 intro pins s σ H Q I h;refine Wh PySem.F.slot_dict_getitem.lookup hs<|aP (ho pins s σ H _ I h) λu s1 ⟨x,H1,I1,rx,q1⟩=>aP (hi pins s1 σ H1 _ I1 q1) λiv s2 ⟨y,H2,I2,ry,a,v,ex,g,q2⟩=>?_;subst ex;obtain rfl:u=Value.ref a:=rx;exact⟨Wi I2 g,Wf hu I2 g ry λw' s3 I3 fK=>⟨v,H2,I3,fK,q2⟩⟩
theorem Wm(hu:X.A.units+1 < cLine)(hi:PE X i ty)(ho:PE X o td):PC X .In i o (AY ty td):=by
 intro pins s σ H Q I h;refine aP (hi pins s σ H _ I h) λiv s1 ⟨y,H1,I1,ry,q1⟩=>aP (ho pins s1 σ H1 _ I1 q1) λu s2 ⟨x,H2,I2,rx,a,ov,ex,g,q2⟩=>?_;subst ex;obtain rfl:u=Value.ref a:=rx;exact AW hu I2 g ry λs3 I3=>⟨.bl ov.isSome,H2,I3,rfl,q2⟩
theorem Wn(hu:X.A.units+1 < cLine)(ho:PE X o td)(hi:PE X i ty)(hv:PE X value tv)(hs:swapsWith value (some<|.Subscript o i pos') pos.line X.env=pure false) :
  PS X (.Assign [.Subscript o i pos'] value pos) (Wk td ty tv):=by
 intro pins s σ H D I h;refine wpAny_Assign_Subscript (aP (hv pins s σ H _ I h) λr s1 ⟨v,H1,I1,rv,q1⟩=>aP (ho pins s1 σ H1 _ I1 q1) λu s2 ⟨x,H2,I2,rx,q2⟩=>aP (hi pins s2 σ H2 _ I2 q2) λiv s3 ⟨y,H3,I3,ry,a,H4,ex,g,q3⟩=>?_) hs;subst ex;obtain rfl:u=Value.ref a:=rx;exact Wg hu I3 g ry rv λs4 I4=>⟨σ,H4,I4,q3⟩
end
theorem Wo{P:Program}{w:World}{H:Hp}(h:Heap)(hb:sysModules < h.objs.size):aC P w H (h.push {cls:= .type "dict",data:= .dict #[]}) h.objs.size (.dK []):=
 ⟨Bt _,beq_eq_false_iff_ne.mpr<|CK<|Bn hb,[],.nil,Heap.DictOf.new h⟩
theorem AZ{P:Program}{w:World}{H:Hp}(h:Heap)(hb:sysModules < h.objs.size):aC P w H (h.push {cls:= .type "dict",data:= .dict #[]}) h.objs.size (.dT []):=
 ⟨Bt _,beq_eq_false_iff_ne.mpr<|CK<|Bn hb,[],.nil,_,#[],0,At _ rfl,⟨rfl,rfl,rfl⟩,rfl,rfl,Ch⟩
def Wp:TE:=λ_ H Q=>∀ p,H p=none->Q (.ref p) (upd H p<|.dK [])
def Wq:TE:=λ_ H Q=>∀ p,H p=none->Q (.ref p) (upd H p<|.dT [])
section
variable{X:Cx}{pos:Pos}
theorem Wr:PE X (.Dict [] [] pos) Wp:=λpins s σ H Q I h=>
 wpAny_Dict_empty ⟨.ref s.heap.objs.size,_,I.laid (a:=s.heap.objs.size) (o:= .dK []) (t':=s.toks) (λ_ _ q=>Ag _ q) (Al _)<|Wo s.heap I.big,rfl,h _<|I.aH.fresh<|Al _⟩
theorem Ws:PE X (.Dict [] [] pos) Wq:=λpins s σ H Q I h=>
 wpAny_Dict_empty ⟨.ref s.heap.objs.size,_,I.laid (a:=s.heap.objs.size) (o:= .dT []) (t':=s.toks) (λ_ _ q=>Ag _ q) (Al _)<|AZ s.heap I.big,rfl,h _<|I.aH.fresh<|Al _⟩
end
section
variable{X:Cx}{pins:List (Addr×Obj)}{σ:St}{H:Hp}{s:Shared}{a:Addr}{y d:V}{u r:Value}{o:Option V}{A:Around}{E:Value->Shared->Prop}
end
section
variable{X:Cx}{o e f:Expr}{apos fk:Pos}{td ty tx:TE}
end
section
variable{X:Cx}{pins:List (Addr×Obj)}{σ:St}{H:Hp}{s:Shared}{a:Addr}{kvs:List (Key×V)}{A:Around}{E:Value->Shared->Prop}
end
section
variable{X:Cx}{pins:List (Addr×Obj)}{σ:St}{H:Hp}{s:Shared}{a:Addr}{y:V}{u:Value}{A:Around}{E:Value->Shared->Prop}
end
section
variable{X:Cx}
end
section
variable{κ:Type} [DecidableEq κ]
theorem A0{kvs:List (κ×V)}{k:κ}{v:V}(h:aJ kvs k=some v):k∈kvs.map (·.1):=by
 have q:(kvs.any λkv=>decide (kv.1=k))=true:=by
  rw [qW,h]
  all_goals rfl
 obtain⟨p,hp,e⟩:=List.any_eq_true.mp q;exact An.mpr ⟨p,hp,BX e⟩
theorem oO:∀{l:List κ} {k:κ},l.Nodup->¬ k∈l->(l++[k]).Nodup
 | [],k,_,_=>by simp
 | a :: r,k,h,hk=>by
  obtain⟨h1,h2⟩:=Bf.mp h;show(a :: (r++[k])).Nodup;refine Bf.mpr ⟨λm=>?_,oO h2 λm=>hk<|Ai.mpr<|Or.inr m⟩
  rcases Am.mp m with q | q
  ·exact h1 q
  ·exact hk<|Ai.mpr<|Or.inl (Ad.mp q).symm
end
section
variable{X:Cx}{tg:Expr}
end
theorem Mt{env:Env}:∀{names:List (Str×NameKind)} {x:Str} {k':NameKind},
  (names.map λ(n,k)=>if(k == NameKind.free && env.scope.kind == .function && env.kindOf n == some .cell) then(n,NameKind.cell) else(n,k)).lookup x=some k' ->
  ∃ k,names.lookup x=some k/\(k'=k\/(k = .free/\k' = .cell))
 | [],_,_,h=>by simp at h
 | (n,k) :: r,x,k',h=>by
  have ih:=@Mt env r x k'
  change List.lookup x ((if(k == NameKind.free && env.scope.kind == .function && env.kindOf n == some .cell)=true then(n,NameKind.cell) else(n,k)) :: _)=_ at h
  cases hx:x == n with
  | true=>
   by_cases hc:(k == NameKind.free && env.scope.kind == .function && env.kindOf n == some .cell)=true
   ·rw [BP hc] at h;simp only [Dp,hx] at h;cases h;have hk:k = .free:=by
     have:=(Bv _ _ ▸ (Bv _ _ ▸ hc).1).1;cases k <;> first | rfl | (exact absurd this<|by decide)
    exact⟨k,by simp [Dp,hx],.inr ⟨hk,rfl⟩⟩
   ·rw [BK hc] at h;simp only [Dp,hx] at h;cases h;exact⟨k,by simp [Dp,hx],.inl rfl⟩
  | false=>
   have h2:∃ k,r.lookup x=some k/\(k'=k\/(k = .free/\k' = .cell)):=by
    by_cases hc:(k == NameKind.free && env.scope.kind == .function && env.kindOf n == some .cell)=true
    ·rw [BP hc] at h;simp only [Dp,hx] at h;exact ih h
    ·rw [BK hc] at h;simp only [Dp,hx] at h;exact ih h
   obtain⟨k2,e2,r2⟩:=h2;exact⟨k2,by simp [Dp,hx,e2],r2⟩
def cD(names:List<|Str×NameKind)(cells:List<|Str×Addr)(acc:List<|Str×Addr):List (Str×Addr):=
 names.foldl (λa x=>if x.2 == .free then(match cells.lookup x.1 with | some c=>(x.1,c) :: a | none=>a) else a) acc
theorem A1{scope:Scope}{env:Env}(h:∀ x∈scope.names,x.2 = .free->∃ c,env.cells.lookup x.1=some c):closureFor scope env=pure (cD scope.names env.cells []):=by
 have all:∀(l:List<|Str×NameKind) (acc:List<|Str×Addr),(∀ x∈l,x.2 = .free->∃ c,env.cells.lookup x.1=some c) ->
   (forIn l acc λ(x:Str×NameKind) (cs:List<|Str×Addr)=>(if x.2 == .free then(do let c <- cellOf env x.1;pure (ForInStep.yield<|(x.1,c) :: cs)) else pure (ForInStep.yield cs):Sem _))=pure (cD l env.cells acc):=by
  intro l
  induction l with
  | nil=>intro acc _;rfl
  | cons x r ih=>
   intro acc hl;rw [SJ];have hr:∀ y∈r,y.2 = .free->∃ c,env.cells.lookup y.1=some c:=λy hy=>hl y<|Ah _ hy;cases hk:x.2 == .free with
   | true=>
    have Wt:x.2 = .free:=by
     revert hk
     cases x.2 <;> intro hk <;> first | rfl | (exact absurd hk<|by decide)
    obtain⟨c,hc⟩:=hl x Ae Wt;simp only [DK,cellOf,hc];rw [show cD (x :: r) env.cells acc=cD r env.cells ((x.1,c) :: acc) by unfold cD;rw [Dg];simp [hk,hc]];exact ih _ hr
   | false=>
    simp only [Bb,CV];rw [show cD (x :: r) env.cells acc=cD r env.cells acc by unfold cD;rw [Dg];simp [hk]];exact ih _ hr
 have q:=all scope.names [] h;simp only [closureFor];exact(BZ (· >>= λr=>pure r) q).trans rfl
theorem A2:∀(names:List<|Str×NameKind) (cells acc:List<|Str×Addr),(∀ x c,(x,c)∈acc->cells.lookup x=some c)->∀ x c,(x,c)∈cD names cells acc->cells.lookup x=some c
 | [],_,_,h=>h
 | y :: r,cells,acc,h=>by
  have e:cD (y :: r) cells acc=cD r cells (if y.2 == .free then(match cells.lookup y.1 with | some c=>(y.1,c) :: acc | none=>acc) else acc):=rfl;rw [e];refine A2 r cells _ ?_;cases hk:y.2 == .free with
  | false=>simpa using h
  | true=>
   cases hc:cells.lookup y.1 with
   | none=>simpa using h
   | some c=>
    intro x d hx;simp only [DK] at hx
    rcases Ai.mp hx with e | hx
    ·cases e;exact hc
    ·exact h x d hx
theorem Mu:∀(names:List<|Str×NameKind) (cells acc:List<|Str×Addr) (x:Str) (c:Addr),(x,c)∈acc->(x,c)∈cD names cells acc
 | [],_,_,_,_,h=>h
 | y :: r,cells,acc,x,c,h=>by
  have e:cD (y :: r) cells acc=cD r cells (if y.2 == .free then(match cells.lookup y.1 with | some c=>(y.1,c) :: acc | none=>acc) else acc):=rfl;rw [e];refine Mu r cells _ x c ?_;cases hk:y.2 == .free with
  | false=>simpa using h
  | true=>
   cases hc:cells.lookup y.1 with
   | none=>simpa using h
   | some d=>simp only [DK];exact Ah _ h
theorem A3:∀(names:List<|Str×NameKind) (cells acc:List<|Str×Addr) (x:Str) (c:Addr),(x,NameKind.free)∈names->cells.lookup x=some c->(x,c)∈cD names cells acc
 | [],_,_,_,_,h,_=>by cases h
 | y :: r,cells,acc,x,c,h,hc=>by
  have e:cD (y :: r) cells acc=cD r cells (if y.2 == .free then(match cells.lookup y.1 with | some c=>(y.1,c) :: acc | none=>acc) else acc):=rfl;rw [e]
  rcases Ai.mp h with e2 | h
  ·subst e2;refine Mu r cells _ x c ?_;have:(NameKind.free == NameKind.free)=true:=rfl;simp only [hc,this,DK];exact Ae
  ·exact A3 r cells _ x c h hc
theorem A4{α:Type}:∀{l:List (Str×α)} {x:Str} {c:α},(x,c)∈l->∃ d,l.lookup x=some d
 | [],_,_,h=>by cases h
 | (n,d) :: r,x,c,h=>by
  cases hx:x == n with
  | true=>exact⟨d,by simp [Dp,hx]⟩
  | false=>
   rcases Ai.mp h with e | h
   ·cases e;simp at hx
   ·obtain⟨d',e⟩:=A4 h;exact⟨d',by simp [Dp,hx,e]⟩
section
variable{prog:Program}{w:World}{A:Around}{R:Result->Shared->Prop}{s:Shared}
theorem k1i{elt target iter:Expr}{ifs:List Expr}{scope:Scope}{pos:Pos}{it acc:Value}{env:Env}(I:Nat->Shared->Prop)
  (turn : ∀ n s, I n s → wpAny (model prog w) A (pyNext it) (λr s₁ => match r with
   | none=>R (.ok .next) s₁
   | some v=>wpAny (model prog w) A (letOwnedTupleGo target it v) (λ_ s₁'=>wpAny (model prog w) A (assign target env v) (λ_ s₂=>
     wpAny (model prog w) A (forIn ifs true λc r=>if r=true then do let ok <- isTrue c env<|eval c env;pure (ForInStep.yield ok) else pure (ForInStep.yield r)) (λok s₃=>
      if ok=true then wpAny (model prog w) A (eval elt env) (λx s₄=>
       wpAny (model prog w) A (call (.builtin "list.append") [acc,x]) (λ_ s₅=>∃ m,m < n/\I m s₅) (notedBy (model prog w) A env λe s'=>R (.error e) s') s₄) (notedBy (model prog w) A env λe s'=>R (.error e) s') s₃
      else ∃ m,m < n/\I m s₃) (notedBy (model prog w) A env λe s'=>R (.error e) s') s₂) (notedBy (model prog w) A env λe s'=>R (.error e) s') s₁') (notedBy (model prog w) A env λe s'=>R (.error e) s') s₁) (notedBy (model prog w) A env λe s'=>R (.error e) s') s)
  (n:Nat) (h:I n s) :
  codeAny (model prog w) A (.compLoop (.ListComp elt [⟨target,iter,ifs,0⟩] scope pos) 0 it acc env) R s:=by
 refine codeAny_loop rfl I (λn s hI=>?_) n h;show wpAny _ A ((compTurn (.ListComp elt [⟨target,iter,ifs,0⟩] scope pos) 0 it acc env).onRaise λx=>do noteFrame x env;theTreesLotGoes x) _ _ s;refine wpAny_noted ?_;rw [compTurn_list];refine BJ<|FZ<|BJ<|CT (turn n s hI) (λr s₁ h₁=>?_) λ_ _ h'=>h';cases r with
 | none=>exact BL h₁
 | some v=>
  refine BJ<|CT h₁ (λ_ s₁' h₁'=>?_) λ_ _ h'=>h';refine BJ<|CT h₁' (λ_ s₂ h₂=>BJ<|CT h₂ (λok s₃ h₃=>?_) λ_ _ h'=>h') λ_ _ h'=>h';cases ok with
  | false=>exact BL ⟨rfl,h₃⟩
  | true=>
   exact BJ<|BJ<|CT h₃ (λx s₄ h₄=>BJ<|CT h₄ (λ_ s₅ h₅=>BL<|BL ⟨rfl,h₅⟩) λ_ _ h'=>h') λ_ _ h'=>h'
end
def Mv(X:Cx)(ifs:List Expr)(t:TT):Prop:=
 ∀(pins:List<|Addr×Obj) (s:Shared) (σ:St) (H:Hp) (Q:Bool->Hp->Prop),Inv X pins σ H s->t σ H Q ->
  wpAny (model X.prog X.w) X.A (forIn ifs true λc r=>if r=true then do let ok <- isTrue c X.env<|eval c X.env;pure (ForInStep.yield ok) else pure (ForInStep.yield r)) (TP X pins σ Q) X.xe s
def A5:TT:=λ_ H Q=>Q true H
theorem Wu{X:Cx}:Mv X [] A5:=λ_ _ _ H _ I h=>wpAny_tests_nil ⟨H,I,h⟩
theorem Wv{X:Cx}{c:Expr}{t:TT}(h:PT X c t):Mv X [c] t:=λpins s σ H Q I hq=>wpAny_tests_one<|h pins s σ H Q I hq
def eX(X:Cx)(N':List Str)(scope:Scope)(cl:List<|Str×Addr)(C:Addr)(s₀:Shared)(H₀:Hp)(ex:List Addr):Cx:=
 {prog:=X.prog,w:=X.w,K:=X.K,mg:=X.mg,base:=X.base,A:=X.A,N:=N',s₀:=s₀,H₀:=H₀,env:=compEnvC scope cl C X.env,outer:=X.stack,stack:=X.stack,ex:=ex,fn:=λx=>match scope.names.lookup x with | some .cell=>true | _=>false,calm:=X.calm,pn:=[],xe:=λ_ _=>False}
theorem iW{α:Type}{t:Sem α}{Q Q':α->Shared->Prop}{M:Model}{A:Around}{E:Value->Shared->Prop}{s:Shared}(h:wpAny M A t Q (λ_ _=>False) s)(hQ:∀ a s,Q a s->Q' a s):wpAny M A t Q' E s:=CT h hQ λ_ _ z=>z.elim
section
variable{X:Cx}
theorem tN:fT X (.builtin "isinstance") (λxs H Q=>∃ x t T b,xs=[x,.ty T]/\cZ X.K H x t/\PySem.W.kitOne X.K t (.type T)=some b/\Q (.bl b) H):=by
 intro pins s σ H xs us Q I r h;obtain⟨x,t,T,b,rfl,ty,e,q⟩:=h;obtain⟨u,w',rfl,ru,fK⟩:=vals2 r;cases (show w'=Value.type T from fK);exact Vu I ru ty e λtk=>⟨.bl b,H,I.tok tk,rfl,q⟩
theorem Ww:cG X (binaryOp .Mult) (λx y H Q=>∃ z i,x = .str z/\y = .int i/\0<=i/\i<=100000/\z.length * i.toNat<=100000/\Q (.str<|Txt.mul z i) H):=by
 intro pins s σ H x y v u Q I rx ry h;obtain⟨z,i,rfl,rfl,h0,h1,h2,q⟩:=h;obtain⟨t,rfl⟩:=rx;obtain⟨t',rfl⟩:=ry;have hsz:sizeLine=16777216:=DX;refine SB.mul ⟨?_,λh3 h4=>?_,λh3 h4=>?_⟩ λt' k=>⟨.str _,H,I.tok k,⟨_,rfl⟩,q⟩
 ·rw [BR (by omega),BR<|by omega];rfl
 ·have h5:(z.length:Int)<=100000:=by
   have h6:z.length * 1<=z.length * i.toNat:=Nat.mul_le_mul_left _ (by omega);omega
  have h7:(100000:Int)<=(2 ^ 63 - 1) / i:=by
   rw [Int.le_ediv_iff_mul_le<|by omega];have:(100000:Int) * i<=100000 * 100000:=Int.mul_le_mul_of_nonneg_left h1 (by decide);have e:(2:Int) ^ 63 - 1=9223372036854775807:=by decide
   omega
  omega
 ·unfold Builtin.Str.tooLong;rw [hsz];exact BR<|by omega
end
def isStar:Expr->Bool
 | .Starred _ _=>true
 | _=>false
def noStar(es:List Expr):Bool:=es.all λe=>!isStar e
theorem oP(e:Expr)(es:List Expr)(env:Env)(h:isStar e=false):starEach (e :: es) env=(false,eval e env) :: starEach es env:=by
 cases e <;> first | rfl | (exact absurd h<|by simp [isStar])
theorem wZ(pos:Pos)(env:Env):∀ es:List Expr,noStar es=true->(backTo pos<|starEach es env).any (·.1)=false
 | [],_=>rfl
 | e :: es,h=>by
  have h':(!isStar e)=true/\noStar es=true:=by
   have:=h;unfold noStar at this ⊢;rw [Gv,Bv] at this;exact this
  have hs:isStar e=false:=by
   have:=h'.1;cases q:isStar e with
   | true=>rw [q] at this;cases this
   | false=>rfl
  rw [oP e es env hs];show(false || (backTo pos<|starEach es env).any (·.1))=false;rw [wZ pos env es h'.2];rfl
theorem qX{e:Expr}{es:List Expr}(h:noStar (e :: es)=true):isStar e=false/\noStar es=true:=by
 unfold noStar at h ⊢;rw [Gv,Bv] at h;refine⟨?_,h.2⟩;cases q:isStar e with
 | true=>rw [q] at h;cases h.1
 | false=>rfl
section
variable{X:Cx}{CX:gH}{k:Nat}{f C:Addr}{fd:FuncData}{ps:List Str}{sp:Sp}{lj:List V}{ds:List Value}{E:XK}{x m:Str}{p pos apos:Pos}{e o:Expr}{es:List Expr}{ta te:TE}{t:TA}{id T:String}{r:List V->Hp->VK->Prop}
theorem Wx(ha:PE X e te)(hr:PA X es t)(hs:isStar e=false:=by rfl):PA X (e :: es) (LL te t):=Vw ha hr<|oP _ _ _ hs
theorem Wy(F:aF X.prog X.w X.K X.mg X.base CX k f fd ps sp)(hr:bw k X.A)(hm:X.mg x=some (.ref f))(hk:PySem.W.keepIn X.K (.ref f)=true)(hb:Binds X.K fd ps [])(hx:ll CX X E)
  (ha:PA X (e :: es) t) (hg:Gl X x:=by rfl) (di:(x == ("__debug__" : Str))=false:=by decide) (hs:noStar (e :: es)=true:=by rfl):PE X (.Call (.Name x p) (e :: es) [] pos) (LN sp [] E t):=
 VA F hr hg hm hk hb .nil hx ha di (oP _ _ _ (qX hs).1) (wZ _ _ _ (qX hs).2)
theorem A6(hc:fT X (.builtin id) r)(hm:X.mg x=none)(hv:bootBuiltins x=some (.builtin id))(ha:PA X (e :: es) t)(hg:Gl X x:=by rfl)(hn:x ≠ "__name__":=by decide)(di:(x == ("__debug__" : Str))=false:=by decide)
  (hs:noStar (e :: es)=true:=by rfl):PE X (.Call (.Name x p) (e :: es) [] pos) (wV r t):=
 VH hc hg hm hv ha hn di (oP _ _ _ (qX hs).1) (wZ _ _ _ (qX hs).2)
theorem A7(hc:fT X (.type T) r)(hm:X.mg x=none)(hv:bootBuiltins x=some (.type T))(ha:PA X (e :: es) t)(hg:Gl X x:=by rfl)(hn:x ≠ "__name__":=by decide)(di:(x == ("__debug__" : Str))=false:=by decide)
  (hs:noStar (e :: es)=true:=by rfl):PE X (.Call (.Name x p) (e :: es) [] pos) (wV r t):=
 VI hc hg hm hv ha hn di (oP _ _ _ (qX hs).1) (wZ _ _ _ (qX hs).2)
end
structure Ev(X:Cx)(e:Expr)(σ:St)(H:Hp)(Q:VK):Prop where
 run:∀(pins:List<|Addr×Obj) (s:Shared),Inv X pins σ H s->wpAny (model X.prog X.w) X.A (eval e X.env) (EP X pins σ Q) X.xe s
structure Et(X:Cx)(e:Expr)(σ:St)(H:Hp)(Q:Bool->Hp->Prop):Prop where
 run:∀(pins:List<|Addr×Obj) (s:Shared),Inv X pins σ H s->wpAny (model X.prog X.w) X.A (isTrue e X.env<|eval e X.env) (TP X pins σ Q) X.xe s
structure Ew(X:Cx)(e:Expr)(σ:St)(H:Hp)(Q:Bool->Hp->Prop):Prop where
 run:∀(whole:Sem Value) (pins:List<|Addr×Obj) (s:Shared),Inv X pins σ H s->wpAny (model X.prog X.w) X.A (isTrue e X.env whole) (TP X pins σ Q) X.xe s
structure Ea(X:Cx)(es:List Expr)(σ:St)(H:Hp)(Q:List V->Hp->Prop):Prop where
 run:∀(pos:Pos) (pins:List<|Addr×Obj) (s:Shared),Inv X pins σ H s->wpAny (model X.prog X.w) X.A (spliced<|backTo pos<|starEach es X.env) (AP X pins σ Q) X.xe s
structure Eo(X:Cx)(e:Option Expr)(σ:St)(H:Hp)(Q:Option Int->Hp->Prop):Prop where
 run:∀(pins:List<|Addr×Obj) (s:Shared),Inv X pins σ H s->wpAny (model X.prog X.w) X.A (evalPart e X.env) (λu s'=>∃ o H',Inv X pins σ H' s'/\IsPart u o/\Q o H') X.xe s
structure Eg(X:Cx)(e:Expr)(v:V)(σ:St)(H:Hp)(Q:St->Hp->Prop):Prop where
 run:∀(pins:List<|Addr×Obj) (s:Shared) (u:Value),Inv X pins σ H s->RelV v u->wpAny (model X.prog X.w) X.A (assign e X.env u) (λ_ s'=>∃ σ' H',Inv X pins σ' H' s'/\Q σ' H') X.xe s
structure Run(X:Cx)(l:List Stmt)(D:Ends)(σ:St)(H:Hp):Prop where
 run:∀(pins:List<|Addr×Obj) (s:Shared),Inv X pins σ H s->wpAny (model X.prog X.w) X.A (execs l X.env) (SP X pins D) X.xe s
def Wz(X:Cx)(e:Expr):TE:=λσ H Q=>Ev X e σ H Q
def WB(X:Cx)(e:Expr):TT:=λσ H Q=>Et X e σ H Q
def WC(X:Cx)(e:Expr):TT:=λσ H Q=>Ew X e σ H Q
def tO(X:Cx)(es:List Expr):TA:=λσ H Q=>Ea X es σ H Q
def WD(X:Cx)(e:Option Expr):TO:=λσ H Q=>Eo X e σ H Q
def WG(X:Cx)(e:Expr):TG:=λv σ H Q=>Eg X e v σ H Q
def A8(X:Cx)(l:List Stmt):TS:=λD σ H=>Run X l D σ H
section
variable{X:Cx}{e a b c o:Expr}{es:List Expr}{st:Stmt}{rest body kD:List Stmt}{σ:St}{H:Hp}{Q:VK}{T:Bool->Hp->Prop}{L:List V->Hp->Prop}{D:Ends}{pos p p2:Pos}
theorem bH:PE X e (Wz X e):=λpins s _ _ _ I h=>h.run pins s I
theorem lE:PT X e (WB X e):=λpins s _ _ _ I h=>h.run pins s I
theorem Mw:PW X e (WC X e):=λwh pins s _ _ _ I h=>h.run wh pins s I
theorem iw:PA X es (tO X es):=λpos pins s _ _ _ I h=>h.run pos pins s I
theorem Mx{e:Option Expr}:PO X e (WD X e):=λpins s _ _ _ I h=>h.run pins s I
theorem oQ:PG X e (WG X e):=λpins s _ _ _ u _ I r h=>h.run pins s u I r
theorem oR{l:List Stmt}:iN X l (A8 X l):=λpins s _ _ _ I h=>h.run pins s I
theorem dZ{t:TE}(h1:PE X e t)(h2:t σ H Q):Ev X e σ H Q:=⟨λpins s I=>h1 pins s σ H Q I h2⟩
theorem tP{t:TT}(h1:PT X e t)(h2:t σ H T):Et X e σ H T:=⟨λpins s I=>h1 pins s σ H T I h2⟩
theorem w5{t:TT}(h1:PW X e t)(h2:t σ H T):Ew X e σ H T:=⟨λwh pins s I=>h1 wh pins s σ H T I h2⟩
theorem My{t:TA}(h1:PA X es t)(h2:t σ H L):Ea X es σ H L:=⟨λpos pins s I=>h1 pos pins s σ H L I h2⟩
theorem Mz{e:Option Expr}{t:TO}{R:Option Int->Hp->Prop}(h1:PO X e t)(h2:t σ H R):Eo X e σ H R:=⟨λpins s I=>h1 pins s σ H R I h2⟩
theorem A9{t:TG}{v:V}{R:St->Hp->Prop}(h1:PG X e t)(h2:t v σ H R):Eg X e v σ H R:=⟨λpins s u I r=>h1 pins s σ H v u R I r h2⟩
theorem lF{t:TS}(h1:PS X st t)(h2:t {D with nx:=λσ' H'=>Run X rest D σ' H'} σ H):Run X (st :: rest) D σ H:=⟨λpins s I=>UQ h1 oR pins s σ H D I h2⟩
theorem bo(h:D.nx σ H):Run X [] D σ H:=⟨λpins s I=>UP pins s σ H D I h⟩
theorem Ev.mono{Q':VK}(h:Ev X e σ H Q)(f:∀ v H',Q v H'->Q' v H'):Ev X e σ H Q':=⟨λpins s I=>aP (h.run pins s I) λ_ _ ⟨v,H',I',r,q⟩=>⟨v,H',I',r,f v H' q⟩⟩
theorem Et.mono{T':Bool->Hp->Prop}(h:Et X e σ H T)(f:∀ v H',T v H'->T' v H'):Et X e σ H T':=⟨λpins s I=>aP (h.run pins s I) λv _ ⟨H',I',q⟩=>⟨H',I',f v H' q⟩⟩
theorem Ea.mono{L':List V->Hp->Prop}(h:Ea X es σ H L)(f:∀ v H',L v H'->L' v H'):Ea X es σ H L':=⟨λpos pins s I=>aP (h.run pos pins s I) λ_ _ ⟨v,H',I',r,q⟩=>⟨v,H',I',r,f v H' q⟩⟩
theorem ae(i:Nat){x:Str}{v:V}(h:Q v H)(hv:σ[i]?=some (some v):=by rfl)(hN:X.N[i]?=some x:=by rfl)(hs:zx X.env.scope x:=by first | exact Or.inl rfl | exact Or.inr (Or.inl rfl) | exact Or.inr<|Or.inr rfl)(hd:(x == ("__debug__" : Str))=false:=by decide)
  (ig:(x == ("__classdict__" : Str))=false:=by decide):Ev X (.Name x p) σ H Q:=dZ (Uv (i:=i) hN hs hd ig) ⟨v,hv,h⟩
theorem aD{i:Int}{j:Nat}(h:Q (.int i) H):Ev X (.Constant (.int i) j p) σ H Q:=dZ (Uw) h
theorem WH{i:Bool}{j:Nat}(h:Q (.bl i) H):Ev X (.Constant (.bool i) j p) σ H Q:=dZ (Ux) h
theorem iX{i:Str}{j:Nat}(h:Q (.str i) H):Ev X (.Constant (.str i) j p) σ H Q:=dZ (Uy) h
theorem tQ{x:Str}(v:V){u:Value}(hm:X.mg x=none)(hv:bootBuiltins x=some u)(r:RelV v u)(h:Q v H)(hg:Gl X x:=by rfl)(hn:x ≠ "__name__":=by decide)(hd:(x == ("__debug__" : Str))=false:=by decide):Ev X (.Name x p) σ H Q:=dZ (Uz hg hm hv r hn hd) h
theorem a9{op:Operator}{r:R2}(ho:cG X (binaryOp op) r)(h:Ev X a σ H λx H1=>Ev X b σ H1 λy H2=>r x y H2 Q):Ev X (.BinOp a op b pos) σ H Q:=dZ (Vd ho bH bH) h
theorem MA{op:UnaryOp}{r:V->Hp->VK->Prop}(ho:wO X (unaryOp op) r)(h:Ev X a σ H λx H1=>r x H1 Q):Ev X (.UnaryOp op a pos) σ H Q:=dZ (Ve ho bH) h
theorem tR{op:CmpOp}{r:R2}(ho:cG X (compareOp op) r)(h:Ev X a σ H λx H1=>Ev X b σ H1 λy H2=>r x y H2 Q)(hm:behindInMarks op b=false:=by with_unfolding_all rfl):Ev X (.Compare a [op] [b] pos) σ H Q:=dZ (Vl ho bH bH hm) h
theorem WK(h:Et X c σ H λk H1=>if k=true then Ev X a σ H1 Q else Ev X b σ H1 Q):Ev X (.IfExp c a b pos) σ H Q:=dZ (UN lE bH bH) h
theorem aU{r:R2}(hr:tE X r)(h:Ev X a σ H λx H1=>Ev X b σ H1 λy H2=>r x y H2 Q)(hs:L0 b:=by intro _ _;rfl):Ev X (.Subscript a b pos) σ H Q:=dZ (VU hr bH bH hs) h
theorem MB{r:V->Option Int->Option Int->Hp->VK->Prop}{lo hi:Option Expr}(hr:z6 X r)(h:Ev X a σ H λx H1=>Eo X lo σ H1 λl H2=>Eo X hi σ H2 λu H3=>r x l u H3 Q):Ev X (.Subscript a (.Slice lo hi none p2) pos) σ H Q:=dZ (VP hr bH Mx Mx) h
theorem MC{R:Option Int->Hp->Prop}(h:R none H):Eo X none σ H R:=Mz (VM) h
theorem MD{R:Option Int->Hp->Prop}(h:Ev X a σ H λx H1=>∃ i,x = .int i/\R (some i) H1):Eo X (some a) σ H R:=Mz (VN bH) h
theorem az(h:L [] H):Ea X [] σ H L:=My (Vv) h
theorem ai(h:Ev X e σ H λx H1=>Ea X es σ H1 λxs H2=>L (x :: xs) H2)(hs:isStar e=false:=by rfl):Ea X (e :: es) σ H L:=My (Wx bH iw hs) h
theorem dB{k:Nat}(h:Ea X es σ H λxs H1=>xs.length<=sizeLine/\∀ p,H1 p=none->Q (.ref p) (upd H1 p<|.tup xs)):Ev X (.Tuple es k pos) σ H Q:=dZ (Vx iw) h
theorem d3(h:Ea X es σ H λxs H1=>xs.length<=sizeLine/\∀ p,H1 p=none->Q (.ref p) (upd H1 p<|.lst xs)):Ev X (.List es pos) σ H Q:=dZ (Vy iw) h
theorem ME{CX:gH}{k:Nat}{f:Addr}{fd:FuncData}{ps:List Str}{sp:Sp}{E:XK}{x:Str}(F:aF X.prog X.w X.K X.mg X.base CX k f fd ps sp)(hr:bw k X.A)(hm:X.mg x=some (.ref f))(hk:PySem.W.keepIn X.K (.ref f)=true)(hb:Binds X.K fd ps [])(hx:ll CX X E)
  (h:Ea X (e :: es) σ H λvs H1=>sp vs H1 Q E) (hg:Gl X x:=by rfl) (di:(x == ("__debug__" : Str))=false:=by decide) (hs:noStar (e :: es)=true:=by rfl):Ev X (.Call (.Name x p) (e :: es) [] pos) σ H Q:=
 dZ (Wy F hr hm hk hb hx iw hg di hs) (show Ea X (e :: es) σ H _ from h.mono λvs H1 q=>by rw [Be];exact q)
theorem ce{id:String}{r:List V->Hp->VK->Prop}{x:Str}(hc:fT X (.builtin id) r)(hm:X.mg x=none)(hv:bootBuiltins x=some (.builtin id))(h:Ea X (e :: es) σ H λvs H1=>r vs H1 Q)(hg:Gl X x:=by rfl)(hn:x ≠ "__name__":=by decide)(di:(x == ("__debug__" : Str))=false:=by decide)
  (hs:noStar (e :: es)=true:=by rfl):Ev X (.Call (.Name x p) (e :: es) [] pos) σ H Q:=dZ (A6 hc hm hv iw hg hn di hs) h
theorem mY{T:String}{r:List V->Hp->VK->Prop}{x:Str}(hc:fT X (.type T) r)(hm:X.mg x=none)(hv:bootBuiltins x=some (.type T))(h:Ea X (e :: es) σ H λvs H1=>r vs H1 Q)(hg:Gl X x:=by rfl)(hn:x ≠ "__name__":=by decide)(di:(x == ("__debug__" : Str))=false:=by decide)
  (hs:noStar (e :: es)=true:=by rfl):Ev X (.Call (.Name x p) (e :: es) [] pos) σ H Q:=dZ (A7 hc hm hv iw hg hn di hs) h
theorem cE{op:CmpOp}{r:R2}(ho:cG X (compareOp op) r)(h:Ev X a σ H λx H1=>Ev X b σ H1 λy H2=>r x y H2 λz H3=>∃ k,z = .bl k/\T k H3)(hm:behindInMarks op b=false:=by with_unfolding_all rfl):Et X (.Compare a [op] [b] pos) σ H T:=tP (Vn ho bH bH hm) h
theorem tT(h:Et X a σ H λk H1=>T (!k) H1):Et X (.UnaryOp .Not a pos) σ H T:=tP (UK lE) h
theorem qY(h:Ev X e σ H λx H1=>∃ k,x = .bl k/\T k H1)(he:∀ whole,isTrue e X.env whole=(do let v <- whole;standAt e.pos;holding [v] (truthy v)):=by intro _;rfl):Et X e σ H T:=tP (UB bH he) h
theorem WL(h:Ev X e σ H λx H1=>∃ k,oE X.K x H1 k/\T k H1)(he:∀ whole,isTrue e X.env whole=(do let v <- whole;standAt e.pos;holding [v] (truthy v)):=by intro _;rfl):Et X e σ H T:=tP (Vq bH he) h
theorem qZ(h:Ew X e σ H T):Et X e σ H T:=⟨λpins s I=>h.run _ pins s I⟩
theorem WM(h:Et X a σ H λk H1=>if k=true then Ew X (.BoolOp .And (b :: es) pos) σ H1 T else T false H1):Ew X (.BoolOp .And (a :: b :: es) pos) σ H T:=w5 (UH lE Mw) h
theorem mZ(h:Et X a σ H λk H1=>if k=true then T true H1 else Ew X (.BoolOp .Or (b :: es) pos) σ H1 T):Ew X (.BoolOp .Or (a :: b :: es) pos) σ H T:=w5 (UI lE Mw) h
theorem WN(h:Et X a σ H T):Ew X (.BoolOp .And [a] pos) σ H T:=w5 (UD lE) h
theorem tU(h:Et X a σ H T):Ew X (.BoolOp .Or [a] pos) σ H T:=w5 (UE lE) h
theorem bg(i:Nat){x:Str}{v:V}{R:St->Hp->Prop}(hN:X.N.Nodup)(h:R (σ.set i<|some v) H)(hi:X.N[i]?=some x:=by rfl)(hx:Loc X.env.scope x:=by first | exact Or.inl rfl | exact Or.inr rfl)(hf:X.fn x=true\/X.env.scope.names.lookup x=some .local:=by first | exact .inl rfl | exact .inr rfl | assumption):Eg X (.Name x p) v σ H R:=A9 (UY hN hi hx hf) h
theorem a7(i:Nat){x:Str}{pos':Pos}(hN:X.N.Nodup)(h:Ev X e σ H λv H1=>Run X rest D (σ.set i<|some v) H1)(hi:X.N[i]?=some x:=by rfl)(hx:Loc X.env.scope x:=by first | exact Or.inl rfl | exact Or.inr rfl)(hs:swapsWith e (some<|.Name x pos') pos.line X.env=pure false:=by rfl)
  (hf:X.fn x=true\/X.env.scope.names.lookup x=some .local:=by first | exact .inl rfl | exact .inr rfl | assumption):Run X (.Assign [.Name x pos'] e pos :: rest) D σ H:=lF (U0 hN hi hx bH hs hf) h
theorem eY(h:Et X c σ H λk H1=>if k=true then Run X body {D with nx:=λσ' H'=>Run X rest D σ' H'} σ H1 else Run X kD {D with nx:=λσ' H'=>Run X rest D σ' H'} σ H1):Run X (.If c body kD pos :: rest) D σ H:=lF (UX lE oR oR) h
theorem MG(φ ψ:Prop)(hc:∀ T:Bool->Hp->Prop,(∀ k:Bool,(k=true->φ)->(k=false->ψ)->T k H)->Et X c σ H T)(ht:φ->Run X body {D with nx:=λσ' H'=>Run X rest D σ' H'} σ H)(hu:ψ->Run X kD {D with nx:=λσ' H'=>Run X rest D σ' H'} σ H):Run X (.If c body kD pos :: rest) D σ H:=
 eY (hc _ λk p q=>by
  cases k with
  | true=>rw [BP rfl];exact ht<|p rfl
  | false=>rw [BK Av];exact hu<|q rfl)
theorem bO(h:Ev X e σ H D.rt):Run X (.Return (some e) pos :: rest) D σ H:=lF (UU bH) h
theorem gZ(h:Ev X e σ H λ_ H1=>Run X rest D σ H1)(hs:swapsWith e none pos.line X.env=pure false:=by rfl):Run X (.Expr e pos :: rest) D σ H:=lF (UT bH hs) h
theorem w6{tg:Expr}(h:Ev X e σ H λv H1=>Eg X tg v σ H1 λσ' H'=>Run X rest D σ' H')(hs:swapsWithSole [tg] e pos.line X.env=pure false:=by rfl)(hw:swappedStores [tg] e X.env=pure none:=by rfl)
  (h1:(assignEach [tg] X.env).map (·.2)=[assign tg X.env]:=by rfl):Run X (.Assign [tg] e pos :: rest) D σ H:=lF (UZ bH oQ hs hw h1) h
def Loop(X:Cx)(tg:Expr)(body:List Stmt)(J:It)(D:Ends)(after:St->Hp->Prop)(σ:St)(H:Hp):Prop:=
 ∃ W:Nat->Nat->St->Hp->Prop,(∃ m,W 0 m σ H)/\∀ i m σ H,W i m σ H->(J.stop i H/\after σ H)\/(J.go i H/\∃ N:St->Hp->Prop,(∀ σ' H',N σ' H'->∃ m',m' < m/\W (i+1) m' σ' H') /\
  ∀ x H',J.sV i H x H'->Eg X tg x σ H' λσ2 H2=>Run X body {D with nx:=N,ct:=N,bk:=after} σ2 H2)
theorem BA{tg iter:Expr}{wi:TI}(hi:PI X tg iter wi)(h:wi σ H λJ H1=>Loop X tg body J D (λσ' H'=>Run X rest D σ' H') σ H1)(hp:PassesOwn (model X.prog X.w) X.A X.env X.xe:=by exact NZ)(hc:X.calm=true:=by rfl)
  (hs:∀ x,foldedSetIterable iter X.env x=pure x:=by intro _;rfl):Run X (.For tg iter body [] pos :: rest) D σ H:=lF (U' hp hc hi oQ oR hs) h
theorem lG{tg:Expr}{q:Pos}(hm:X.mg "range" = none)(h:Ev X a σ H λx H1=>∃ j:Int,x = .int j/\-(2 ^ 62)<=j/\j < 2 ^ 62/\Loop X tg body (qS 0 j.toNat) D (λσ' H'=>Run X rest D σ' H') σ H1)(hg:Gl X "range":=by rfl)(hp:PassesOwn (model X.prog X.w) X.A X.env X.xe:=by exact NZ)(hc:X.calm=true:=by rfl)(hs:isStar a=false:=by rfl) :
  Run X (.For tg (.Call (.Name "range" q) [a] [] p) body [] pos :: rest) D σ H:=
 BA (wi:=Lj<|tO X [a]) (Ln hg hm iw<|oP a [] _ hs) (show Ea X [a] σ H _ from ai (h.mono λx H1 ⟨j,e,h1,h2,h3⟩=>az ⟨j,by rw [e],h1,h2,h3⟩) hs) hp hc (by intro _;rfl)
theorem kE{tg iter:Expr}(h:Ev X iter σ H λx H1=>∃ a,x = .ref a/\(∃ xs,aq X.K H1 a xs)/\Loop X tg body (ou X.K a) D (λσ' H'=>Run X rest D σ' H') σ H1)(hp:PassesOwn (model X.prog X.w) X.A X.env X.xe:=by exact NZ)(hc:X.calm=true:=by rfl)
  (hs:∀ x,foldedSetIterable iter X.env x=pure x:=by intro _;rfl):Run X (.For tg iter body [] pos :: rest) D σ H:=BA (fQ bH) h hp hc hs
theorem lH{tg:Expr}{lo:Int}{n:Nat}{after:St->Hp->Prop}(Pv:Nat->St->Hp->Prop)(h0:Pv 0 σ H)
  (hs:∀ i σ H,i < n->Pv i σ H->Eg X tg (.int<|lo+i) σ H λσ2 H2=>Run X body {D with nx:=Pv<|i+1,ct:=Pv<|i+1,bk:=after} σ2 H2) (hd:∀ σ H,Pv n σ H->after σ H):Loop X tg body (qS lo n) D after σ H:=by
 refine⟨λi m σ H=>m=n - i/\i<=n/\Pv i σ H,⟨n,by simp,Bt _,h0⟩,?_⟩;rintro i m σ H ⟨rfl,hi,p⟩
 by_cases aY:i < n
 ·refine .inr ⟨aY,Pv<|i+1,λσ' H' p'=>⟨n - (i+1),by omega,rfl,aY,p'⟩,λx H' y=>?_⟩;obtain⟨e,y⟩:=y;subst e y;exact hs i σ _ aY p
 ·have e:i=n:=by omega
  subst e;exact .inl ⟨Al _,hd σ H p⟩
theorem q97{tg:Expr}{at_:Addr}{xs:List V}{after:St->Hp->Prop}(Pv:Nat->St->Hp->Prop)(h0:Pv 0 σ H)(hl:∀ i σ H,i<=xs.length->Pv i σ H->aI X.K H at_ xs)
  (hs:∀ i x σ H,xs[i]?=some x->Pv i σ H->Eg X tg x σ H λσ2 H2=>Run X body {D with nx:=Pv<|i+1,ct:=Pv<|i+1,bk:=after} σ2 H2) (hd:∀ σ H,Pv xs.length σ H->after σ H):Loop X tg body (wM X.K at_) D after σ H:=by
 refine⟨λi m σ H=>m=xs.length - i/\i<=xs.length/\Pv i σ H,⟨xs.length,by simp,Bt _,h0⟩,?_⟩;rintro i m σ H ⟨rfl,hi,p⟩;have q:=hl i σ H hi p
 by_cases aY:i < xs.length
 ·refine .inr ⟨⟨xs,xs[i],q,by simp [aY]⟩,Pv<|i+1,λσ' H' p'=>⟨xs.length - (i+1),by omega,rfl,aY,p'⟩,λx H' y=>?_⟩;obtain⟨e,y⟩:=y;subst e;exact hs i x σ _ (y xs q) p
 ·have e:i=xs.length:=by omega
  subst e;exact .inl ⟨⟨xs,q,Al _⟩,hd σ H p⟩
theorem kF{tg:Expr}{at_:Addr}{xs:List V}{after:St->Hp->Prop}(Pv:Nat->St->Hp->Prop)(h0:Pv 0 σ H)(hl:∀ i σ H,i<=xs.length->Pv i σ H->aq X.K H at_ xs)
  (hs:∀ i x σ H,xs[i]?=some x->Pv i σ H->Eg X tg x σ H λσ2 H2=>Run X body {D with nx:=Pv<|i+1,ct:=Pv<|i+1,bk:=after} σ2 H2) (hd:∀ σ H,Pv xs.length σ H->after σ H):Loop X tg body (ou X.K at_) D after σ H:=by
 refine⟨λi m σ H=>m=xs.length - i/\i<=xs.length/\Pv i σ H,⟨xs.length,by simp,Bt _,h0⟩,?_⟩;rintro i m σ H ⟨rfl,hi,p⟩;have q:=hl i σ H hi p
 by_cases aY:i < xs.length
 ·refine .inr ⟨⟨xs,xs[i],q,by simp [aY]⟩,Pv<|i+1,λσ' H' p'=>⟨xs.length - (i+1),by omega,rfl,aY,p'⟩,λx H' y=>?_⟩;obtain⟨e,y⟩:=y;subst e;exact hs i x σ _ (y xs q) p
 ·have e:i=xs.length:=by omega
  subst e;exact .inl ⟨⟨xs,q,Al _⟩,hd σ H p⟩
theorem bx.go{P:Program}{w:World}{K:PySem.W.Frag}{mg:Str->Option Value}{base:Heap}{x qual:Str}{st:Stmt}{f:Addr}{fd:FuncData}{N ps:List Str}{k:Nat}{sp:Sp}(F:bx K x qual st f fd)(S:ak N ps<|aW st)(len:∀ vs H Q E,sp vs H Q E->vs.length=ps.length)
  (cQ : ∀ (bI : Value) (A : Around) (outer : List Env) (s : Shared) (H : Hp) (vs : List V) (Q : VK) (E : XK), bw k (A.deeper<|envOfC qual (aW st) s.heap.objs.size f bI) → sp vs H Q E →
   Run (c6 bJ P w K mg base N qual (aW st) f bI A outer s H E).qP (iS st) {nx:=λ_ H'=>Q .non H',rt:=Q} (start N vs) H):aF P w K mg base bJ (k+1) f fd ps sp:=
 F.ok S len λbI A outer s H vs Q E hr dX=>⟨_,oR,cQ bI A outer s H vs Q E hr dX⟩
end
structure Ei(X:Cx)(ifs:List Expr)(σ:St)(H:Hp)(Q:Bool->Hp->Prop):Prop where
 run:∀(pins:List<|Addr×Obj) (s:Shared),Inv X pins σ H s ->
  wpAny (model X.prog X.w) X.A (forIn ifs true λc r=>if r=true then do let ok <- isTrue c X.env<|eval c X.env;pure (ForInStep.yield ok) else pure (ForInStep.yield r)) (TP X pins σ Q) X.xe s
def BD(X:Cx)(N':List Str)(scope:Scope)(e:Expr)(σ:St)(H:Hp)(Q:VK):Prop:=∀ cl C s₀ H₀ ex,Ev (eX X N' scope cl C s₀ H₀ ex) e σ H Q
def BE(X:Cx)(N':List Str)(scope:Scope)(e:Expr)(v:V)(σ:St)(H:Hp)(Q:St->Hp->Prop):Prop:=∀ cl C s₀ H₀ ex,Eg (eX X N' scope cl C s₀ H₀ ex) e v σ H Q
def BF(X:Cx)(N':List Str)(scope:Scope)(ifs:List Expr)(σ:St)(H:Hp)(Q:Bool->Hp->Prop):Prop:=∀ cl C s₀ H₀ ex,Ei (eX X N' scope cl C s₀ H₀ ex) ifs σ H Q
def ra(X:Cx)(N':List Str)(scope:Scope)(tg:Expr)(ifs:List Expr)(elt:Expr)(J:It)(D:Addr)(after:Hp->Prop)(σ:St)(H:Hp):Prop:=
 ∃ W:Nat->Nat->St->Hp->Prop,(∃ m,W 0 m σ H)/\∀ i m σ' H',W i m σ' H' ->
  (J.stop i H' ∧ after H') ∨ (J.go i H' ∧ ∃ N : St → Hp → Prop, (∀ σ' H', N σ' H' → ∃ m', m' < m ∧ W (i + 1) m' σ' H') ∧ ∀ x H2, J.sV i H' x H2 → BE X N' scope tg x σ' H2 λσ2 H3 => BF X N' scope ifs σ2 H3 λb H4 =>
   if b=true then BD X N' scope elt σ2 H4 λv H5=>∃ ys,H5 D=some (.lst ys)/\ys.length < sizeLine/\N σ2 (upd H5 D<|.lst<|ys++[v]) else N σ2 H4)
theorem oS:∀(names:List<|Str×NameKind) (n:Nat) (acc:List<|Str×Addr),cellsFrom n names acc=cellsFrom n names []++acc
 | [],_,_=>rfl
 | (y,k) :: r,n,acc=>by
  unfold cellsFrom
  split
  ·rw [oS r (n+1)<|(y,n) :: acc,oS r (n+1) [(y,n)],Aq];rfl
  ·exact oS r n acc
theorem tV:∀(names:List<|Str×NameKind) (n:Nat) {x:Str} {c:Addr},(x,c)∈cellsFrom n names []->(x,NameKind.cell)∈names/\n<=c
 | [],_,_,_,h=>by cases h
 | (y,k) :: r,n,x,c,h=>by
  unfold cellsFrom at h
  split at h
  ·rename_i hk;rw [oS,Am] at h
   rcases h with h | h
   ·obtain⟨a,b⟩:=tV r (n+1) h;exact⟨Ah _ a,by omega⟩
   ·cases Ad.mp h;have:k = .cell:=by cases k <;> first | rfl | exact absurd hk<|by decide
    subst this;exact⟨Ae,Al _⟩
  ·obtain⟨a,b⟩:=tV r n h;exact⟨Ah _ a,b⟩
theorem MH{names:List (Str×NameKind)}{n:Nat}{cl:List (Str×Addr)}{x:Str}{c:Addr}(h:(cellsFrom n names cl).lookup x=some c):((x,c)∈cellsFrom n names []/\n<=c)\/cl.lookup x=some c:=by
 rw [oS,QF] at h;cases e:(cellsFrom n names []).lookup x with
 | some d=>
  rw [e] at h;cases h;have hm:=CZ e;exact .inl ⟨hm,(tV _ _ hm).2⟩
 | none=>
  rw [e] at h;exact .inr h
theorem WO{names:List (Str×NameKind)}{n:Nat}{cl:List (Str×Addr)}{x:Str}(h:(x,NameKind.cell)∉names):(cellsFrom n names cl).lookup x=cl.lookup x:=by
 rw [oS,QF];cases e:(cellsFrom n names []).lookup x with
 | some d=>exact absurd (tV _ _<|CZ e).1 h
 | none=>rfl
section
variable{M:Model}{A:Around}{E:Value->Shared->Prop}{s:Shared}
theorem WQ{scope:Scope}{globals:Addr}{closure:List (Str×Addr)}{qual:Str}{func:Option Addr}{code:Value}{outer:Env}{builtins:Addr}{Q:Env->Shared->Prop}
  (hQ : ∀ h', h'.Ns s.heap.objs.size (λ_ => none) → (∀ b o, s.heap.get? b = some o → h'.get? b = some o) → CellsOk h' (s.heap.objs.size + 1) (cellsFrom (s.heap.objs.size + 1) scope.names []) →
   Q (newEnv scope s.heap.objs.size globals (cellsFrom (s.heap.objs.size+1) scope.names closure) qual func code (some outer) builtins) {s with heap:=h'}) :
  wpAny M A (newFunctionEnv scope globals closure [] qual func code (some outer) builtins) Q E s:=by
 simp only [newFunctionEnv,Option.isSome_some,DK];refine BJ<|QB ?_;refine BJ (wpAny_layCells _ (λname kind cells=>by cases WR:kind == NameKind.cell <;> simp [WR]) _ _ _ _ ?_);have ok:=cellsFrom_ok scope.names (s.heap.push {cls:= .type "dict",data:= .dict #[]}) (s.heap.objs.size+1) [] ⟨λ_ _ hm=>(nomatch hm),List.Pairwise.nil⟩ (by rw [Cw];exact Al _);rw [Cw] at ok;rw [show({s with heap:=s.heap.push {cls:= .type "dict",data:= .dict #[]}}:Shared).heap.objs.size=s.heap.objs.size+1 from Cw ..];rw [List.forIn_nil];exact BJ<|BL<|BL<|hQ _ ((Heap.Ns.new s.heap<|.type "dict").keeps<|pushCells_keeps _ _) (λb o e=>pushCells_keeps _ _ b o<|Ag _ e) ok
end
def lJ(sc scope:Scope)(N N':List Str):Bool:=
 (match scope.kind with | .function=>true | _=>false) &&
 scope.names.all (λy=>match y.2 with
  | .cell=>(match scope.names.lookup y.1 with | some .cell=>true | _=>false)
  | .local=>(match scope.names.lookup y.1 with | some .local=>true | _=>false)
  | .free=>(match sc.names.lookup y.1 with | some .cell=>true | some .free=>true | _=>false) && (match scope.names.lookup y.1 with | some .free=>true | _=>false)
  | _=>true) &&
 (List.range N'.length).all λi => match N'[i]? with
  | none=>true
  | some x=>match scope.names.lookup x with
   | some .local=>decide (N.length<=i)
   | some .cell=>decide (N.length<=i)
   | some .free=>decide (N[i]?=some x)
   | _=>true
structure cj(sc scope:Scope)(N N':List Str):Prop where
 kind:scope.kind = .function
 cell:∀ y∈scope.names,y.2 = .cell->scope.names.lookup y.1=some .cell
 names:∀ y∈scope.names,y.2 = .local->scope.names.lookup y.1=some .local
 free:∀ y∈scope.names,y.2 = .free->sc.names.lookup y.1=some .cell\/sc.names.lookup y.1=some .free
 MI:∀ y∈scope.names,y.2 = .free->scope.names.lookup y.1=some .free
 own:∀(i:Nat) x,N'[i]?=some x->scope.names.lookup x=some .local->N.length<=i
 BG:∀(i:Nat) x,N'[i]?=some x->scope.names.lookup x=some .cell->N.length<=i
 out:∀(i:Nat) x,N'[i]?=some x->scope.names.lookup x=some .free->N[i]?=some x
theorem cj.of{sc scope:Scope}{N N':List Str}(h:lJ sc scope N N'=true):cj sc scope N N':=by
 unfold lJ at h;rw [Bv,Bv] at h;obtain⟨⟨h1,h2⟩,h3⟩:=h;have oU:=Ee.mp h2;have BH:=Ee.mp h3;refine⟨?_,λy hy e=>?_,λy hy e=>?_,λy hy e=>?_,λy hy e=>?_,λi x hi e=>?_,λi x hi e=>?_,λi x hi e=>?_⟩
 ·revert h1;cases scope.kind <;> intro h1 <;> first | rfl | cases h1
 ·have q:=oU y hy;rw [e] at q;simp only at q
  split at q
  ·assumption
  ·cases q
 ·have q:=oU y hy;rw [e] at q;simp only at q
  split at q
  ·assumption
  ·cases q
 ·have q:=oU y hy;rw [e] at q;simp only at q;rw [Bv] at q;have q:=q.1
  split at q
  ·exact .inl<|by assumption
  ·exact .inr<|by assumption
  ·cases q
 ·have q:=oU y hy;rw [e] at q;simp only at q;rw [Bv] at q;have q:=q.2
  split at q
  ·assumption
  ·cases q
 ·have q:=BH i<|Bp.mpr (Ac.mp hi).1;rw [hi] at q;simp only [e] at q;exact BX q
 ·have q:=BH i<|Bp.mpr (Ac.mp hi).1;rw [hi] at q;simp only [e] at q;exact BX q
 ·have q:=BH i<|Bp.mpr (Ac.mp hi).1;rw [hi] at q;simp only [e] at q;exact BX q
section
variable{X:Cx}{pins:List (Addr×Obj)}{σ:St}{H:Hp}{s:Shared}
theorem WT{N':List Str}{scope:Scope}{n:Nat}{fp:List Addr}{h₁:Heap}{t':Nat}{m:Str->Option Value}(I:Inv X pins σ H s)(ck:cj X.env.scope scope X.N N')(hl:N'.length=X.N.length+n)
  (wW:h₁.Ns s.heap.objs.size m) (old:∀ b o,s.heap.get? b=some o->h₁.get? b=some o) (m4:CellsOk h₁ (s.heap.objs.size+1)<|cellsFrom (s.heap.objs.size+1) scope.names [])
  (m5:∀ b∈fp,b7 X pins H b/\b < s.heap.objs.size) :
  Inv (eX X N' scope (cellsFrom (s.heap.objs.size+1) scope.names<|cD scope.names X.env.cells []) s.heap.objs.size s H fp) [] (σ++List.replicate n none) H {s with heap:=h₁,toks:=t'}:=by
 have sub:∀ x c,(cD scope.names X.env.cells []).lookup x=some c->X.env.cells.lookup x=some c:=λx c e=>A2 _ _ _ (λ_ _ z=>by simp at z) x c<|CZ e;have both:∀ x c,(cellsFrom (s.heap.objs.size+1) scope.names<|cD scope.names X.env.cells []).lookup x=some c->((x,c)∈cellsFrom (s.heap.objs.size+1) scope.names []/\s.heap.objs.size+1<=c)\/X.env.cells.lookup x=some c:=λx c e=>by
  rcases MH e with z | z
  ·exact .inl z
  ·exact .inr<|sub x c z
 have m6:∀ x c,X.env.cells.lookup x=some c->c < s.heap.objs.size:=λx c e=>by
  obtain⟨v,o,ho,_⟩:=I.cell x c e;exact Au ho
 have WU:H s.heap.objs.size=none:=I.aH.fresh<|Al _;have kindOf:∀{x:Str} {k':NameKind},(relabel scope X.env).names.lookup x=some k'->∃ k,scope.names.lookup x=some k/\(k'=k\/(k = .free/\k' = .cell)):=λz=>Mt z;have ML:∀ x,scope.names.lookup x=some .free->(cellsFrom (s.heap.objs.size+1) scope.names<|cD scope.names X.env.cells []).lookup x=(cD scope.names X.env.cells []).lookup x:=λx e=>WO λhm=>by
  have:=ck.cell _ hm rfl;rw [e] at this;cases this
 have BI:∀ x,scope.names.lookup x=some .cell->∃ c,(cellsFrom (s.heap.objs.size+1) scope.names<|cD scope.names X.env.cells []).lookup x=some c:=λx e=>Es.mp<|JF _ _ _<|.inl e;have WV:(eX X N' scope (cellsFrom (s.heap.objs.size+1) scope.names<|cD scope.names X.env.cells []) s.heap.objs.size s H fp).Ok:=by
  refine⟨I.ok.mod,ck.kind,I.ok.glob,I.ok.blt,Al _,λx y c e1 e2=>?_,λx hx=>?_,λx c hf e=>?_,I.ok.hd,I.ok.frames,.inl rfl,λb hb=>⟨Bn (m5 b hb).2,λx c e=>?_⟩,
   I.bs,By I.ok.mQ I.sz,λb o e hb=>?_,λb hb hf=>?_,I.stack,I.dw⟩
  ·rcases both x c e1 with z1 | z1
   ·rcases both y c e2 with z2 | z2
    ·exact name_of_addr m4.apart z1.1 z2.1
    ·exact absurd (m6 y c z2)<|Nat.not_lt.mpr<|El z1.2
   ·rcases both y c e2 with z2 | z2
    ·exact absurd (m6 x c z1)<|Nat.not_lt.mpr<|El z2.2
    ·exact I.ok.inj x y c z1 z2
  ·have fZ:(relabel scope X.env).names.lookup x=some .cell\/(relabel scope X.env).names.lookup x=some .free:=hx;have:∃ k,scope.names.lookup x=some k/\(k = .free\/k = .cell):=by
    rcases fZ with z | z
    ·obtain⟨k,e,r⟩:=kindOf z
     rcases r with r | ⟨r,_⟩
     ·exact⟨k,e,.inr r.symm⟩
     ·exact⟨k,e,.inl r⟩
    ·obtain⟨k,e,r⟩:=kindOf z
     rcases r with r | ⟨r,_⟩
     ·exact⟨k,e,.inl r.symm⟩
     ·exact⟨k,e,.inl r⟩
   obtain⟨k,e,rfl | rfl⟩:=this
   ·have hm:=CZ e;obtain⟨c,hc⟩:=I.ok.has x<|ck.free _ hm rfl;obtain⟨d,hd⟩:=A4<|A3 scope.names X.env.cells [] x c hm hc;exact⟨d,(ML x e).trans hd⟩
   ·exact BI x e
  ·have hx:scope.names.lookup x=some .cell:=by
    have w8:(match scope.names.lookup x with | some .cell=>true | _=>false)=true:=hf
    split at w8
    ·assumption
    ·cases w8
   have e':(cellsFrom (s.heap.objs.size+1) scope.names<|cD scope.names X.env.cells []).lookup x=some c:=e;have q1:=Es.mp<|JF scope.names (s.heap.objs.size+1) []<|.inl hx;obtain⟨d,hd⟩:=q1;rw [oS,QF,hd] at e';have e2:d=c:=Option.some.inj e';have:=(tV _ _<|CZ hd).2;rw [<- e2];exact El this
  ·have e':(cellsFrom (s.heap.objs.size+1) scope.names<|cD scope.names X.env.cells []).lookup x=some c:=e
   rcases both x c e' with z | z
   ·have h1:=(m5 b hb).2;have h2:=z.2;exact λk=>absurd h1<|Nat.not_lt.mpr<|by rw [<- k];exact El h2
   ·exact(m5 b hb).1.2.2.2.2.1 x c z
  ·have:=(m5 b hb).1.2.2.2.1
   rcases this with z | z
   ·exact I.ok.jA b o e z
   ·exact absurd (Bg (Au e)<|By I.ok.mQ z)<|Cz _
  ·rcases Ai.mp (I.fj b hf) with z | z
   ·exact(m5 b hb).1.2.1 z
   ·exact(m5 b hb).1.2.2.1 z
 refine⟨WV,rfl,I.bare,Un.kept old,⟨m,wW,λi x v e1 e2 e3=>?_⟩,λx c e=>?_,WU,λx c e=>?_,λp hp=>absurd hp (by simp [eX]),I.aH.kept old,?_⟩
 ·have hi:i < σ.length:=by
   by_cases hi:i < σ.length
   ·exact hi
   ·rw [Ay (by omega),Ey] at e2
    split at e2 <;> cases e2
  rw [Ar hi] at e2;have oV:N'[i]?=some x:=e1;have WW:∃ k',(relabel scope X.env).names.lookup x=some k'/\(k' = .local\/k' = .cell\/k' = .free):=by
   rcases e3 with z | z | z
   ·exact⟨_,z,.inl rfl⟩
   ·exact⟨_,z,.inr<|.inl rfl⟩
   ·exact⟨_,z,.inr<|.inr rfl⟩
  obtain⟨k',BM,lK⟩:=WW;obtain⟨k,ek,r⟩:=kindOf BM;have kf:k = .free:=by
   rcases r with r | ⟨r,_⟩
   ·subst r
    rcases lK with z | z | z
    ·subst z;have:=ck.own i x oV ek;rw [I.len] at hi;omega
    ·subst z;have:=ck.BG i x oV ek;rw [I.len] at hi;omega
    ·exact z
   ·exact r
  subst kf;have hm:=CZ ek;have WX:=ck.out i x oV ek;obtain⟨m0,BO,lP⟩:=I.loc;have kx:=ck.free _ hm rfl;obtain⟨u,ru,lk⟩:=lP i x v WX e2 (by rcases kx with z | z;exact .inr<|.inl z;exact .inr<|.inr z);refine⟨u,ru,.inr ⟨?_,?_⟩⟩
  ·rcases r with r | ⟨_,r⟩
   ·subst r;exact .inr BM
   ·subst r;exact .inl BM
  ·rcases lk with ⟨k1,_⟩ | ⟨_,c,hc,ii⟩
   ·have MM:X.env.scope.names.lookup x=some .local:=k1
    rcases kx with z | z
    ·rw [MM] at z;cases z
    ·rw [MM] at z;cases z
   ·have w9:=A3 scope.names X.env.cells [] x c hm hc;obtain⟨d,hd⟩:=A4 w9;have:d=c:=Option.some.inj<|(sub x d hd).symm.trans hc;subst this;obtain⟨o,ho,iY⟩:=ii;exact⟨d,(ML x ek).trans hd,o,old _ _ ho,iY⟩
 ·have e':(cellsFrom (s.heap.objs.size+1) scope.names<|cD scope.names X.env.cells []).lookup x=some c:=e
  rcases both x c e' with z | z
  ·exact⟨none,(m4.empty x c z.1).1⟩
  ·obtain⟨v,o,ho,iY⟩:=I.cell x c z;exact⟨v,o,old _ _ ho,iY⟩
 ·have e':(cellsFrom (s.heap.objs.size+1) scope.names<|cD scope.names X.env.cells []).lookup x=some c:=e
  rcases both x c e' with z | z
  ·exact I.aH.fresh<|El z.2
  ·exact I.cf x c z
 ·rw [Af,Fg,I.len];exact hl.symm
end
structure Clause(e:Expr)(d:Nat)(tg iter:Expr)(ifs:List Expr)(acc:Value)(env:Env)(inner:Sem Unit):Prop where
 at':(clausesOf e)[d]?=some ⟨tg,iter,ifs,0⟩
 quiet:∀ it,(Code.compLoop e d it acc env).quiet=true
 den:∀(prog:Program) (w:World) it,(model prog w).den (.compLoop e d it acc env)=(compTurn e d it acc env).onRaise (λx=>do noteFrame x env;theTreesLotGoes x)
 WY:∀(A:Around) it,A.under (.compLoop e d it acc env)=A
 BQ:∀(prog:Program) (w:World) it,(model prog w).den (.compStart e d it acc env)=(compStart e d it acc env).onRaise (λx=>do noteFrame x env;standAt theWindowsPlace)
 BU:∀(A:Around) it,A.under (.compStart e d it acc env)=A
 turn:∀ it,compTurn e d it acc env=(do
   standAt iter.pos
   match <- pyNext it with
   | none=>pure<|.done .next
   | some v=>
    letOwnedTupleGo tg it v
    assign tg env v
    let mut ok:=true
    for c in ifs do
     if ok then ok <- isTrue c env<|eval c env
    if ok then
     inner
    again (.compLoop e d it acc env))
section
variable{prog:Program}{w:World}{A:Around}{R:Result->Shared->Prop}{s:Shared}
theorem WZ{e:Expr}{d:Nat}{tg iter:Expr}{ifs:List Expr}{it acc:Value}{env:Env}{inner:Sem Unit}(C:Clause e d tg iter ifs acc env inner)(I:Nat->Shared->Prop)
  (turn : ∀ n s, I n s → wpAny (model prog w) A (pyNext it) (λr s₁ => match r with
   | none=>R (.ok .next) s₁
   | some v=>wpAny (model prog w) A (letOwnedTupleGo tg it v) (λ_ s₁'=>wpAny (model prog w) A (assign tg env v) (λ_ s₂=>
     wpAny (model prog w) A (forIn ifs true λc r=>if r=true then do let ok <- isTrue c env<|eval c env;pure (ForInStep.yield ok) else pure (ForInStep.yield r)) (λok s₃=>
      if ok=true then wpAny (model prog w) A inner (λ_ s₄=>∃ m,m < n/\I m s₄) (notedBy (model prog w) A env λe s'=>R (.error e) s') s₃
      else ∃ m,m < n/\I m s₃) (notedBy (model prog w) A env λe s'=>R (.error e) s') s₂) (notedBy (model prog w) A env λe s'=>R (.error e) s') s₁') (notedBy (model prog w) A env λe s'=>R (.error e) s') s₁) (notedBy (model prog w) A env λe s'=>R (.error e) s') s)
  (n:Nat) (h:I n s) :
  codeAny (model prog w) A (.compLoop e d it acc env) R s:=by
 refine codeAny_loop (C.quiet it) I (λn s hI=>?_) n h;rw [C.WY,C.den];refine wpAny_noted ?_;rw [C.turn];refine BJ<|FZ<|BJ<|CT (turn n s hI) (λr s₁ h₁=>?_) λ_ _ h'=>h';cases r with
 | none=>exact BL h₁
 | some v=>
  refine BJ<|CT h₁ (λ_ s₁' h₁'=>?_) λ_ _ h'=>h';refine BJ<|CT h₁' (λ_ s₂ h₂=>BJ<|CT h₂ (λok s₃ h₃=>?_) λ_ _ h'=>h') λ_ _ h'=>h';cases ok with
  | false=>exact BL ⟨rfl,h₃⟩
  | true=>exact BJ<|CT h₃ (λ_ s₄ h₄=>BL ⟨rfl,h₄⟩) λ_ _ h'=>h'
theorem W0{e:Expr}{d:Nat}{tg iter:Expr}{ifs:List Expr}{it acc:Value}{env:Env}{inner:Sem Unit}(C:Clause e d tg iter ifs acc env inner)
  (h0:codeAny (model prog w) A (.compLoop e d it acc env) R s)
  (h:wpAny (model prog w) A (pyIter it) (λBV s'=>codeAny (model prog w) A (.compLoop e d BV acc env) R s') (notedBy (model prog w) A env λx s'=>R (.error x) s') s) :
  codeAny (model prog w) A (.compStart e d it acc env) R s:=by
 refine JT ?_;rw [C.BU,C.BQ];refine wpAny_notedAt ?_;unfold compStart;rw [C.at'];show wpAny _ _ (ask >>= _) _ _ s;refine BJ<|JL<|wpAny_ite ?_
 split
 ·first
   | exact BJ<|BL<|BL<|And.intro (C.quiet _) h0
   | exact BL<|And.intro (C.quiet _) h0
 ·first
   | exact BJ<|HS<|BJ<|FZ<|BJ<|CT h (λBV s' h'=>BL<|And.intro (C.quiet _) h') λ_ _ x=>x
   | (refine BJ<|HS ?_;show wpAny _ _ (standAt iter.pos >>= _) _ _ s;exact BJ<|FZ<|BJ<|CT h (λBV s' h'=>BL<|And.intro (C.quiet _) h') λ_ _ x=>x)
end
structure iZ(X:Cx)(m:Sem Unit)(σ:St)(H:Hp)(Q:St->Hp->Prop):Prop where
 run:∀(pins:List<|Addr×Obj) (s:Shared),Inv X pins σ H s->wpAny (model X.prog X.w) X.A m (λ_ s'=>∃ σ' H',Inv X pins σ' H' s'/\Q σ' H') X.xe s
def fm(X:Cx)(tg:Expr)(ifs:List Expr)(inner:Sem Unit)(J:It)(after:St->Hp->Prop)(σ:St)(H:Hp):Prop:=
 ∃ W:Nat->Nat->St->Hp->Prop,(∃ m,W 0 m σ H)/\∀ i m σ' H',W i m σ' H' ->
  (J.stop i H' ∧ after σ' H') ∨ (J.go i H' ∧ ∃ N : St → Hp → Prop, (∀ σ' H', N σ' H' → ∃ m', m' < m ∧ W (i + 1) m' σ' H') ∧ ∀ x H2, J.sV i H' x H2 → Eg X tg x σ' H2 λσ2 H3 => Ei X ifs σ2 H3 λb H4 =>
   if b=true then iZ X inner σ2 H4 N else N σ2 H4)
theorem tW{X:Cx}(d6:X.xe=λ_ _=>False)(hc:X.calm=true){e:Expr}{d:Nat}{tg iter:Expr}{ifs:List Expr}{acc:Value}{inner:Sem Unit}(C:Clause e d tg iter ifs acc X.env inner){pins:List (Addr×Obj)}{σ:St}{H:Hp}{s:Shared}
  {it:Addr} {fp:List Addr} {tn:Nat->Heap->Prop} {J:It} {after:St->Hp->Prop} {R:Result->Shared->Prop} (I:Inv X pins σ H s) (T:Turn X.prog X.w X.K tg J fp it tn) (st:tn 0 s.heap) (hf:∀ b∈fp,b7 X pins H b) (h:fm X tg ifs inner J after σ H)
  (hR:∀ σ' H' s',Inv X pins σ' H' s'->after σ' H'->R (.ok .next) s') :
  codeAny (model X.prog X.w) X.A (.compStart e d (.ref it) acc X.env) R s:=by
 obtain⟨W,⟨m0,w0⟩,turn⟩:=h;have stat:∀{H':Hp},(∀ b∈fp,H' b=none)->∀ b∈fp,b7 X pins H' b:=λhn b hb=>⟨hn b hb,(hf b hb).2⟩;have loop:codeAny (model X.prog X.w) X.A (.compLoop e d (.ref it) acc X.env) R s:=by
  refine WZ C (λk s'=>∃ i σ' H',Inv X pins σ' H' s'/\tn i s'.heap/\(∀ b∈fp,H' b=none)/\W i k σ' H') ?_ m0 ⟨0,σ,H,I,st,λb hb=>(hf b hb).1,w0⟩;rintro k s4 ⟨i,σ4,H4,J4,MO,MQ,w4⟩
  rcases turn i k σ4 H4 w4 with ⟨stop,qn⟩ | ⟨go,N,hN,step⟩
  ·have d1:=T.done X rfl rfl rfl hc i pins s4 σ4 H4 (λ_ _=>False) J4 (stat MQ) MO stop;refine iW d1 λr s5 ⟨hr,I5⟩=>?_;subst hr;exact hR _ _ _ I5 qn
  ·have d1:=T.item X rfl rfl rfl hc i pins s4 σ4 H4 (λ_ _=>False) J4 (stat MQ) MO go;refine iW d1 λr s5 ⟨u,hr,h5⟩=>?_;subst hr;refine iW h5 λ_ s6 ⟨x,H6,I6,r6,y6,B0,W1⟩=>?_;have W2:=I6.pinned (stat W1)<|T.obj _ _ B0;have again:∀{σ7:St} {H7:Hp} {s7:Shared},Inv X (pins++sW fp s6.heap) σ7 H7 s7->N σ7 H7->∃ m,m < k/\∃ i σ' H',Inv X pins σ' H' s7/\tn i s7.heap/\(∀ b∈fp,H' b=none)/\W i m σ' H':=λ{σ7 H7 s7} I7 n7=>by
    obtain⟨m',hm,w7⟩:=hN σ7 H7 n7;refine⟨m',hm,i+1,σ7,H7,I7.cP,T.keep _ _ _ B0 λb hb o e=>(I7.pin (b,o)<|Ax _<|Ax _<|wN hb e).1,λb hb=>?_,w7⟩;obtain⟨o,e,d⟩:=T.obj _ _ B0 b hb;exact(I7.pin (b,o)<|Ax _<|Ax _<|wN hb e).2.1
   have a1:=(step x H6 y6).run _ s6 u W2 r6;rw [d6] at a1;refine iW a1 λ_ s7 ⟨σ7,H7,I7,q7⟩=>?_;have a2:=q7.run _ s7 I7;rw [d6] at a2;refine iW a2 λok s8 ⟨H8,I8,q8⟩=>?_;cases ok with
   | false=>
    rw [BK Av] at q8 ⊢;exact again I8 q8
   | true=>
    rw [BP rfl] at q8 ⊢;have a3:=q8.run _ s8 I8;rw [d6] at a3;exact iW a3 λ_ s9 ⟨σ9,H9,I9,q9⟩=>again I9 q9
 exact W0 C loop<|T.self _ 0 _ _ _ st loop
theorem B1{X:Cx}{e:Expr}{tg iter:Expr}{ifs:List Expr}{scope:Scope}{N':List Str}{newAcc:Sem Value}{o0:Obj}{u0:Addr->HO}{n:Nat}{inner:Value->Env->Sem Unit}{pins:List (Addr×Obj)}{σ:St}{H2:Hp}{s2:Shared}{E:Value->Shared->Prop}{RR:Value->Addr->Result->Shared->Prop}{it:Addr}{fp:List Addr}{tn:Nat->Heap->Prop}{J:It}{Q:VK}
  (g5:∀(Q:Value->Shared->Prop) (E:Value->Shared->Prop) (s:Shared),Q (.ref s.heap.objs.size) {s with heap:=s.heap.push o0}->wpAny (model X.prog X.w) X.A newAcc Q E s) (gY:∀(H:Hp) (h:Heap),sysModules < h.objs.size->aC X.prog X.w H (h.push o0) h.objs.size (u0 h.objs.size))
  (hc:X.calm=true) (ck:cj X.env.scope scope X.N N') (hl:N'.length=X.N.length+n) (hC:∀ acc env,Clause e 0 tg iter ifs acc env<|inner acc env)
  (I2:Inv X pins σ H2 s2) (T:Turn X.prog X.w X.K tg J fp it tn) (eV:tn 0 s2.heap) (f2:∀ b∈fp,b7 X pins H2 b)
  (q:∀ D,H2 D=none->∀ cl C s₀ H₀ ex,fm (eX X N' scope cl C s₀ H₀ ex) tg ifs (inner (.ref D)<|compEnvC scope cl C X.env) J (λ_ H'=>Q (.ref D) H') (σ++List.replicate n none)<|upd H2 D<|u0 D)
  (B2:∀ D C H' s' m,Inv X pins σ H' s'->s'.heap.Ns C m->H' C=none->C≠X.env.locals->X.s₀.heap.objs.size<=C->(∀ x c,X.env.cells.lookup x=some c->c≠C)->(∀ p∈X.pn++pins,p.1≠C)->Q (.ref D) H'->RR (.ref D) C (.ok .next) s') :
  wpAny (model X.prog X.w) X.A newAcc (λacc s₃=>wpAny (model X.prog X.w) X.A (newFunctionEnv scope X.env.globals (cD scope.names X.env.cells []) [] X.env.qual none .none<|some X.env) (λjG s₄=>
   codeAny (model X.prog X.w) X.A (.compStart e 0 (.ref it) acc {jG with scope:=relabel scope X.env}) (RR acc jG.locals) s₄) E s₃) E s2:=by
 refine g5 _ _ _<|WQ λh₁ hns₁ old₁ hcs₁=>?_;have hD:H2 s2.heap.objs.size=none:=I2.aH.fresh<|Al _;have q0:=q s2.heap.objs.size hD;have fl:∀ b∈fp,b < s2.heap.objs.size:=λb hb=>by
  obtain⟨o,e,_⟩:=T.obj 0 _ eV b hb;exact Au e
 have I3:Inv X pins σ (upd H2 s2.heap.objs.size<|u0 s2.heap.objs.size) {s2 with heap:=s2.heap.push o0}:=
  I2.laid (t':=s2.toks) (λb o e=>Ag _ e) (Al _) (gY _ _ I2.big)
 generalize xa:({s2 with heap:=s2.heap.push o0}:Shared)=s3 at I3 hns₁ old₁ hcs₁ ⊢;have W3:s3.heap.objs.size=s2.heap.objs.size+1:=by rw [<- xa];exact Cw ..
 have B3:∀ b o,s2.heap.get? b=some o->s3.heap.get? b=some o:=λb o e=>by rw [<- xa];exact Ag _ e
 have old:∀ b o,s3.heap.get? b=some o->h₁.get? b=some o:=old₁;have f3:∀ b∈fp,b7 X pins (upd H2 s2.heap.objs.size<|u0 s2.heap.objs.size) b/\b < s3.heap.objs.size:=λb hb=>by
  refine⟨⟨?_,(f2 b hb).2⟩,by rw [W3];exact Bz<|fl b hb⟩;rw [ay<|Bn<|fl b hb];exact(f2 b hb).1
 have I4:=λ(t':Nat)=>WT (N':=N') (scope:=scope) (n:=n) (fp:=fp) (h₁:=h₁) (t':=t') I3 ck hl hns₁ old hcs₁ f3;generalize hX:eX X N' scope (cellsFrom (s3.heap.objs.size+1) scope.names<|cD scope.names X.env.cells []) s3.heap.objs.size s3 (upd H2 s2.heap.objs.size<|u0 s2.heap.objs.size) fp=X' at I4;have eP:X'.prog=X.prog:=by rw [<- hX];rfl
 have ew:X'.w=X.w:=by rw [<- hX];rfl
 have eK:X'.K=X.K:=by rw [<- hX];rfl
 have eA:X'.A=X.A:=by rw [<- hX];rfl
 have eE:X'.env=compEnvC scope (cellsFrom (s3.heap.objs.size+1) scope.names<|cD scope.names X.env.cells []) s3.heap.objs.size X.env:=by rw [<- hX];rfl
 have ec:X'.calm=true:=by rw [<- hX];exact hc
 have K9:X'.xe=λ_ _=>False:=by rw [<- hX];rfl
 have stat:∀{H':Hp},(∀ b∈fp,H' b=none)->∀ b∈fp,b7 X' [] H' b:=λhn b hb=>by
  refine⟨hn b hb,?_,?_,?_,?_,?_⟩
  ·rw [eE];exact Bn (f3 b hb).2
  ·rw [<- hX];intro hf
   rcases Ai.mp (I3.fj b hf) with z | z
   ·exact(f3 b hb).1.2.1 z
   ·exact(f3 b hb).1.2.2.1 z
  ·rw [<- hX];exact .inl hb
  ·rw [eE];intro x c e
   rcases MH e with z | z
   ·exact λk=>absurd (f3 b hb).2<|Nat.not_lt.mpr<|by rw [<- k];exact El z.2
   ·exact(f3 b hb).1.2.2.2.2.1 x c<|A2 _ _ _ (λ_ _ z=>by simp at z) x c<|CZ z
  ·rw [<- hX];intro p hp;exact absurd hp<|by simp [eX]
 have fin:∀{σ':St} {H':Hp} {s':Shared},Inv X' [] σ' H' s'->Q (.ref s2.heap.objs.size) H'->RR (.ref s2.heap.objs.size) s3.heap.objs.size (.ok .next) s':=λ{σ' H' s'} I' q'=>by
  obtain⟨m',wJ,_⟩:=id I'.loc;rw [eE] at wJ;have W4:s'.os=s3.os:=by have:=I'.os;rw [<- hX] at this;exact this
  have W5:Un (eF X.stack) fp (upd H2 s2.heap.objs.size<|u0 s2.heap.objs.size) H' s3.heap s'.heap:=by have:=I'.base;rw [<- hX] at this;exact this
  have aH:b6 X.prog X.w H' s'.heap:=by have:=I'.aH;rw [eP,ew] at this;exact this
  have IX:Inv X pins σ H' s':=I3.call' (ch:=fp) W4 W5 aH I'.bare λb hb=>⟨(f3 b hb).1.2.2.2.1,(f3 b hb).1.2.1,(f3 b hb).1.2.2.2.2.1,(f3 b hb).1.2.2.2.2.2⟩;have jq:=I'.free;rw [eE] at jq;refine B2 _ _ H' s' m' IX wJ jq (Cs I3.lt) I3.sz (λx c e z=>?_) (λp hp z=>?_) q'
  ·obtain⟨v,o,ho,_⟩:=I3.cell x c e;exact absurd (Au ho)<|by rw [z];exact Cz _
  ·exact absurd (Au (I3.pin p hp).1)<|by rw [z];exact Cz _
 have W6:∀ b∈fp,b7 X' [] (upd H2 s2.heap.objs.size<|u0 s2.heap.objs.size) b:=stat λb hb=>(f3 b hb).1.1;have q1:fm X' tg ifs (inner (.ref s2.heap.objs.size) X'.env) J (λ_ H'=>Q (.ref s2.heap.objs.size) H') (σ++List.replicate n none) (upd H2 s2.heap.objs.size<|u0 s2.heap.objs.size):=by
  rw [eE,<- hX];exact q0 _ _ _ _ _
 have T':Turn X'.prog X'.w X'.K tg J fp it tn:=by rw [eP,ew,eK];exact T
 have fin2:=tW (s:={s3 with heap:=h₁,toks:=s3.toks}) K9 ec (hC (.ref s2.heap.objs.size) X'.env) (I4 s3.toks) T' (T.keep 0 _ _ eV λb _ o e=>old b o<|B3 b o e) W6 q1 (R:=RR (.ref s2.heap.objs.size) s3.heap.objs.size) λσ' H' s' I' a'=>fin I' a';rw [eP,ew,eA,eE] at fin2;exact fin2
def emit(elt:Expr)(acc:Value)(env:Env):Sem Unit:=do let _ <- call (.builtin "list.append") [acc,<- eval elt env]
section
variable{X:Cx}{elt tg iter:Expr}{ifs:List Expr}{scope:Scope}{pos:Pos}{σ:St}{H:Hp}{acc:Value}{env:Env}{N':List Str}{J:It}
theorem W7:Clause (.ListComp elt [⟨tg,iter,ifs,0⟩] scope pos) 0 tg iter ifs acc env (emit elt acc env):=⟨rfl,λ_=>rfl,λ_ _ _=>rfl,λ_ _=>rfl,λ_ _ _=>rfl,λ_ _=>rfl,λ_=>rfl⟩
theorem B4{D:Addr}{Q:St->Hp->Prop} (h:Ev X elt σ H λv H1=>∃ ys,H1 D=some (.lst ys)/\ys.length < sizeLine/\Q σ (upd H1 D<|.lst<|ys++[v])):iZ X (emit elt (.ref D) X.env) σ H Q:=by
 refine⟨λpins s I=>?_⟩;unfold emit;refine BJ<|aP (h.run pins s I) λv s1 ⟨x,H1,I1,r1,ys,hy,hz,q⟩=>?_;refine BJ<|aP (Mf (X:=X) _ s1 σ H1 (.ref D) [x] (.ref D) [v] (λ_ H'=>Q σ H') I1 rfl (.cons r1 .nil) ⟨_,ys,x,rfl,rfl,hy,hz,q⟩) λ_ s2 ⟨_,H2,I2,_,q2⟩=>BL ⟨σ,H2,I2,q2⟩
theorem Eg.mono{v:V}{R R':St->Hp->Prop}(h:Eg X elt v σ H R)(f:∀ σ' H',R σ' H'->R' σ' H'):Eg X elt v σ H R':=⟨λpins s u I r=>aP (h.run pins s u I r) λ_ _ ⟨σ',H',I',q⟩=>⟨σ',H',I',f _ _ q⟩⟩
theorem Ei.mono{T T':Bool->Hp->Prop}(h:Ei X ifs σ H T)(f:∀ b H',T b H'->T' b H'):Ei X ifs σ H T':=⟨λpins s I=>aP (h.run pins s I) λ_ _ ⟨H',I',q⟩=>⟨H',I',f _ _ q⟩⟩
theorem W8{D:Addr}{after:Hp->Prop}(h:ra X N' scope tg ifs elt J D after σ H)(cl:List<|Str×Addr)(C:Addr)(s₀:Shared)(H₀:Hp)(ex:List Addr):fm (eX X N' scope cl C s₀ H₀ ex) tg ifs (emit elt (.ref D)<|compEnvC scope cl C X.env) J (λ_ H'=>after H') σ H:=by
 obtain⟨W,w0,t⟩:=h;refine⟨W,w0,λi m σ' H' w=>(t i m σ' H' w).imp id λ⟨g,N,hN,st⟩=>⟨g,N,hN,λx H2 y=>(st x H2 y cl C s₀ H₀ ex).mono λσ2 H3 h3=>(h3 cl C s₀ H₀ ex).mono λb H4 h4=>?_⟩⟩;cases b with
 | true=>
  rw [BP rfl] at h4 ⊢;exact B4 (X:=eX X N' scope cl C s₀ H₀ ex)<|h4 cl C s₀ H₀ ex
 | false=>
  rw [BK Av] at h4 ⊢;exact h4
theorem W9{n:Nat}{pins:List (Addr×Obj)}{H2:Hp}{s2:Shared}{E:Value->Shared->Prop}{RR:Value->Addr->Result->Shared->Prop}{it:Addr}{fp:List Addr}{tn:Nat->Heap->Prop}{Q:VK}
  (hc:X.calm=true) (ck:cj X.env.scope scope X.N N') (hl:N'.length=X.N.length+n) (I2:Inv X pins σ H2 s2) (T:Turn X.prog X.w X.K tg J fp it tn) (eV:tn 0 s2.heap) (f2:∀ b∈fp,b7 X pins H2 b)
  (q:∀ D,H2 D=none->ra X N' scope tg ifs elt J D (λH'=>Q (.ref D) H') (σ++List.replicate n none) (upd H2 D<|.lst []))
  (B2:∀ D C H' s' m,Inv X pins σ H' s'->s'.heap.Ns C m->H' C=none->C≠X.env.locals->X.s₀.heap.objs.size<=C->(∀ x c,X.env.cells.lookup x=some c->c≠C)->(∀ p∈X.pn++pins,p.1≠C)->Q (.ref D) H'->RR (.ref D) C (.ok .next) s') :
  wpAny (model X.prog X.w) X.A (newList []) (λacc s₃=>wpAny (model X.prog X.w) X.A (newFunctionEnv scope X.env.globals (cD scope.names X.env.cells []) [] X.env.qual none .none<|some X.env) (λjG s₄=>
   codeAny (model X.prog X.w) X.A (.compStart (.ListComp elt [⟨tg,iter,ifs,0⟩] scope pos) 0 (.ref it) acc {jG with scope:=relabel scope X.env}) (RR acc jG.locals) s₄) E s₃) E s2:=
 B1 (newAcc:=newList []) (o0:={cls:= .type "list",dict:=none,data:= .seq ([]:List Value).toArray}) (u0:=λ_=> .lst []) (λ_ _ _ h=>CW h<|by show(0:Nat)<=sizeLine;exact Bt _) (λ_ _ _=>⟨Bt _,[],0,.nil,At _ rfl⟩) hc ck hl (λ_ _=>W7) I2 T eV f2 (λD hD=>W8<|q D hD) B2
end
section
variable{X:Cx}{elt tg iter c:Expr}{ifs:List Expr}{scope:Scope}{pos p:Pos}{wi:TI}{σ:St}{H:Hp}{Q:VK}{T:Bool->Hp->Prop}{rest:List Stmt}{D:Ends}
theorem gI(h:T true H):Ei X [] σ H T:=⟨λpins s I=>Wu pins s σ H T I h⟩
theorem rd(h:Et X c σ H T):Ei X [c] σ H T:=⟨λpins s I=>Wv lE pins s σ H T I h⟩
theorem jH(sc:Scope)(N N':List Str)(n:Nat)(hi:PI X tg iter wi)
  (h:wi σ H λJ H1=>∀ D,H1 D=none->ra X N' scope tg ifs elt J D (λH'=>Q (.ref D) H') (σ++List.replicate n none) (upd H1 D<|.lst []))
  (hc:X.calm=true:=by rfl) (i0:X.env.scope=sc:=by rfl) (hN:X.N=N:=by rfl) (hk:lJ sc scope N N'=true:=by decide +kernel) (hl:N'.length=N.length+n:=by rfl)
  (hs:∀ x,foldedSetIterable iter X.env x=pure x:=by intro _;rfl):Ev X (.ListComp elt [⟨tg,iter,ifs,0⟩] scope pos) σ H Q:=by
 refine⟨λpins s I=>?_⟩;subst i0 hN;have ck:=cj.of hk;rw [eval_ListComp];refine JZ (use:=none) rfl hs (A1 λx hx hf=>I.ok.has x.1<|ck.free x hx hf) ck.kind ck.names (aP (hi pins s σ H _ I h) λv s1 h1=>aP h1 λlh s2 h2=>?_);obtain⟨it,fp,tn,J,H2,e,I2,T,eV,f2,q⟩:=h2;subst e;refine W9 (RR:=λacc C=>compPost (model X.prog X.w) X.A X.xe none (EP X pins σ Q) acc C) hc ck hl I2 T eV f2 q ?_;intro D C H' s' m IX hn hC c1 c2 c3 c4 qq;exact⟨m,hn,λh' jI=>⟨.ref D,H',IX.turned (t':=s'.toks) (λb o hb e=>jI.extBut b o hb e) hC (CK<|CK c1) (.inr c2) c3 c4,rfl,qq⟩⟩
end
structure aS(P:Program)(w:World)(K:PySem.W.Frag)(mg:Str->Option Value)(base:Heap)(k:Nat)(x:Str)(ps:List Str)(sp:Sp):Prop where
 ex:∃ f fd,aF P w K mg base bJ k f fd ps sp/\Binds K fd ps []/\PySem.W.keepIn K (.ref f)=true/\mg x=some (.ref f)
theorem aS.mono{P:Program}{w:World}{K:PySem.W.Frag}{mg:Str->Option Value}{base:Heap}{j k:Nat}{x:Str}{ps:List Str}{sp:Sp}(h:aS P w K mg base j x ps sp)(le:j<=k):aS P w K mg base k x ps sp:=
 let ⟨f,fd,F,r⟩:=h.ex;⟨f,fd,F.mono le,r⟩
theorem bz{X:Cx}{k:Nat}{ps:List Str}{sp:Sp}{x:Str}{e:Expr}{es:List Expr}{σ:St}{H:Hp}{Q:VK}{p pos:Pos}(G:aS X.prog X.w X.K X.mg X.base k x ps sp)(hr:bw k X.A)
  (h:Ea X (e :: es) σ H λvs H1=>sp vs H1 Q E0) (hg:Gl X x:=by rfl) (di:(x == ("__debug__" : Str))=false:=by decide) (hs:noStar (e :: es)=true:=by rfl):Ev X (.Call (.Name x p) (e :: es) [] pos) σ H Q:=
 let ⟨_,_,F,b,kp,m⟩:=G.ex;ME F hr m kp b jE h hg di hs
theorem _root_.L2.bw.f7{k:Nat}{A:Around}(hr:bw k A):A.units+100 < cLine:=by have:=hr.un;omega
theorem _root_.L2.bw.u1{k:Nat}{A:Around}(hr:bw k A):A.units+1 < cLine:=by have:=hr.un;omega
def Df(K:PySem.W.Frag)(x:Str)(st:Stmt):Prop:=∃(f:Addr) (fd:FuncData),PySem.W.nsIn K mainGlobals x=some (some<|.ref f)/\bx K x x st f fd
theorem tX{K:PySem.W.Frag}{x:Str}{st:Stmt}{f:Addr}{oc kV doc pm bI ct:Value}{od an:Option Addr}{sl:Array (Option Value)}(a:PySem.W.nsIn K mainGlobals x=some (some<|.ref f))
  (l:K.lookup f=some ⟨oc,od,.func<|PySem.W.fnOf x x (mW st) (iS st) (aW st) .none kV doc pm an bI ct,sl⟩) (c:PySem.W.codeIn K bI x=true) (k:PySem.W.keepIn K (.ref f)=true):Df K x st:=⟨f,_,a,Wd l c k⟩
structure rg where
 f:Addr
 bI:Value
 A:Around
 outer:List Env
 s:Shared
 H:Hp
 E:XK
def B5(N:List Str)(qual:Str)(scope:Scope)(P:Program)(w:World)(K:PySem.W.Frag)(mg:Str->Option Value)(base:Heap)(b:rg):Cx:=(c6 bJ P w K mg base N qual scope b.f b.bI b.A b.outer b.s b.H b.E).qP
def En(Q:VK):Ends:={nx:=λ_ H'=>Q .non H',rt:=Q}
theorem bx.gb{P:Program}{w:World}{K:PySem.W.Frag}{mg:Str->Option Value}{base:Heap}{x qual:Str}{st:Stmt}{f:Addr}{fd:FuncData}{N ps:List Str}{k:Nat}{sp:Sp}(F:bx K x qual st f fd)(S:ak N ps<|aW st)(len:∀ vs H Q E,sp vs H Q E->vs.length=ps.length)
  (cQ:∀(b:rg) (H:Hp) (vs:List V) (Q:VK) (E:XK),bw k (b.A.deeper<|envOfC qual (aW st) b.s.heap.objs.size b.f b.bI)->sp vs H Q E->Run (B5 N qual (aW st) P w K mg base b) (iS st) (En Q) (start N vs) H):aF P w K mg base bJ (k+1) f fd ps sp:=
 F.go S len λbI A outer s H vs Q E hr dX=>cQ ⟨f,bI,A,outer,s,H,E⟩ H vs Q E hr dX
theorem kG{us:List Value}{k:Nat}(h:us.length=k+1):∃ a r,us=a :: r/\r.length=k:=by
 cases us with
 | nil=>cases h
 | cons a r=>exact⟨a,r,rfl,Nat.succ.inj h⟩
theorem i4{fd:FuncData}{ps:List Str}(f:∀ a:Value,bindArgs fd ⟨[a],[]⟩=pure (ps.zip [a])):∀ us:List Value,us.length=1->bindArgs fd ⟨us,[]⟩=pure (ps.zip us):=λus h=>by
 obtain⟨a,r0,e0,h0⟩:=kG h;have z:=Bi.mp h0;subst z e0;exact f a
theorem gJ{fd:FuncData}{ps:List Str}(f:∀ a b:Value,bindArgs fd ⟨[a,b],[]⟩=pure (ps.zip [a,b])):∀ us:List Value,us.length=2->bindArgs fd ⟨us,[]⟩=pure (ps.zip us):=λus h=>by
 obtain⟨a,r0,e0,h0⟩:=kG h;obtain⟨b,r1,e1,h1⟩:=kG h0;have z:=Bi.mp h1;subst z e1 e0;exact f a b
theorem rh{fd:FuncData}{ps:List Str}(f:∀ a b c:Value,bindArgs fd ⟨[a,b,c],[]⟩=pure (ps.zip [a,b,c])):∀ us:List Value,us.length=3->bindArgs fd ⟨us,[]⟩=pure (ps.zip us):=λus h=>by
 obtain⟨a,r0,e0,h0⟩:=kG h;obtain⟨b,r1,e1,h1⟩:=kG h0;obtain⟨c,r2,e2,h2⟩:=kG h1;have z:=Bi.mp h2;subst z e2 e1 e0;exact f a b c
theorem MR{fd:FuncData}{ps:List Str}(f:∀ a b c d:Value,bindArgs fd ⟨[a,b,c,d],[]⟩=pure (ps.zip [a,b,c,d])):∀ us:List Value,us.length=4->bindArgs fd ⟨us,[]⟩=pure (ps.zip us):=λus h=>by
 obtain⟨a,r0,e0,h0⟩:=kG h;obtain⟨b,r1,e1,h1⟩:=kG h0;obtain⟨c,r2,e2,h2⟩:=kG h1;obtain⟨d,r3,e3,h3⟩:=kG h2;have z:=Bi.mp h3;subst z e3 e2 e1 e0;exact f a b c d
theorem Df.has{P:Program}{w:World}{K:PySem.W.Frag}{mg:Str->Option Value}{h base:Heap}{k:Nat}{x:Str}{st:Stmt}{ps:List Str}{sp:Sp}(d:Df K x st)(X:K.In h)(G:h.Ns mainGlobals mg)
  (hb:∀(kV doc pm:Value) (an:Option Addr) (bI ct:Value) (us:List Value),us.length=ps.length->bindArgs (PySem.W.fnOf x x (mW st) (iS st) (aW st) .none kV doc pm an bI ct) ⟨us,[]⟩=pure (ps.zip us))
  (ok:∀{f:Addr} {fd:FuncData},bx K x x st f fd->aF P w K mg base bJ k f fd ps sp):aS P w K mg base k x ps sp:=
 let ⟨f,fd,a,F⟩:=d;⟨f,fd,ok F,F.binds hb,F.kp,LC X G a⟩
theorem Df.law{P:Program}{w:World}{K:PySem.W.Frag}{mg:Str->Option Value}{h:Heap}{k:Nat}{x y:Str}{st:Stmt}{sp:Sp}{fa:Addr}(d:Df K x st)(X:K.In h)(G:h.Ns mainGlobals mg)(B6:mg x=some (.ref fa))
  (hb:∀(kV doc pm:Value) (an:Option Addr) (bI ct:Value) (s:Shared) (v:Value),BindsTo s (PySem.W.fnOf x x (mW st) (iS st) (aW st) .none kV doc pm an bI ct) ⟨[v],[]⟩ [(y,v)])
  (ok:∀(base:Heap) {f:Addr} {fd:FuncData},bx K x x st f fd->aF P w K mg base bJ k f fd [y] sp) :
  ∃ fd:FuncData,(∀(s:Shared) (v:Value),BindsTo s fd ⟨[v],[]⟩ [(y,v)])/\∀ base:Heap,K.In base->base.Ns mainGlobals mg->aF P w K mg base bJ k fa fd [y] sp:=by
 obtain⟨f,fd,a,F⟩:=d;have e:=B6.symm.trans<|LC X G a;cases e;obtain⟨oc,od,kV,doc,pm,an,bI,ct,kA,rfl,lk,ig⟩:=id F.ex;exact⟨_,hb kV doc pm an bI ct,λbase _ _=>ok base F⟩
end L2
namespace bA
open PySem
def ri(m i:Nat):Nat:=(i * 5+1) % m
def ga(m:Nat):Nat->Nat->List Nat
 | 0,_=>[]
 | n+1,i=>i :: ga m n (ri m i)
def lQ(m:Nat):Nat->Nat->Nat
 | 0,i=>i
 | n+1,i=>lQ m n<|ri m i
theorem xc(m:Nat):∀ a b i,lQ m (a+b) i=lQ m b (lQ m a i)
 | 0,b,i=>by rw [Eb];rfl
 | a+1,b,i=>by
  rw [show a+1+b=(a+b)+1 by omega];exact xc m a b<|ri m i
theorem B7(m:Nat):∀ n t i,t < n->lQ m t i∈ga m n i
 | 0,_,_,h=>by omega
 | n+1,0,i,_=>Ae
 | n+1,t+1,i,h=>Ah _<|B7 m n t (ri m i)<|by omega
theorem B8(m:Nat):∀ n i j,j∈ga m n i->∃ t,t < n/\lQ m t i=j
 | 0,_,_,h=>by cases h
 | n+1,i,j,h=>by
  rcases Ai.mp h with rfl | h
  ·exact⟨0,Gc _,rfl⟩
  ·obtain⟨t,ht,e⟩:=B8 m n (ri m i) j h;exact⟨t+1,Nat.succ_lt_succ ht,e⟩
def covers(m:Nat):Bool:=lQ m m 0 == 0 && (List.range m).all λj=>(ga m m 0).contains j
theorem W':covers 8=true:=by decide +kernel
theorem Xa:covers 16=true:=by decide +kernel
theorem Xb:covers 32=true:=by decide +kernel
theorem Xc:covers 64=true:=by decide +kernel
theorem Xd:covers 128=true:=by decide +kernel
theorem Xe:covers 512=true:=by decide +kernel
def Pow(m:Nat):Prop:=m=8\/m=16\/m=32\/m=64\/m=128\/m=512
theorem Pow.covers{m:Nat}(h:Pow m):bA.covers m=true:=by
 rcases h with rfl | rfl | rfl | rfl | rfl | rfl
 ·exact W'
 ·exact Xa
 ·exact Xb
 ·exact Xc
 ·exact Xd
 ·exact Xe
theorem Pow.pos{m:Nat}(h:Pow m):8<=m/\m<=512:=by rcases h with rfl | rfl | rfl | rfl | rfl | rfl <;> decide
theorem Pow.mem{m i j:Nat}(h:Pow m)(hi:i < m)(hj:j < m):j∈ga m m i:=by
 have q:=h.covers;unfold bA.covers at q;rw [Bv,Ee,JM] at q;obtain⟨z,q⟩:=q;obtain⟨a,ha,ea⟩:=B8 m m 0 i<|Bm.mp<|q i<|Bp.mpr hi;obtain⟨b,hb,eb⟩:=B8 m m 0 j<|Bm.mp<|q j<|Bp.mpr hj
 rcases Di b a with c | c
 ·have e:lQ m (b+m - a) i=j:=by
   rw [<- ea,<- xc,show a+(b+m - a)=m+b by omega,xc,z,eb]
  rw [<- e];exact B7 m m _ i<|by omega
 ·have e:lQ m (b - a) i=j:=by
   rw [<- ea,<- xc,show a+(b - a)=b by omega,eb]
  rw [<- e];exact B7 m m _ i<|by omega
def rj(mask:Nat):Nat->Nat->Nat->List Nat
 | 0,_,_=>[]
 | n+1,i,p=>i :: rj mask n (SetTable.leap mask i p).1 (SetTable.leap mask i p).2
theorem MS(mask:Nat):∀ n i,rj mask n i 0=ga (mask+1) n i
 | 0,_=>rfl
 | n+1,i=>by
  show i :: rj mask n ((i * 5+1+0 / 32) % (mask+1)) (0 / 32)=i :: ga (mask+1) n (ri (mask+1) i);rw [show(0 / 32:Nat)=0 by decide,VD,MS mask n];rfl
theorem Xf{mask i p:Nat}:(SetTable.leap mask i p).1 < mask+1:=Gu _<|Gc _
theorem MT{mask:Nat}:∀(t n i p:Nat),i < mask+1->p < 32 ^ t->∃ i',i' < mask+1/\∀ j∈ga (mask+1) n i',j∈rj mask (t+n) i p
 | 0,n,i,p,hi,hp=>by
  have e:p=0:=by simpa using hp
  subst e;refine⟨i,hi,λj hj=>?_⟩;rw [Eb,MS];exact hj
 | t+1,n,i,p,hi,hp=>by
  have h2:p / 32 < 32 ^ t:=by
   rw [Nat.div_lt_iff_lt_mul<|by decide];rw [Nat.pow_succ] at hp;exact hp
  obtain⟨i',h',q⟩:=MT t n (SetTable.leap mask i p).1 (p / 32) Xf h2;refine⟨i',h',λj hj=>?_⟩;rw [show t+1+n=(t+n)+1 by omega];exact Ah _<|q j hj
theorem Xg{mask i p j:Nat}(hm:Pow<|mask+1)(hi:i < mask+1)(hp:p < 2 ^ 64)(hj:j < mask+1):j∈rj mask (mask+15) i p:=by
 obtain⟨i',h',q⟩:=MT (mask:=mask) 14 (mask+1) i p hi (Bg hp<|by decide);have:=q j<|hm.mem h' hj;rwa [show 14+(mask+1)=mask+15 by omega] at this
abbrev gd:=Array<|Option Nat
def nil?(owner:gd)(j:Nat):Bool:=(owner.getD j<|some 0).isNone
theorem Xh(mask i:Nat):i<=SetTable.runEnd mask i:=by unfold SetTable.runEnd;split <;> omega
theorem MU{mask:Nat}{owner:gd}:∀{fuel i p:Nat},SetTable.layClean.free mask owner fuel i p=none->∀ j∈rj mask fuel i p,nil? owner j=false
 | 0,_,_,_,j,hj=>by cases hj
 | fuel+1,i,p,h,j,hj=>by
  unfold SetTable.layClean.free at h
  split at h
  ·cases h
  ·rename_i hf
   rcases Ai.mp hj with rfl | hj
   ·have:=Fx.mp hf 0 (Bp.mpr<|by have:=Xh mask j;omega);rw [VD] at this;exact Em.mpr this
   ·exact MU (fuel:=fuel) h j hj
theorem MV{mask:Nat}{owner:gd}:∀{fuel i p j:Nat},SetTable.layClean.free mask owner fuel i p=some j->nil? owner j=true
 | 0,_,_,_,h=>by cases h
 | fuel+1,i,p,j,h=>by
  unfold SetTable.layClean.free at h
  split at h
  ·rename_i k hf;cases h;have:=Gq hf;exact this
  ·exact MV (fuel:=fuel) h
theorem nil?_iff{owner:gd}{j:Nat}:nil? owner j=true↔owner[j]?=some none:=by
 unfold nil?;rw [Ds];cases h:owner[j]? with
 | none=>simp
 | some v=>cases v <;> simp
structure Lies(m:Nat)(owner:gd)(k:Nat):Prop where
 size:owner.size=m
 lt:∀(j v:Nat),owner[j]?=some (some v)->v < k
 has:∀ v:Nat,v < k->∃ j:Nat,owner[j]?=some (some v)
 inj:∀(i j v:Nat),owner[i]?=some (some v)->owner[j]?=some (some v)->i=j
theorem Lies.start(m:Nat):Lies m (Array.replicate m none) 0 where
 size:=by simp
 lt:=λj v h=>by
  rw [RG] at h
  split at h <;> cases h
 has:=λv h=>by omega
 inj:=λi j v h=>by
  rw [RG] at h
  split at h <;> cases h
theorem Lies.put{m k j:Nat}{owner:gd}(L:Lies m owner k)(hj:owner[j]?=some none):Lies m (owner.setIfInBounds j<|some k) (k+1):=by
 have aY:j < owner.size:=by
  rcases Di j owner.size with h | h
  ·exact h
  ·rw [Ec h] at hj;cases hj
 have at':∀ i:Nat,(owner.setIfInBounds j<|some k)[i]?=if j=i then some (some k) else owner[i]?:=by
  intro i;rw [Array.getElem?_setIfInBounds]
  split
  ·rename_i e;subst e;first | rfl | rw [BP aY]
  ·rfl
 refine⟨by rw [Array.size_setIfInBounds];exact L.size,λi v h=>?_,λv h=>?_,λa b v ha hb=>?_⟩
 ·rw [at'] at h
  split at h
  ·cases h;exact Gh _
  ·exact Bz<|L.lt i v h
 ·rcases Nat.lt_succ_iff_lt_or_eq.mp h with h | rfl
  ·obtain⟨i,hi⟩:=L.has v h;refine⟨i,?_⟩;rw [at',BK λe=>by subst e;rw [hj] at hi;cases hi];exact hi
  ·exact⟨j,by rw [at',BP rfl]⟩
 ·rw [at'] at ha hb
  split at ha
  ·rename_i e;cases ha
   split at hb
   ·rename_i e2;exact e.symm.trans e2
   ·have:=L.lt b k hb;omega
  ·split at hb
   ·cases hb;have:=L.lt a k ha;omega
   ·exact L.inj a b v ha hb
def live(m:Nat)(owner:gd):List (Nat×Nat):=(List.range m).filterMap λj=>(owner.getD j none).map (j,·)
theorem getD_some{owner:gd}{j v:Nat}:owner.getD j none=some v↔owner[j]?=some (some v):=by
 rw [Ds];cases h:owner[j]? with
 | none=>simp
 | some x=>simp
theorem gg{m:Nat}{owner:gd}{p:Nat×Nat}:p∈live m owner↔p.1 < m/\owner[p.1]?=some (some p.2):=by
 unfold live;rw [Fw]
 constructor
 ·rintro ⟨j,hj,e⟩;cases hv:owner.getD j none with
  | none=>rw [hv] at e;cases e
  | some v=>
   rw [hv] at e;cases e;exact⟨Bp.mp hj,getD_some.mp hv⟩
 ·rintro ⟨h1,h2⟩;exact⟨p.1,Bp.mpr h1,by rw [getD_some.mpr h2];rfl⟩
theorem Lies.nodup{m k:Nat}{owner:gd}(L:Lies m owner k):((live m owner).map (·.2)).Nodup:=by
 have q:∀ l:List Nat,l.Nodup->((l.filterMap λj=>(owner.getD j none).map (j,·)).map (·.2)).Nodup:=by
  intro l
  induction l with
  | nil=>intro _;exact Ch
  | cons a r ih=>
   intro hn;rw [Bf] at hn;rw [Dy];cases hv:owner.getD a none with
   | none=>exact ih hn.2
   | some v=>
    show(v :: (r.filterMap λj=>(owner.getD j none).map (j,·)).map (·.2)).Nodup;rw [Bf];refine⟨λh=>?_,ih hn.2⟩;obtain⟨p,hp,e⟩:=An.mp h;obtain⟨j,hj,e2⟩:=Fw.mp hp;cases hw:owner.getD j none with
    | none=>rw [hw] at e2;cases e2
    | some u=>
     rw [hw] at e2;cases e2;have e3:u=v:=e;subst e3;have:=L.inj a j u (getD_some.mp hv)<|getD_some.mp hw;subst this;exact hn.1 hj
 exact q _ RJ
theorem Lies.perm{m k:Nat}{owner:gd}(L:Lies m owner k):((live m owner).map (·.2)).Perm (List.range k):=by
 rw [Fj L.nodup RJ];intro v;rw [Bp,An]
 constructor
 ·rintro ⟨p,hp,rfl⟩;exact L.lt _ _ (gg.mp hp).2
 ·intro h;obtain⟨j,hj⟩:=L.has v h;have aY:j < m:=by
   rw [<- L.size]
   rcases Di j owner.size with h | h
   ·exact h
   ·rw [Ec h] at hj;cases hj
  exact⟨(j,v),gg.mpr ⟨aY,hj⟩,rfl⟩
theorem Lies.length{m k:Nat}{owner:gd}(L:Lies m owner k):(live m owner).length=k:=by
 have:=L.perm.length_eq;rwa [Aa,Fh] at this
theorem Lies.room{m k:Nat}{owner:gd}(L:Lies m owner k)(h:k < m):∃ j,j < m/\nil? owner j=true:=by
 refine DR λhn=>?_;have all:∀ j,j < m->∃ v,owner.getD j none=some v:=by
  intro j hj;have hs:j < owner.size:=by rw [L.size];exact hj
  cases hv:owner[j] with
  | none=>exact absurd ⟨j,hj,nil?_iff.mpr<|by rw [Dj hs,hv]⟩ hn
  | some v=>exact⟨v,getD_some.mpr<|by rw [Dj hs,hv]⟩
 have len:∀ l:List Nat,(∀ j∈l,j < m)->(l.filterMap λj=>(owner.getD j none).map (j,·)).length=l.length:=by
  intro l
  induction l with
  | nil=>intro _;rfl
  | cons a r ih=>
   intro hl;obtain⟨v,hv⟩:=all a<|hl a Ae;rw [Dy,hv];show(_ :: _).length=_;rw [As,As,ih λj hj=>hl j<|Ah _ hj]
 have e:=len (List.range m) λj hj=>Bp.mp hj;have e2:=L.length;unfold live at e2;rw [e,Fh] at e2;omega
theorem Xi(h:Int):SetTable.bits h < 2 ^ 64:=by
 unfold SetTable.bits;have h1:0<=h % (2 ^ 64:Int):=Bx _ (by decide);have h2:h % (2 ^ 64:Int) < 2 ^ 64:=Ce _ (by decide);omega
theorem Lies.free{mask k:Nat}{owner:gd}(L:Lies (mask+1) owner k)(hm:Pow<|mask+1)(h:k < mask+1)(x:Int) :
  ∃ j,SetTable.layClean.free mask owner (SetTable.turns mask) (SetTable.bits x % (mask+1)) (SetTable.bits x)=some j/\owner[j]?=some none:=by
 cases e:SetTable.layClean.free mask owner (SetTable.turns mask) (SetTable.bits x % (mask+1)) (SetTable.bits x) with
 | some j=>exact⟨j,rfl,nil?_iff.mp<|MV e⟩
 | none=>
  obtain⟨j,hj,q⟩:=L.room h;have:=MU e j<|Xg hm (Gu _<|Gc _) (Xi x) hj;rw [q] at this;cases this
def xf(mask:Nat)(acc:Option<|gd×Nat)(h:Int):Option (gd×Nat):=do
 let (owner,k) <- acc
 let j <- SetTable.layClean.free mask owner (SetTable.turns mask) (SetTable.bits h % (mask+1))<|SetTable.bits h
 pure (owner.setIfInBounds j<|some k,k+1)
theorem MX{mask:Nat}(hm:Pow<|mask+1):∀(hs:List Int) (owner:gd) (k:Nat),Lies (mask+1) owner k->k+hs.length < mask+1+1 ->
  ∃ jJ,hs.foldl (xf mask) (some (owner,k))=some (jJ,k+hs.length)/\Lies (mask+1) jJ (k+hs.length)
 | [],owner,k,L,_=>⟨owner,rfl,L⟩
 | h :: r,owner,k,L,hk=>by
  rw [As] at hk ⊢;obtain⟨j,e,hj⟩:=L.free hm (by omega) h;obtain⟨o',e',L'⟩:=MX hm r _ (k+1) (L.put hj) (by omega);refine⟨o',?_,?_⟩
  ·rw [Dg,show xf mask (some (owner,k)) h=some (owner.setIfInBounds j<|some k,k+1) by unfold xf;simp [e],e']
   congr 2
   omega
  ·rw [show k+(r.length+1)=k+1+r.length by omega];exact L'
theorem Xj{mask:Nat}(hm:Pow<|mask+1)(hs:Array Int)(hl:hs.size < mask+1+1):∃ owner,SetTable.layClean mask hs=some owner/\Lies (mask+1) owner hs.size:=by
 obtain⟨o',e,L⟩:=MX hm hs.toList _ 0 (Lies.start<|mask+1) (by simpa using hl);refine⟨o',?_,by simpa using L⟩;have e2:SetTable.layClean mask hs=(hs.foldl (xf mask)<|some (Array.replicate (mask+1) none,0)).map (·.1):=rfl;rw [e2,<- Array.foldl_toList,e];rfl
theorem MY{mask finger moves:Nat}{led plain:Bool}(hm:Pow<|mask+1)(hs:Array Int)(hl:hs.size<=mask) :
  ∃ t order,SetTable.laid mask finger moves led plain hs=some (t,order)/\order.toList.Perm (List.range hs.size)/\t.fits hs.size=true/\t.led=led/\t.plain=plain/\t.mask=mask/\t.dummies=#[]/\t.place.size=hs.size:=by
 obtain⟨o,e,L⟩:=Xj hm hs (by omega);have hp:((live (mask+1) o).map (·.1)).toArray.size=hs.size:=by
  rw [Aw,Aa,L.length]
 refine⟨_,_,by unfold SetTable.laid;rw [e];rfl,?_,?_,rfl,rfl,rfl,rfl,hp⟩
 ·show((live (mask+1) o).map (·.2)).Perm _;exact L.perm
 ·unfold SetTable.fits SetTable.fill;show(((live (mask+1) o).map (·.1)).toArray.size == hs.size && decide (((live (mask+1) o).map (·.1)).toArray.size+0<=mask))=true;rw [hp];simp only [LR,VB,VD,DN];exact hl
def cJ(w:World):Bool:=w.params.followText "set-order"
def keyOf(e:Int×Value):Str:=match e.2 with
 | .str x _=>x
 | _=>⟨#[]⟩
section
variable(prog:Program)(w:World)
def m7(e:Int×Value):Prop:=∃ z t,e=((strKind prog w).hash z,Value.str z t)
structure Tab(es:Array<|Int×Value)(t:SetTable)(zs:List Str):Prop where
 elts:∀ e∈es.toList,m7 prog w e
 keys:(es.toList.map keyOf).Perm zs
 nodup:zs.Nodup
 few:zs.length < 1000
 fits:t.fits es.size=true
 led:t.led = !cJ w
 plain:es=#[]\/t.plain=false
def ax(h:Heap)(a:Addr)(zs:List Str):Prop:=∃ o es ep t,h.get? a=some o/\o.ExactSet/\o.data = .set es ep t/\Tab prog w es t zs
end
section
variable{prog:Program}{w:World}{es:Array (Int×Value)}{t:SetTable}{zs:List Str}{h h':Heap}{a:Addr}
theorem Tab.elems(T:Tab prog w es t zs):ElemsOf (strKind prog w) es.toList:=λe he=>by
 obtain⟨z,u,rfl⟩:=T.elts e he;exact⟨⟨z,OD _ _ _ _,rfl⟩,rfl⟩
theorem Tab.size(T:Tab prog w es t zs):es.size=zs.length:=by
 have:=T.keys.length_eq;rw [Aa,Br] at this;exact this
theorem Tab.fq(T:Tab prog w es t zs):es.size < 1000:=by rw [T.size];exact T.few
theorem Tab.scan(T:Tab prog w es t zs):es.size < scanBound:=by have:=T.fq;unfold scanBound;omega
theorem Tab.perm{fJ:Array (Int×Value)}{t':SetTable}(T:Tab prog w es t zs)(p:fJ.toList.Perm es.toList)(hf:t'.fits fJ.size=true)(hl:t'.led=t.led)(hp:fJ=#[]\/t'.plain=false):Tab prog w fJ t' zs:=
 ⟨λe he=>T.elts e<|p.mem_iff.mp he,(p.map keyOf).trans T.keys,T.nodup,T.few,hf,hl.trans T.led,hp⟩
theorem ax.keep(S:ax prog w h a zs)(k:∀ o,h.get? a=some o->h'.get? a=some o):ax prog w h' a zs:=let ⟨o,es,ep,t,h1,h2⟩:=S;⟨o,es,ep,t,k o h1,h2⟩
theorem ax.typeIs{s:Shared}(S:ax prog w s.heap a zs):s.TypeIs (.ref a) "set":=let ⟨o,_,_,_,h1,h2,_⟩:=S;⟨o,h1,h2.1⟩
theorem ax.lt(S:ax prog w h a zs):a < h.objs.size:=let ⟨_,_,_,_,h1,_⟩:=S;Au h1
theorem ax.few(S:ax prog w h a zs):zs.length < 1000:=let ⟨_,_,_,_,_,_,_,T⟩:=S;T.few
theorem ax.nodup(S:ax prog w h a zs):zs.Nodup:=let ⟨_,_,_,_,_,_,_,T⟩:=S;T.nodup
theorem oW{o:Obj}{ep:Nat}{fJ:Array (Int×Value)}{t':SetTable}{ix:List Str}(ho:h.get? a=some o)(hx:o.ExactSet)(hd:o.data = .set es ep t)(T':Tab prog w fJ t' ix) :
  (h.update a<|Obj.putSet fJ t').get? a=some {o with data:= .set fJ (ep+1) t'}/\ax prog w (h.update a<|Obj.putSet fJ t') a ix:=by
 have q:=Da (Obj.putSet fJ t') ho (by rw [putSet_of fJ t' hd];rfl);rw [putSet_of fJ t' hd] at q;exact⟨q,_,fJ,ep+1,t',q,hx,rfl,T'⟩
theorem B9{e:Int×Value}(he:m7 prog w e)(z:Str):(strKind prog w).is z e.2=decide (z=keyOf e):=by
 obtain⟨y,u,rfl⟩:=he;exact KeyKind.is_eq_decide (OD prog w y u) z
theorem find_none(T:Tab prog w es t zs){z:Str}(hz:z∉zs):es.toList.findIdx? (λe=>(strKind prog w).is z e.2)=none:=by
 rw [List.findIdx?_eq_none_iff];intro e he;rw [B9<|T.elts e he,HJ];rintro rfl;exact hz<|T.keys.mem_iff.mp<|List.mem_map_of_mem he
theorem find_some(T:Tab prog w es t zs){z:Str}(hz:z∈zs):∃ j,∃ hj:j < es.toList.length,es.toList.findIdx? (λe=>(strKind prog w).is z e.2)=some j/\keyOf es.toList[j]=z:=by
 obtain⟨e,he,e2⟩:=An.mp<|T.keys.mem_iff.mpr hz;cases q:es.toList.findIdx? (λe=>(strKind prog w).is z e.2) with
 | none=>
  have:=List.findIdx?_eq_none_iff.mp q e he;rw [B9<|T.elts e he,HJ] at this;exact absurd e2.symm this
 | some j=>
  obtain⟨hj,p,_⟩:=List.findIdx?_eq_some_iff_getElem.mp q;rw [B9<|T.elts _<|Bu hj,DN] at p;exact⟨j,hj,rfl,p.symm⟩
theorem Xk(t:SetTable)(n:Nat):(t.orStandIn n).led=t.led/\((t.orStandIn n).plain=true->t.plain=true):=by
 unfold SetTable.orStandIn
 split
 ·exact⟨rfl,id⟩
 ·exact⟨rfl,λh=>by cases h⟩
theorem Xl(t:SetTable)(es:Array<|Int×Value)(x:Int)(v:Value):(layNew t es x v).2.1.led=t.led:=by
 unfold layNew
 split
 ·exact(Xk _ _).1
 ·rfl
theorem Xm{mask f m:Nat}{l p:Bool}{hs:Array Int}{t':SetTable}{o:Array Nat}(e:SetTable.laid mask f m l p hs=some (t',o)):t'.led=l/\t'.plain=p:=by
 unfold SetTable.laid at e;cases c:SetTable.layClean mask hs with
 | none=>rw [c] at e;cases e
 | some ow=>rw [c] at e;cases e;exact⟨rfl,rfl⟩
theorem MZ(t:SetTable)(es:Array<|Int×Value)(n:Nat)(hp:t.plain=false):(relayAll t es n).2.1.led=t.led/\(relayAll t es n).2.1.plain=false:=by
 unfold relayAll
 split
 ·rename_i t' o e;have q:=Xm e
  dsimp only
  split
  ·exact⟨q.1,q.2.trans hp⟩
  ·exact⟨rfl,rfl⟩
 ·exact⟨rfl,rfl⟩
end
section
variable{prog:Program}{w:World}{A:Around}{E:Value->Shared->Prop}{s:Shared}{a:Addr}{zs:List Str}
theorem jK{n:Nat}(h:n < 1001):n<=sizeLine:=by rw [DX];omega
theorem M0{g:Bool->Sem Unit}(hg:∀(b:Bool) (s₁:Shared) (Q':Unit->Shared->Prop),Q' () s₁->wpAny (model prog w) A (g b) Q' E s₁)
  {o:Obj} {es:Array (Int×Value)} {ep:Nat} {t:SetTable} (ho:s.heap.get? a=some o) (hx:o.ExactSet) (hd:o.data = .set es ep t)
  {fM:Array (Int×Value)} {t2:SetTable} (T:Tab prog w fM t2 zs) (hp:t2.plain=false) {c:Bool} {R:Option Bool->Shared->Prop}
  (k:∀ h',Heap.SameBut a s.heap h'->ax prog w h' a zs->R (some true) {s with heap:=h'}) :
  wpAny (model prog w) A (do
   storeSet a fM t2
   if c=true then do
     g (relayAll t2 fM<|SetTable.grown fM.size).2.2
     storeSet a (relayAll t2 fM<|SetTable.grown fM.size).1 (relayAll t2 fM<|SetTable.grown fM.size).2.1
     pure (some true)
    else pure (some true)) R E s:=by
 refine BJ<|GX ho hd ?_<|jK<|Bz T.fq;obtain⟨q1,q2⟩:=oW ho hx hd T;have sb:=CQ s.heap a<|Obj.putSet fM t2;cases c with
 | false=>exact BL<|k _ sb q2
 | true=>
  have p:=relayAll_perm t2 fM<|SetTable.grown fM.size;have T3:=T.perm p (relayAll_fits t2 fM<|SetTable.grown fM.size) (MZ t2 fM _ hp).1<|.inr (MZ t2 fM _ hp).2;refine BJ<|hg _ _ _ ?_;refine BJ<|GX q1 rfl ?_ (jK<|Bz T3.fq);exact BL<|k _ (sb.trans<|CQ _ a _) (oW q1 hx rfl T3).2
def added(zs:List Str)(z:Str):List Str:=if z∈zs then zs else zs++[z]
theorem CA{z:Str}{tk:Tok}{Q:Bool->Shared->Prop}(S:ax prog w s.heap a zs)(hb:zs.length+1 < 1000)
  (k:∀(b:Bool) h',Heap.SameBut a s.heap h'->ax prog w h' a (added zs z)->Q b {s with heap:=h'}) :
  wpAny (model prog w) A (setAddHashed a (.str z tk)<|(strKind prog w).hash z) Q E s:=by
 obtain⟨o,es,ep,t,ho,hx,hd,T⟩:=S;unfold setAddHashed setAddHashedIn;refine CG<|BJ<|CN ho hd T.fits ?_
 dsimp only
 rw [byScan_of (knd:=strKind prog w) (x:= .str z tk) rfl T.scan T.elems];simp only [↓reduceIte];unfold setAddByScan;refine BJ<|BJ<|HS<|BJ<|wpAny_setScan_of (knd:=strKind prog w) (k:=z) (OD _ _ _ _) ho hd T.fits T.elems ?_
 by_cases hz:z∈zs
 ·obtain⟨j,hj,e,_⟩:=find_some T hz;rw [e]
  dsimp only
  refine BL<|BL<|k false s.heap (Heap.SameBut.refl a s.heap) ?_;unfold added;rw [BP hz];exact⟨o,es,ep,t,ho,hx,hd,T⟩
 ·rw [find_none T hz]
  dsimp only
  have gw:∀(b:Bool) (s₁:Shared) (Q':Unit->Shared->Prop),Q' () s₁->wpAny (model prog w) A (match b with | true=>rule "set.scan.the-table-gave-way" | false=>pure ()) Q' E s₁:=
   λb s₁ Q' q=>by cases b <;> first | exact BL q | exact HS q
  have p:=layNew_perm t es ((strKind prog w).hash z)<|.str z tk;have f:=layNew_fits t es ((strKind prog w).hash z)<|.str z tk;have l:=Xl t es ((strKind prog w).hash z)<|.str z tk;generalize layNew t es ((strKind prog w).hash z) (.str z tk)=L at p f l ⊢;obtain⟨fM,t1,wd,gv⟩:=L
  dsimp only at p f l ⊢
  rw [Array.toList_push] at p;have tab:∀ t2:SetTable,t2.fits fM.size=true->t2.led=t1.led->t2.plain=false->Tab prog w fM t2 (zs++[z]):=λt2 h1 h2 h3=>{
   elts:=λe he=>by
    rcases Am.mp (p.mem_iff.mp he) with he | he
    ·exact T.elts e he
    ·exact⟨z,tk,Ad.mp he⟩
   keys:=by
    refine(p.map keyOf).trans ?_;rw [Ak];exact T.keys.append<|List.Perm.refl _
   nodup:=by
    rw [Co];refine⟨T.nodup,by simp,λx hx y hy e=>?_⟩;rw [Ad] at hy;subst hy e;exact hz hx
   few:=by rw [Af];exact hb
   fits:=h1
   led:=h2.trans<|l.trans T.led
   plain:= .inr h3}
  have fin:∀ h',Heap.SameBut a s.heap h'->ax prog w h' a (zs++[z])->Q true {s with heap:=h'}:=λh' q1 q2=>k true h' q1 (by unfold added;rw [BK hz];exact q2);refine BJ<|gw _ _ _ ?_
  split
  ·rename_i hp;refine BJ ?_;rw [hashByValue_scannable 8 rfl];refine BL ?_;refine M0 gw ho hx hd (tab {t1 with plain:=false} (SetTable.fits_plain_off f) rfl rfl) rfl λh' q1 q2=>?_
   dsimp only
   exact BL<|fin h' q1 q2
  ·rename_i hp;refine BJ<|BL ?_;simp only [↓reduceIte];refine M0 gw ho hx hd (tab t1 f rfl (Em.mpr hp)) (Em.mpr hp) λh' q1 q2=>?_
   dsimp only
   exact BL<|fin h' q1 q2
theorem M1{z:Str}{tk:Tok}{Q:Option Nat->Shared->Prop}{o:Obj}{es:Array (Int×Value)}{ep:Nat}{t:SetTable}(ho:s.heap.get? a=some o)(hd:o.data = .set es ep t)(T:Tab prog w es t zs)
  (k0:z∉zs->Q none s) (k1:∀ j,(hj:j < es.toList.length)->keyOf es.toList[j]=z->Q (some j) s):wpAny (model prog w) A (setFind a (.str z tk)<|(strKind prog w).hash z) Q E s:=by
 unfold setFind setFindIn;refine BJ<|CN ho hd T.fits ?_
 dsimp only
 rw [byScan_of (knd:=strKind prog w) (x:= .str z tk) rfl T.scan T.elems];simp only [↓reduceIte];refine BJ<|HS<|BJ<|wpAny_setScan_of (knd:=strKind prog w) (k:=z) (OD _ _ _ _) ho hd T.fits T.elems ?_
 by_cases hz:z∈zs
 ·obtain⟨j,hj,e,q⟩:=find_some T hz;rw [e]
  dsimp only
  rw [Eb];exact BL<|k1 j hj q
 ·rw [find_none T hz];exact BL<|k0 hz
theorem xg{α:Type}(xs:Array α)(i:Nat):(SetTable.eraseAt xs i).toList=xs.toList.eraseIdx i:=by
 unfold SetTable.eraseAt;rw [Array.toList_append,Array.toList_extract,Array.toList_extract,List.eraseIdx_eq_take_drop_succ];simp [List.extract_eq_drop_take];exact Cr<|by simp
theorem bN{α:Type}:∀(l:List α) (j:Nat) (hj:j < l.length),(l[j] :: l.eraseIdx j).Perm l
 | [],_,h=>by simp at h
 | x :: r,0,_=>List.Perm.refl _
 | x :: r,j+1,h=>(List.Perm.swap x _ _).trans<|(bN r j<|Nat.lt_of_succ_lt_succ h).cons x
theorem Xn{t:SetTable}{n i:Nat}(h:t.fits n=true)(hi:i < n):(t.drop i).fits (n - 1)=true/\(t.drop i).led=t.led/\(t.drop i).plain=t.plain:=by
 unfold SetTable.fits at h;rw [Bv,JM,DN] at h;have xh:i < t.place.size:=by rw [h.1];exact hi
 unfold SetTable.drop;rw [Dj xh]
 dsimp only
 refine⟨?_,rfl,rfl⟩;have e1:(SetTable.eraseAt t.place i).size=n - 1:=by
  rw [<- Br,xg,Cv,Br,BP xh,h.1]
 have e2:∀ j,(SetTable.insertAt t.dummies (SetTable.below t.dummies j) j).size=t.dummies.size+1:=λj=>by
  have:=(SetTable.insertAt_perm t.dummies (SetTable.below t.dummies j) j).length_eq
  simpa using this
 have h2:=h.2;unfold SetTable.fill at h2;unfold SetTable.fits SetTable.fill
 dsimp only
 rw [e1,e2];simp only [LR,VB,DN];omega
theorem Xp{z:Str}{tk:Tok}{Q:Bool->Shared->Prop}(S:ax prog w s.heap a zs)
  (k0:z∉zs->Q false s) (k1:∀ h',z∈zs->Heap.SameBut a s.heap h'->ax prog w h' a (zs.erase z)->Q true {s with heap:=h'}) :
  wpAny (model prog w) A (setDiscardHashed a (.str z tk)<|(strKind prog w).hash z) Q E s:=by
 obtain⟨o,es,ep,t,ho,hx,hd,T⟩:=S;unfold setDiscardHashed;refine BJ<|M1 ho hd T (λhz=>?_) λj hj e=>?_
 ·exact BL<|k0 hz
 ·dsimp only
  have oX:j < es.size:=by simpa using hj
  have hz:z∈zs:=T.keys.mem_iff.mp<|An.mpr ⟨_,Bu hj,e⟩;obtain⟨f1,f2,f3⟩:=Xn T.fits oX;have pz:(keyOf es.toList[j] :: (es.toList.eraseIdx j).map keyOf).Perm zs:=by
   refine List.Perm.trans ?_ T.keys;rw [<- Bj];exact(bN _ j hj).map keyOf
  rw [e] at pz;have T':Tab prog w (SetTable.eraseAt es j) (t.drop j) (zs.erase z):={
   elts:=λx hx=>by
    rw [xg] at hx;exact T.elts x<|Ex hx
   keys:=by
    rw [xg];refine List.Perm.cons_inv (a:=z)<|pz.trans ?_;exact List.perm_cons_erase hz
   nodup:=T.nodup.erase z
   few:=QG (List.length_erase_le) T.few
   fits:=by
    have:(SetTable.eraseAt es j).size=es.size - 1:=by
     rw [<- Br,xg,Cv,Br,BP oX]
    rw [this];exact f1
   led:=f2.trans T.led
   plain:=by
    rcases T.plain with q | q
    ·subst q;simp at oX
    ·exact .inr (f3.trans q)}
  refine BJ<|CN ho hd T.fits ?_
  dsimp only
  refine BJ<|GX ho hd ?_<|jK<|Bz T'.fq;refine BJ<|wpAny_point<|BL<|k1 _ hz (CQ _ a _) (oW ho hx hd T').2
theorem M4{α:Type}(next:Nat->Nat):∀(fuel k:Nat) (left:List α) (out:Array α),left.length<=fuel->(pickOrder.go next fuel k left out).toList.Perm (out.toList++left)
 | 0,k,left,out,h=>by
  have:left=[]:=Bi.mp (by omega);subst this;unfold pickOrder.go;simp
 | fuel+1,k,left,out,h=>by
  unfold pickOrder.go;cases e:left[next k % left.length]? with
  | none=>
   have:left=[]:=by
    cases left with
    | nil=>rfl
    | cons x r=>
     have hl:next k % (x :: r).length < (x :: r).length:=Gu _ (by simp);rw [Ab hl] at e;cases e
   subst this;simp
  | some x=>
   dsimp only
   obtain⟨hl,e2⟩:=Ac.mp e;refine(M4 next fuel (k+1) _ _ (by rw [Cv,BP hl];omega)).trans ?_;rw [Array.toList_push,Aq];refine MF _ ?_;have:=bN left _ hl;rw [e2] at this;exact this
theorem M5{α:Type}(next:Nat->Nat)(xs:Array α):(pickOrder next xs).toList.Perm xs.toList:=by
 have:=M4 next xs.size 0 xs.toList #[] (by simp)
 simpa [pickOrder] using this
theorem wp_choose{src:Source}{n:Nat}{Q:Nat->Shared->Prop}(hn:n≠0)(h:∀ i d,i < n->Q i {s with drawn:=d}):wpAny (model prog w) A (choose src n) Q E s:=
 λΓ p _=>⟨hn,h _ _<|Gu _<|Nat.pos_of_ne_zero hn⟩
theorem CB{α:Type}:∀(n:Nat) (xs:List α) (s:Shared) (Q:List α->Shared->Prop),xs.length<=n->(∀ ys d,ys.Perm xs->Q ys {s with drawn:=d})->wpAny (model prog w) A (drawOrder n xs) Q E s
 | 0,xs,s,Q,h,k=>by
  have:xs=[]:=Bi.mp (by omega);subst this;unfold drawOrder;exact BL<|k [] s.drawn<|List.Perm.refl _
 | n+1,[],s,Q,h,k=>by
  unfold drawOrder;exact BL<|k [] s.drawn<|List.Perm.refl _
 | n+1,x :: r,s,Q,h,k=>by
  unfold drawOrder;refine BJ (wp_choose (by simp) λi d hi=>?_);rw [Ab hi]
  dsimp only
  refine BJ (CB n _ _ _ (by rw [Cv,BP hi];omega) λys d2 p=>?_);exact BL<|k _ d2<|(p.cons _).trans<|bN _ i hi
theorem wp_text{Q:Bool->Shared->Prop}(k:Q (cJ w) s):wpAny (model prog w) A setsByText Q E s:=by
 unfold setsByText;exact BJ<|JL<|BL k
variable{o:Obj}{es:Array (Int×Value)}{ep:Nat}{t:SetTable}
theorem Xq{Q:Array (Int×Value)->Shared->Prop}(ho:s.heap.get? a=some o)(hd:o.data = .set es ep t)(T:Tab prog w es t zs)
  (k:∀ ws d,ws.toList.Perm es.toList->Q ws {s with drawn:=d}):wpAny (model prog w) A (setWalk a) Q E s:=by
 unfold setWalk;refine BJ<|CN ho hd T.fits ?_
 dsimp only
 refine BJ<|wp_text ?_;cases hb:cJ w with
 | true=>
  simp only [DK];refine BJ<|JL ?_;exact BL<|k _ s.drawn<|M5 _ _
 | false=>
  simp only [Bb,CV];show wpAny _ _ (if(!t.plain && decide (es.size > 1))=true then _ else _) _ _ _
  split
  ·refine BJ (CB _ _ _ _ (by simp) λys d p=>?_);exact BL<|k _ d<|by simpa using p
  ·refine BJ ?_;show wpAny _ _ (if(!t.led && decide (es.size > 1))=true then _ else _) _ _ _;rw [BK<|by rw [T.led,hb];simp];exact BL<|BL<|k _ s.drawn<|List.Perm.refl _
theorem Xr{Q:Bool->Shared->Prop}(l:List Addr)(hl:∀ b∈l,∃ ys,ax prog w s.heap b ys)(k:Q true s):wpAny (model prog w) A (setsQuiet l) Q E s:=by
 unfold setsQuiet;refine BJ<|wpAny_forIn_list _ (λrest b s'=>b.1=none/\s'=s/\∀ c∈rest,∃ ys,ax prog w s.heap c ys) _ ?_ ?_ l _ ⟨rfl,rfl,hl⟩
 ·rintro x rest b s' ⟨hb,rfl,hr⟩;obtain⟨ys,o,es,ep,t,ho,hx,hd,T⟩:=hr x Ae;refine BJ<|JR ho hd T.fits ?_;refine BJ<|QJ _ (λrest b tq=>b.1=none/\tq=s'/\∀ e∈rest,m7 prog w e) _ ?_ ?_ es _ ⟨rfl,rfl,T.elts⟩
  ·rintro e r2 b2 s2 ⟨lR,rfl,he⟩;obtain⟨z,u,rfl⟩:=he _ Ae;exact BL ⟨rfl,rfl,λe h=>he e<|Ah _ h⟩
  ·rintro ⟨_,_⟩ s2 ⟨rfl,rfl,_⟩;exact BL ⟨rfl,rfl,λc h=>hr c<|Ah _ h⟩
 ·rintro ⟨_,_⟩ s' ⟨rfl,rfl,_⟩;exact BL k
theorem Xs{f:Addr}{zf:List Str}{Q:Array (Int×Value)->Shared->Prop}(ho:s.heap.get? a=some o)(hx:o.ExactSet)(hd:o.data = .set es ep t)(T:Tab prog w es t zs)(Sf:ax prog w s.heap f zf)
  (k:∀ ws h' d,ws.toList.Perm es.toList->Heap.SameBut f s.heap h'->ax prog w h' f zf->Q ws {s with heap:=h',drawn:=d}):wpAny (model prog w) A (setWalkUnseen a [f]<|some f) Q E s:=by
 unfold setWalkUnseen;refine BJ<|CN ho hd T.fits ?_
 dsimp only
 refine BJ<|wp_text ?_
 split
 ·exact Xq ho hd T λws d p=>k ws s.heap d p (Heap.SameBut.refl _ _) Sf
 ·rename_i hn;have hb:cJ w=false:=by
   cases e:cJ w with
   | false=>rfl
   | true=>rw [e] at hn;simp at hn
  refine BJ<|Xr [a,f] (λb hb=>?_) ?_
  ·rcases Ai.mp hb with rfl | hb
   ·exact⟨zs,o,es,ep,t,ho,hx,hd,T⟩
   ·rw [Ad] at hb;subst hb;exact⟨zf,Sf⟩
  ·simp only [Dv,Bb,CV];refine BJ<|HS ?_;obtain⟨of,ef,CD,tf,CF,Xt,lB,Tf⟩:=id Sf;refine BJ<|CN CF lB Tf.fits ?_
   dsimp only
   have T2:Tab prog w ef {tf with led:=tf.led && t.led,plain:=tf.plain && t.plain} zf:=
    ⟨Tf.elts, Tf.keys, Tf.nodup, Tf.few, Tf.fits, by show (tf.led && t.led) = _; rw [Tf.led, T.led]; simp, by
     rcases Tf.plain with q | q
     ·exact .inl q
     ·exact .inr<|by show(tf.plain && t.plain)=false;rw [q];rfl⟩
   split
   ·refine BJ<|GX CF lB ?_<|jK<|Bz Tf.fq;exact BL<|k es _ s.drawn (List.Perm.refl _) (CQ _ f _) (oW CF Xt lB T2).2
   ·exact BL<|k es s.heap s.drawn (List.Perm.refl _) (Heap.SameBut.refl _ _) Sf
end
open Builtin.Frozenset
def oY(m:Nat):Bool:=m == 8 || m == 16 || m == 32 || m == 64 || m == 128
theorem Xu{m:Nat}(h:oY m=true):Pow m:=by
 unfold oY at h;simp only [Bool.or_eq_true,JM] at h;unfold Pow;omega
theorem Xv:((List.range 64).all λn=>oY (SetTable.sizeAbove<|n * 2) && decide (n < SetTable.sizeAbove (n * 2)))=true:=by decide +kernel
theorem Xw{n:Nat}(h:n < 64):Pow (SetTable.sizeAbove<|n * 2)/\n < SetTable.sizeAbove (n * 2):=by
 have q:=Xv;rw [Ee] at q;have:=q n<|Bp.mpr h;rw [Bv,DN] at this;exact⟨Xu this.1,this.2⟩
theorem Xx{es:Array (Int×Value)}{order:Array Nat}(p:order.toList.Perm<|List.range es.size):(order.filterMap (es[·]?)).toList.Perm es.toList:=by
 rw [Array.toList_filterMap];have:=p.filterMap λi=>es[i]?;rwa [filterMap_getElem?_range] at this
section
variable{prog:Program}{w:World}{A:Around}{E:Value->Shared->Prop}{s:Shared}{a:Addr}{zs:List Str}
structure eI(w:World)(t:SetTable):Prop where
 place:t.place=#[]
 dummies:t.dummies=#[]
 led:t.led = !cJ w
 plain:t.plain=true
theorem eI.tab{t:SetTable}(B:eI w t):Tab prog w #[] t []:=
 ⟨λe he=>by simp at he,by simp,Ch,by decide,by unfold SetTable.fits SetTable.fill;rw [B.place,B.dummies];simp,B.led,.inl rfl⟩
theorem eI.fill{t:SetTable}(B:eI w t):t.fill=0:=by unfold SetTable.fill;rw [B.place,B.dummies];rfl
theorem Xy{Q:Value->Shared->Prop}
  (k:∀ o,o.ExactSet->(∃ t,o.data = .set #[] 0 t/\eI w t/\t.mask=7)->o.isFreed=false->Q (.ref s.heap.objs.size) {s with heap:=s.heap.push o}):wpAny (model prog w) A (newSet<|.type "set") Q E s:=by
 unfold newSet;refine BJ<|wp_text ?_
 dsimp only
 simp only [newObj];refine BJ<|QB<|BL ?_;exact k _ ⟨rfl,rfl,rfl⟩ ⟨_,rfl,⟨rfl,rfl,rfl,rfl⟩,rfl⟩ rfl
variable{o:Obj}{ep:Nat}{t:SetTable}
theorem Xz{n:Nat}{Q:Unit->Shared->Prop}(ho:s.heap.get? a=some o)(hx:o.ExactSet)(hd:o.data = .set #[] ep t)(B:eI w t)(hm:t.mask=7)(hn:n < 64)
  (k:∀ h' o' om t',Heap.SameBut a s.heap h'->h'.get? a=some o'->o'.ExactSet->o'.data = .set #[] om t'->eI w t'->Pow (t'.mask+1)->n<=t'.mask->Q () {s with heap:=h'}) :
  wpAny (model prog w) A (setRoomFor a n) Q E s:=by
 have T:Tab prog w #[] t []:=B.tab;unfold setRoomFor;refine BJ<|CN ho hd T.fits ?_
 dsimp only
 unfold SetTable.roomFor;rw [B.fill,hm]
 by_cases c:(0+n) * 5>=7 * 3
 ·rw [BP c]
  dsimp only
  have e0:(t.place.size+n) * 2=n * 2:=by rw [B.place];simp
  rw [e0];obtain⟨hp,hl⟩:=Xw hn;unfold setRelay;refine BJ<|CN ho hd T.fits ?_
  dsimp only
  have hle:SetTable.sizeAbove (n * 2)<=512:=hp.pos.2;have h8:8<=SetTable.sizeAbove (n * 2):=hp.pos.1;rw [BK<|by rw [DX];omega];have em:SetTable.sizeAbove (n * 2) - 1+1=SetTable.sizeAbove (n * 2):=by omega
  obtain⟨t',order,e,p,f,l1,l2,l3,l4,l5⟩:=MY (mask:=SetTable.sizeAbove (n * 2) - 1) (finger:=t.finger) (moves:=t.movedTo<|SetTable.sizeAbove (n * 2) - 1) (led:=t.led) (plain:=t.plain) (by rw [em];exact hp) (#[]:Array Int) (by simp);have er:t.relaid ((#[]:Array<|Int×Value).map (·.1)) (n * 2)=some (t',order):=by
   unfold SetTable.relaid;rw [show((#[]:Array<|Int×Value).map (·.1))=#[] by simp];exact e
  rw [er];have eo:order=#[]:=by
   have:=p.length_eq;simp at this;exact this
  subst eo;refine BJ ?_;show wpAny _ _ (if(((#[]:Array Nat).filterMap ((#[]:Array<|Int×Value)[·]?)).size != (#[]:Array<|Int×Value).size)=true then(unsupported "internal:set-table-lost-an-element" : Sem<|Array (Int×Value)×SetTable) else pure ((#[]:Array Nat).filterMap ((#[]:Array<|Int×Value)[·]?),t')) _ _ _;rw [BK<|by simp];refine BL ?_
  dsimp only
  have ee:((#[]:Array Nat).filterMap ((#[]:Array<|Int×Value)[·]?))=#[]:=by simp
  rw [ee];have B':eI w t':=⟨by
   have:=l5
   simpa using this,l4,l1.trans B.led,l2.trans B.plain⟩
  refine GX ho hd ?_ (by simp);have q:=(oW ho hx hd<|B'.tab (prog:=prog)).1;exact k _ _ _ _ (CQ _ a _) q hx rfl B' (by rw [l3,em];exact hp) (by rw [l3];omega)
 ·rw [BK c];exact BL<|k s.heap o ep t (Heap.SameBut.refl _ _) ho hx hd B (by rw [hm];exact .inl rfl)<|by rw [hm];omega
theorem XA{b:Addr}{each:Sem Unit}{Q:Unit->Shared->Prop}(ho:s.heap.get? a=some o)(hx:o.ExactSet)(hd:o.data = .set #[] ep t)(B:eI w t)(hm:t.mask=7)(ft:a≠b)(S:ax prog w s.heap b zs)(hz:zs.length < 64)
  (k:∀ h',Heap.SameBut a s.heap h'->ax prog w h' a zs->Q () {s with heap:=h'}):wpAny (model prog w) A (setMerge a b each) Q E s:=by
 obtain⟨ob,eo,epb,tb,oZ,hxb,di,Tb⟩:=S;unfold setMerge;have e1:(a == b)=false:=by simpa using ft
 rw [e1];simp only [Bb,CV];refine BJ<|CN oZ di Tb.fits ?_
 dsimp only
 by_cases c:eo.isEmpty=true
 ·rw [BP c];have:eo=#[]:=by simpa using c
  subst this;have ez:zs=[]:=by
   have:=Tb.size;exact Bi.mp<|by simpa using this.symm
  subst ez;exact BL<|k s.heap (Heap.SameBut.refl _ _) ⟨o,#[],ep,t,ho,hx,hd,B.tab⟩
 ·rw [BK c];have hsz:eo.size < 64:=by rw [Tb.size];exact hz
  refine BJ<|Xz ho hx hd B hm hsz λh' o' om t' sb fI fZ oj B' hp hl=>?_;refine BJ<|CN fI oj (B'.tab (prog:=prog)).fits ?_
  dsimp only
  have ld:(t'.led && tb.led) = !cJ w:=by rw [B'.led,Tb.led];simp
  have pl:tb.plain=false:=by
   rcases Tb.plain with q | q
   ·rw [q] at c;simp at c
   ·exact q
  unfold SetTable.road;rw [B'.fill];simp only [FW,Bb,CV]
  by_cases c2:(t'.mask == tb.mask && tb.dummies.isEmpty)=true
  ·rw [BP c2]
   dsimp only
   have T2:Tab prog w eo {tb with finger:=t'.finger,led:=t'.led && tb.led,moves:=t'.moves,plain:=t'.plain && tb.plain} zs:=
    ⟨Tb.elts,Tb.keys,Tb.nodup,Tb.few,Tb.fits,ld,.inr<|by show(t'.plain && tb.plain)=false;rw [pl];simp⟩
   refine GX fI oj ?_<|jK<|Bz Tb.fq;exact k _ (sb.trans<|CQ _ a _) (oW fI fZ oj T2).2
  ·rw [BK c2]
   dsimp only
   obtain⟨t2,order,e,p,f,l1,l2,l3,l4,l5⟩:=MY (finger:=t'.finger) (moves:=t'.moves) (led:=t'.led && tb.led) (plain:=t'.plain && tb.plain) hp (eo.map (·.1)) (by simpa using hl);rw [e];have p2:order.toList.Perm (List.range eo.size):=by simpa using p
   have pp:=Xx p2;have ps:(order.filterMap (eo[·]?)).size=eo.size:=by
    have:=pp.length_eq;rwa [Br,Br] at this
   refine BJ ?_;show wpAny _ _ (if((order.filterMap (eo[·]?)).size != eo.size)=true then _ else pure (order.filterMap (eo[·]?),t2)) _ _ _;rw [BK<|by rw [ps];simp];refine BL ?_
   dsimp only
   have T2:Tab prog w (order.filterMap (eo[·]?)) t2 zs:=⟨λx hx=>Tb.elts x<|pp.mem_iff.mp hx,(pp.map keyOf).trans Tb.keys,Tb.nodup,Tb.few,by rw [ps];simpa using f,l1.trans ld,.inr<|l2.trans<|by rw [pl];simp⟩;refine GX fI oj ?_<|jK<|Bz T2.fq;exact k _ (sb.trans<|CQ _ a _) (oW fI fZ oj T2).2
theorem xi{Q:Bool->Shared->Prop}(S:ax prog w s.heap a zs)(k:Q true s):wpAny (model prog w) A (isAnySet<|.ref a) Q E s:=by
 unfold isAnySet;refine BJ<|JN S.typeIs sub_set_self ?_;exact BL k
theorem XB{Q:Value->Shared->Prop}(S:ax prog w s.heap a zs)(k:Q (.type "set") s):wpAny (model prog w) A (baseOf a) Q E s:=by
 unfold baseOf;refine BJ<|JN S.typeIs sub_set_self ?_;exact BL k
theorem M6{Q:Nat->Shared->Prop}(S:ax prog w s.heap a zs)(k:∀ n,(∀ s':Shared,s'.heap.get? a=s.heap.get? a->∀ Q':Nat->Shared->Prop,Q' n s'->wpAny (model prog w) A (setEpoch a) Q' E s')->Q n s):wpAny (model prog w) A (setEpoch a) Q E s:=by
 obtain⟨o,es,ep,t,ho,hx,hd,T⟩:=S;exact KH ho hd T.fits<|k ep λs' e Q' q=>KH (e.trans ho) hd T.fits q
theorem XD{b:Addr}{id:String}{Q:Value->Shared->Prop}(S:ax prog w s.heap b zs)(hz:zs.length < 64)
  (k:∀ h',(∀ c o,s.heap.get? c=some o->h'.get? c=some o)->ax prog w h' s.heap.objs.size zs->Q (.ref s.heap.objs.size) {s with heap:=h'}):wpAny (model prog w) A (newFrom id (.type "set")<|.ref b) Q E s:=by
 unfold newFrom;refine BJ<|Xy λo hx ⟨t,hd,B,hm⟩ hf=>?_;have ho:(s.heap.push o).get? s.heap.objs.size=some o:=At _ hf;have aY:b < s.heap.objs.size:=S.lt;have S':ax prog w (s.heap.push o) b zs:=S.keep λo' e=>Ag _ e;unfold addrOf;refine BJ<|BL<|BJ<|CG ?_;unfold updateFrom;refine BJ<|xi (s:={s with heap:=s.heap.push o}) S' ?_;simp only [DK];refine BJ<|BL ?_;unfold merge;refine BJ<|M6 (s:={s with heap:=s.heap.push o}) S' λn _=>?_;refine XA (s:={s with heap:=s.heap.push o}) ho hx hd B hm (Cs aY) S' hz λh' sb S2=>?_;refine BL<|k h' (λc u e=>?_) S2;have hc:c≠s.heap.objs.size:=Bn<|Au e;rw [sb.2 c hc];exact Ag _ e
def flipped(zs:List Str)(z:Str):List Str:=if z∈zs then zs.erase z else zs++[z]
theorem CH{zs:List Str}(hn:zs.Nodup)(z y:Str):y∈flipped zs z↔(if y=z then y∉zs else y∈zs):=by
 unfold flipped
 by_cases c:z∈zs
 ·rw [BP c,hn.mem_erase_iff]
  by_cases e:y=z
  ·subst e;simp [c]
  ·simp [e]
 ·rw [BK c,Am,Ad]
  by_cases e:y=z
  ·subst e;simp [c]
  ·simp [e]
theorem XE(zs:List Str)(z:Str):(flipped zs z).length<=zs.length+1:=by
 unfold flipped
 split
 ·exact Nat.le_succ_of_le<|List.length_erase_le
 ·simp
theorem M7:∀(ps zs:List Str),zs.Nodup->ps.Nodup->∀ y,y∈ps.foldl flipped zs↔(if y∈ps then y∉zs else y∈zs)
 | [],zs,_,_,y=>by simp
 | p :: r,zs,hn,hp,y=>by
  rw [Bf] at hp;have AU:(flipped zs p).Nodup:=by
   unfold flipped
   split
   ·exact hn.erase p
   ·rename_i c;rw [Co];exact⟨hn,by simp,λx hx y hy e=>by rw [Ad] at hy;subst hy e;exact c hx⟩
  rw [Dg,M7 r _ AU hp.2 y]
  by_cases e:y=p
  ·subst e;rw [BK hp.1,CH hn,BP rfl,BP Ae]
  ·by_cases c:y∈r
   ·rw [BP c,BP<|Ah _ c,CH hn,BK e]
   ·rw [BK c,BK (λh=>by rcases Ai.mp h with h | h;exact e h;exact c h),CH hn,BK e]
end
theorem XG:entryFor table "set.__xor__" = some Builtin.«frozenset.__xor__»:=
 PL (id':= "frozenset.__xor__") (by kernel_rfl) rfl (by decide +kernel) (by kernel_rfl)
section
variable{prog:Program}{w:World}{A:Around}{E:Value->Shared->Prop}{s:Shared}{a r:Addr}{za zr:List Str}
theorem XH{nm:String}{Q:Unit->Shared->Prop}(Sa:ax prog w s.heap a za)(Sr:ax prog w s.heap r zr)(xj:a≠r)(hl:za.length+zr.length < 900)
  (k:∀ h' d (ws:List Str),ws.Perm za->Heap.SameBut r s.heap h'->ax prog w h' r (ws.foldl flipped zr)->Q () {s with heap:=h',drawn:=d}):wpAny (model prog w) A (symmetricDifferenceUpdate nm r<|.ref a) Q E s:=by
 unfold symmetricDifferenceUpdate;have e1:(Value.ref a == Value.ref r)=false:=by
  refine Em.mpr λh=>xj ?_;have:=eq_of_beq h;exact Value.ref.inj this
 rw [e1];simp only [Bb,CV];refine BJ<|KC Sa.typeIs ?_;rw [show(Value.type "set" == Value.type "dict")=false by decide];simp only [Bb,CV];refine BJ<|xi Sa ?_;simp only [DK];refine BJ<|BL ?_;unfold addrOf;refine BJ<|BL ?_;refine BJ<|M6 Sa λn hn=>?_;refine CG ?_;obtain⟨o,es,ep,t,ho,hx,hd,T⟩:=id Sa;refine BJ<|Xs ho hx hd T Sr λws h1 d1 p sb S1=>?_;have pw:(ws.toList.map keyOf).Perm za:=(p.map keyOf).trans T.keys;have el:∀ e∈ws.toList,m7 prog w e:=λe he=>T.elts e<|p.mem_iff.mp he;refine BJ<|QJ _ (λrest _ s'=>∃ h' zz,s'={s with heap:=h',drawn:=d1}/\Heap.SameBut r s.heap h'/\ax prog w h' r zz/\zz.length+rest.length < 900/\(∀ e∈rest,m7 prog w e) /\
   (rest.map keyOf).foldl flipped zz=(ws.toList.map keyOf).foldl flipped zr) _ ?_ ?_ ws _ ⟨h1,zr,rfl,sb,S1,?_,el,rfl⟩
 ·rintro e rest b s' ⟨h',zz,rfl,rm,S',m8,he,hf⟩;obtain⟨z,tk,rfl⟩:=he _ Ae;have o6:∀ e∈rest,m7 prog w e:=λe h=>he e<|Ah _ h;rw [As] at m8;have M8:∀(h2:Heap) (Q':Nat->Shared->Prop),Heap.SameBut r s.heap h2->Q' n {s with heap:=h2,drawn:=d1}->wpAny (model prog w) A (setEpoch a) Q' E {s with heap:=h2,drawn:=d1}:=
   λh2 Q' q1 q2=>hn _ (q1.2 a xj) Q' q2
  have fin:∀ h2 CI,Heap.SameBut r s.heap h2->ax prog w h2 r CI->CI=flipped zz z->∃ h' CL,({s with heap:=h2,drawn:=d1}:Shared)={s with heap:=h',drawn:=d1}/\Heap.SameBut r s.heap h'/\ax prog w h' r CL/\CL.length+rest.length < 900/\(∀ e∈rest,m7 prog w e) /\
    (rest.map keyOf).foldl flipped CL=(ws.toList.map keyOf).foldl flipped zr:=by
   rintro h2 CI q1 q2 rfl;refine⟨h2,_,rfl,q1,q2,?_,o6,hf⟩;have:=XE zz z;omega
  dsimp only
  refine BJ<|CG<|BJ<|Xp (s:={s with heap:=h',drawn:=d1}) S' (λhz=>?_) λh2 hz q1 q2=>?_
  ·simp only [TY,DK];refine BJ (CA (s:={s with heap:=h',drawn:=d1}) S' (by omega) λb h2 q1 q2=>BL ?_);unfold unchanged;refine BJ<|BJ<|M8 h2 _ (rm.trans q1) ?_;simp only [FW,Bb,CV];refine BL<|BL<|fin h2 _ (rm.trans q1) q2 ?_;unfold added flipped;rw [BK hz,BK hz]
  ·simp only [Dv,Bb,CV];refine BL ?_;unfold unchanged;refine BJ<|BJ<|M8 h2 _ (rm.trans q1) ?_;simp only [FW,Bb,CV];refine BL<|BL<|fin h2 _ (rm.trans q1) q2 ?_;unfold flipped;rw [BP hz]
 ·rintro b s' ⟨h',zz,rfl,rm,S',_,_,hf⟩;have w8:zz=(ws.toList.map keyOf).foldl flipped zr:=hf;subst w8;exact BL<|k h' d1 _ pw rm S'
 ·have:=pw.length_eq;rw [Aa] at this;omega
theorem XI{b:Addr}{zb:List Str}{Q:Value->Shared->Prop}(Sa:ax prog w s.heap a za)(Sb:ax prog w s.heap b zb)(ha:za.length < 64)(hb:zb.length < 64)
  (k:∀ h' d zc,(∀ c o,s.heap.get? c=some o->h'.get? c=some o)->ax prog w h' s.heap.objs.size zc->(∀ y,y∈zc↔(if y∈za then y∉zb else y∈zb))->Q (.ref s.heap.objs.size) {s with heap:=h',drawn:=d}) :
  wpAny (model prog w) A (binaryOp .BitXor (.ref a)<|.ref b) Q E s:=by
 refine wpAny_binaryOp_same (op:= .BitXor) (T:= "set") Sa.typeIs Sb.typeIs F.fills_set_xor F.slot_set_xor<|DG F.slot_set_xor Sa.typeIs XG ?_<|F.args_set_xor_2 _ _;show wpAny _ _ (slot1 "__xor__" ⟨[.ref a,.ref b],[]⟩ >>= _) _ _ _;unfold slot1 slotArgs;simp only [Gi,Dv,Bb,↓reduceIte,bind_assoc,As,Eh,FW];refine BJ<|BL ?_
 dsimp only
 refine BJ<|BL ?_
 dsimp only
 refine BJ<|BJ<|xi Sa ?_;refine xi Sb ?_;simp only [Dv,Bb,CV];unfold addrOf;refine BJ<|BL ?_;refine BJ ?_;show wpAny _ _ (baseOf a >>= λc=>newFrom (toString "frozenset."++toString "__xor__") c (.ref b) >>= λres=>addrOf res >>= λq=>holding [res] (symmetricDifferenceUpdate (toString "frozenset."++toString "__xor__") q<|.ref a) >>= λ_=>pure res) _ _ _;refine BJ<|XB Sa ?_;refine BJ<|XD Sb hb λh1 k1 S1=>?_;unfold addrOf;refine BJ<|BL<|BJ<|CG ?_;have XJ:ax prog w h1 a za:=Sa.keep<|k1 a;refine XH (s:={s with heap:=h1}) XJ S1 (Bn Sa.lt) (by omega) λh2 d ws p sb S2=>?_;refine BL<|BL ⟨_,rfl,by simp,k h2 d _ (λc o e=>?_) S2 λy=>?_⟩
 ·rw [sb.2 c<|Bn<|Au e];exact k1 c o e
 ·rw [M7 ws zb Sb.nodup (p.nodup_iff.mpr Sa.nodup) y];simp only [p.mem_iff]
end
def made(zs:List Str):List Str:=zs.foldl added []
theorem CM(zs:List Str)(z y:Str):y∈added zs z↔y∈zs\/y=z:=by
 unfold added
 split
 ·rename_i h;exact⟨.inl,λq=>q.elim id λe=>e ▸ h⟩
 ·rw [Am,Ad]
theorem XM(zs:List Str)(z:Str):(added zs z).length<=zs.length+1:=by
 unfold added
 split <;> simp
theorem M9:∀(ps zs:List Str) (y:Str),y∈ps.foldl added zs↔y∈zs\/y∈ps
 | [],zs,y=>by simp
 | p :: r,zs,y=>by
  rw [Dg,M9 r,CM,Ai]
  constructor
  ·rintro ((h | h) | h)
   ·exact .inl h
   ·exact .inr<|.inl h
   ·exact .inr<|.inr h
  ·rintro (h | h | h)
   ·exact .inl<|.inl h
   ·exact .inl<|.inr h
   ·exact .inr h
theorem Nb:∀(ps zs:List Str),(ps.foldl added zs).length<=zs.length+ps.length
 | [],zs=>by simp
 | p :: r,zs=>by
  rw [Dg,As];have h1:=Nb r<|added zs p;have h2:=XM zs p;omega
theorem XN(zs:List Str)(y:Str):y∈made zs↔y∈zs:=by
 unfold made;rw [M9];simp
theorem CO(zs:List Str):(made zs).length<=zs.length:=by
 have:=Nb zs []
 simpa [made] using this
section
variable{prog:Program}{w:World}{A:Around}{E:Value->Shared->Prop}{s:Shared}
def gj(w:World):Obj:={cls:= .type "set",dict:=none,data:= .set #[] 0 (.fresh 0 0 (!cJ w))}
theorem CU{h:Heap}{a:Addr}(e:h.get? a=some (gj w)):ax prog w h a []:=⟨_,_,_,_,e,⟨rfl,rfl,rfl⟩,rfl,eI.tab ⟨rfl,rfl,rfl,rfl⟩⟩
theorem XO(v:Value){Q:Value->Shared->Prop}(k:Q (.ref s.heap.objs.size) {s with heap:=s.heap.push (gj w)}) :
  codeAny (model prog w) A (.call (.builtin "set.__new__") ⟨[.type "set",v],[]⟩) (wants Q E) s:=by
 refine JT ?_;show wpAny _ A.in1 (checkBuiltinCall "set.__new__" ⟨[.type "set",v],[]⟩ >>= λ_=>again<|.builtin "set.__new__" ⟨[.type "set",v],[]⟩) _ _ s;refine BJ<|HW (F.newCall_set_1 v)<|BL ⟨JB F.plain_set_new _,FJ F.entry_set_new ?_⟩;rw [EY F.plain_set_new _];unfold Builtin.«set.__new__» newClass
 dsimp only
 refine BJ<|BJ<|HW (show isType (.type "set")=pure true from rfl)<|BL ?_;simp only [Dv,Bb,CV];unfold newSet;refine BJ<|BJ<|wp_text ?_
 dsimp only
 simp only [newObj];refine BJ<|QB<|BL ?_;exact BL k
variable{R:Result->Shared->Prop}{I:Addr}{fp wr:List Addr}{G:Array GenState->Array GenState->Prop}{n:Nat}{P:Nat->Value->Prop}{St:Nat->Shared->Prop}
theorem XQ(W:WalksS prog w A.in1 I fp wr G n P St)(a:Addr)(ha:a∉fp)(zs:List Str)(hn:zs.length=n)(o7:∀ i v,P i v->∃ z t,zs[i]?=some z/\v=Value.str z t)(hb:n < 900) :
  ∀(k i:Nat) (s:Shared),n - i=k->i<=n->St i s->ax prog w s.heap a (made<|zs.take i)->(∀ s',Moved (a :: wr) G s s'->ax prog w s'.heap a (made zs)->R (.ok<|.ret .none) s') ->
   codeAny (model prog w) A (.builtin "set.update.loop" ⟨[.ref a,.ref I],[]⟩) R s:=by
 have Nc:a∉wr:=λh=>ha<|W.sub _ h;have lS:∀ b∈wr,b∈a :: wr:=λb hb=>Ah _ hb;intro k
 induction k with
 | zero=>
  intro i s hk hi st S k2;have e:i=n:=by omega
  subst e;refine FJ KD ?_;rw [EY HY _];show wpAny _ A.in1 (pyNext (.ref I) >>= _) _ _ s;refine BJ<|W.done s _ _ st λs' m=>?_;show wpAny _ A.in1 (ret Value.none) _ _ s';rw [Cr<|by omega] at S;exact BL<|k2 s' (m.mono lS)<|S.keep λo e=>m.heap a o Nc e
 | succ k ih=>
  intro i s hk hi st S k2;have aY:i < n:=by omega
  refine FJ KD ?_;rw [EY HY _];show wpAny _ A.in1 (pyNext (.ref I) >>= _) _ _ s;refine BJ<|W.item i s _ _ aY st λv s' hP dA m=>?_;obtain⟨z,t,hz,rfl⟩:=o7 i v hP;have S':ax prog w s'.heap a (made<|zs.take i):=S.keep λo e=>m.heap a o Nc e;show wpAny _ A.in1 (holding [Value.str z t] (setAdd a<|.str z t) >>= _) _ _ s';refine BJ<|CG ?_;unfold setAdd;refine CG<|BJ<|(strKind prog w).pyHash (k:=z) (OD _ _ _ _) ?_;have hl:(made<|zs.take i).length<=i:=By (CO _) (by rw [Bk];omega);refine CA (s:={s' with toks:=s'.toks+1}) S' (by omega) λb h' sb S2=>?_;have S3:ax prog w h' a (made<|zs.take<|i+1):=by
   rw [Cj,hz];unfold made;rw [List.foldl_append];exact S2
  refine BL ⟨JB HY _,ih (i+1) _ (by omega) aY (W.frame _ s' _ _ dA (Ek _) λc hc o e=>?_) S3 λs2 m2 S4=>?_⟩
  ·rw [sb.2 c λh=>ha<|h ▸ hc];exact e
  ·refine k2 s2 (Moved.trans W.gtrans ((m.mono lS).then_heap (Ek _) λc o hc e=>?_) m2) S4;rw [sb.2 c λh=>hc<|h ▸ Ae];exact e
theorem XR{Q:Value->Shared->Prop}{l:Addr}{items:Array Value}{zs:List Str}(hh:A.handled=none)(hl:s.heap.IsList l items)(hi:∀(i:Nat) v,items[i]?=some v->∃ z t,zs[i]?=some z/\v=Value.str z t)(hz:zs.length=items.size)(hb:items.size < 900)
  (k:∀ h' tk,(∀ b o,s.heap.get? b=some o->h'.get? b=some o)->ax prog w h' s.heap.objs.size (made zs)->Q (.ref s.heap.objs.size) {s with heap:=h',toks:=tk}):wpAny (model prog w) A (call (.type "set") [.ref l]) Q E s:=by
 obtain⟨c,tl,CY⟩:=F.called_set.mro;have tY:=F.called_set.made;have lS:=F.called_set.sub;refine wpAny_call<|JT ?_;show wpAny _ _ (callAny (.type "set") _) _ _ _;refine BL ⟨Code.quiet_builtin _ (by decide +kernel),FJ F.entry_type_call ?_⟩;rw [Around.under_plain (weight_type_call_type "set" [.ref l] []) rfl];have h1:=F.called_set.notType;have h2:=F.called_set.canCreate;have h3:=F.typeCall_set_1<|.ref l
 repeat (any_goals (first | assumption | wp_step))
 refine JK (XO (.ref l) (E:=E) (Q:=λv s₁=>v = .ref s.heap.objs.size/\s₁={s with heap:=s.heap.push (gj w)}) ⟨rfl,rfl⟩) λr s₁ hr=>?_;cases r with
 | error e=>exact hr
 | ok fl=>
  cases fl with
  | ret v=>
   obtain⟨rfl,rfl⟩:=hr;have hS:(s.heap.push<|gj w).get? s.heap.objs.size=some (gj w):=At _ rfl;have hT:Shared.TypeIs {s with heap:=s.heap.push (gj w)} (.ref s.heap.objs.size) "set":=⟨_,hS,rfl⟩;have kH:=F.called_set.init.lookup;have C0:=F.called_set.init.bind<|.ref s.heap.objs.size
   repeat (any_goals (first | assumption | wp_step))
   refine JK (codeAny_call_builtin (R:=wants (λr s₂=>r = .none/\∃ h' tk,s₂={s with heap:=h',toks:=tk}/\(∀ b o,s.heap.get? b=some o->h'.get? b=some o)/\ax prog w h' s.heap.objs.size (made zs)) E) F.called_set.init.plain F.entry_set_init<|check_set_init_1 hT ?_) λr2 s2 o8=>?_
   ·obtain⟨ol,tZ,i5,nl,iy⟩:=hl;obtain⟨XS,t6,Nf,o9⟩:=ol;simp only at i5 iy;subst i5 iy;have C1:(s.heap.push<|gj w).get? l=some {cls:= .type "list",dict:=t6,data:= .seq items nl,slots:=o9}:=Ag _ tZ;have n1:=F.sub_list_set;have n2:=F.sub_list_frozenset;have n3:(Value.type "list" == Value.type "dict")=false:=by decide
    have gk:(s.heap.push<|gj w).IsList l items:=⟨_,C1,rfl,nl,rfl⟩;have C2:(s.heap.push<|gj w).get? s.heap.objs.size=some {cls:= .type "set",dict:=none,data:= .set #[] 0 (.fresh 0 0 (!cJ w))}:=hS;unfold Builtin.«set.__init__» noKeywords updateFrom;generalize XT:pyIter=PI
    wp_walk
    subst XT;refine QS gk ?_;refine BJ<|wpAny_runValue ?_;have aY:l < s.heap.objs.size:=Au tZ;have bB:l≠(s.heap.push<|gj w).objs.size:=by
     rw [Cw];exact Bn<|Bz aY
    have XU:s.heap.objs.size∉[(s.heap.push<|gj w).objs.size,l]:=by
     rw [Cw];intro h
     rcases Ai.mp h with h | h
     ·exact absurd h<|Bn<|Gh _
     ·rw [Ad] at h;exact absurd h<|Cs aY
    refine XQ ((Walks.list (by simp [hh]) _ l bB items).toS) s.heap.objs.size XU zs hz (λi v hv=>hi i v hv) hb (items.size - 0) 0 _ (by omega) (Bt _)
     ⟨⟨_,At _ rfl,rfl,rfl⟩,(gk.push _)⟩ ?_ λs' m S'=>?_
    ·exact CU<|Ag _ hS
    ·obtain⟨h',g',d',xk,bS⟩:=s';have eg:g'=s.gens:=m.gens;have ed:d'=s.drawn:=m.drawn;have eo:bS=s.os:=m.os;subst eg ed eo;refine BL ?_;refine BL ⟨rfl,h',xk,rfl,λb o e=>?_,S'⟩;have hb:=Au e;refine m.heap b o (λh=>?_)<|Ag _<|Ag _ e;rw [Cw] at h
     rcases Ai.mp h with h | h
     ·exact absurd h<|Bn hb
     ·rw [Ad] at h;exact absurd h<|Bn<|Bz hb
   ·cases r2 with
    | error e=>exact o8
    | ok XW=>
     cases XW with
     | ret r=>
      obtain⟨rfl,h',tk,rfl,q1,q2⟩:=o8
      repeat (any_goals (first | assumption | wp_step))
      exact k _ _ q1 q2
     | _=>exact o8.elim
  | _=>exact hr.elim
end
theorem slot_next:Slot "set_iterator" "__next__" "set_iterator.__next__":=
 .of (owner:= "set_iterator") (n:= "__next__") (by rw [SM,MJ];kernel_rfl) (by decide +kernel) (by decide +kernel) (by decide +kernel)
  (by first | exact .inl (by decide +kernel) | exact .inr<|by decide +kernel) (by rw [isSubtype_type];kernel_rfl)
theorem entry_next:entryFor table "set_iterator.__next__" = some Builtin.«set_iterator.__next__»:=entryFor_of_fast<|by kernel_rfl
theorem args_next(a:Value):argsOk "set_iterator.__next__" ⟨[a],[]⟩:=by unfold argsOk;kernel_rfl
theorem XX:entryFor table "set.__iter__" = some Builtin.«frozenset.__iter__»:=
 PL (id':= "frozenset.__iter__") (by kernel_rfl) rfl (by decide +kernel) (by kernel_rfl)
def kI(first:Value)(i:Nat)(a:Addr)(n ep:Nat):Obj:={cls:= .type "set_iterator",data:= .fields #[first,.int i 0,.ref a,.int n 0,.int ep 0]}
def fv(ys:List Nat):Obj:={cls:= .type "tuple",data:= .seq (ys.map λ(i:Nat)=>rawInt i).toArray}
inductive Way (w:World) (h:Heap) (a tp:Addr) (es:Array<|Int×Value) (ep:Nat) (t:SetTable) (ws:List<|Int×Value) (i:Nat):Value->Prop where
 | drawn (ys:List Nat) (ht:h.get? tp=some (fv ys)) (hl:ys.length=es.size) (hw:∀ j:Nat,∀ y,ys[j]?=some y->es[y]?=ws[j]?):Way w h a tp es ep t ws i<|.ref tp
 | text (c:Int) (hb:cJ w=true) (hw:ws=(pickOrder (w.params.setOrder a ep) es).toList):Way w h a tp es ep t ws i<|.int c 0
 | one (c:Nat) (hb:cJ w=false) (hs:es.size<=1) (hw:ws=es.toList) (hc:SetTable.below t.place c=i):Way w h a tp es ep t ws i<|.int c 0
section
variable{prog:Program}{w:World}{A:Around}{E:Value->Shared->Prop}{s:Shared}{a tp it:Addr}{zs:List Str}{o:Obj}{es:Array (Int×Value)}{ep:Nat}{t:SetTable}{ws:List (Int×Value)}{i:Nat}{first:Value}
theorem Ng(j c:Nat):SetTable.below #[j] c=if j < c then 1 else 0:=by
 unfold SetTable.below;show SetTable.below.go #[j] c 1 0 1=_;unfold SetTable.below.go;simp only [Nat.zero_lt_one,DK];show(if(#[j]:Array Nat).getD 0 c < c then SetTable.below.go #[j] c 0 1 1 else SetTable.below.go #[j] c 0 0 0)=_;rw [show(#[j]:Array Nat).getD 0 c=j by rfl]
 split <;> rfl
theorem Way.keep{h h':Heap}(W:Way w h a tp es ep t ws i first)(k:∀ o,h.get? tp=some o->h'.get? tp=some o):Way w h' a tp es ep t ws i first:=by
 cases W with
 | drawn ys ht hl hw=>exact .drawn ys (k _ ht) hl hw
 | text c hb hw=>exact .text c hb hw
 | one c hb hs hw hc=>exact .one c hb hs hw hc
theorem t7{h:Heap}{n:Nat}(x:Value)(e:h.get? it=some (kI first i a n ep)):(h.update it (Obj.mapFields (·.setIfInBounds 0 x))).get? it=some (kI x i a n ep):=Da _ e rfl
theorem up1{h:Heap}{n:Nat}(e:h.get? it=some (kI first i a n ep)):(h.update it (Obj.mapFields (·.setIfInBounds 1 (rawInt<|(i:Int)+1)))).get? it=some (kI first (i+1) a n ep):=Da _ e rfl
theorem Nh{p:Array Nat}(h:p.size=1):∃ j,p=#[j]:=by
 obtain⟨l⟩:=p
 match l,h with
 | [j],_=>exact⟨j,rfl⟩
theorem Ni(T:Tab prog w es t zs):t.place.size=es.size:=by
 have:=T.fits;unfold SetTable.fits at this;rw [Bv,JM] at this;exact this.1
theorem XY{Q:Option Value->Shared->Prop}(hi:s.heap.get? it=some (kI first i a es.size ep))(ho:s.heap.get? a=some o)(hd:o.data = .set es ep t)(T:Tab prog w es t zs)(hW:Way w s.heap a tp es ep t ws i first)
  (bB:tp≠it) (hp:ws.Perm es.toList) {e:Int×Value} (he:ws[i]?=some e) (k:∀ h' jL,Heap.SameBut it s.heap h'->h'.get? it=some (kI jL (i+1) a es.size ep)->Way w h' a tp es ep t ws (i+1) jL->Q (some e.2) {s with heap:=h'}) :
  wpAny (model prog w) A (pyNext<|.ref it) Q E s:=by
 have hT:s.TypeIs (.ref it) "set_iterator":=⟨_,hi,rfl⟩;unfold pyNext;refine BJ<|LK<|IW (name:=Str.ofString "__next__") hT slot_next<|DG slot_next hT entry_next ?_<|args_next _;unfold Builtin.«set_iterator.__next__»;refine BJ<|BL ?_;refine BJ<|PN hi rfl ?_
 dsimp only
 refine BJ<|JR ho hd T.fits ?_;rw [BK<|by simp];have Nj:∀ x,Heap.SameBut it s.heap ((s.heap.update it (Obj.mapFields (·.setIfInBounds 0 x))).update it (Obj.mapFields (·.setIfInBounds 1 (rawInt<|(i:Int)+1)))):=λx=>(CQ ..).trans<|CQ ..;have jM:i < es.size:=by
  have h1:ws.length=es.size:=by simpa using hp.length_eq
  rcases Di i ws.length with h | h
  ·omega
  ·rw [Bc h] at he;cases he
 have Nk:Heap.SameBut it s.heap (s.heap.update it (Obj.mapFields (·.setIfInBounds 1 (rawInt<|(i:Int)+1)))):=CQ ..;cases hW with
 | drawn ys ht hl hw=>
  dsimp only
  have hy:ys[i]?=some (ys[i]'(by omega)):=Ab _;generalize ys[i]'(by omega)=y at hy;refine BJ<|wpAny_seqItems ht rfl ?_
  dsimp only
  have e1:(ys.map λ(i:Nat)=>rawInt i).toArray[(i:Int).toNat]?=some (.int y 0):=by
   rw [Bo,UG,Aj,hy];rfl
  rw [e1]
  dsimp only
  unfold setNextDrawn;refine BJ<|BJ<|CN ho hd T.fits ?_
  dsimp only
  rw [BK<|by simp];have e2:es[(y:Int).toNat]?=some e:=by
   rw [Bo,hw i y hy];exact he
  rw [e2]
  dsimp only
  refine BL (BJ<|DQ hi rfl (by simp) ?_);refine BL ⟨_,rfl,BL<|k _ _ Nk (up1 hi)<|.drawn ys ?_ hl hw⟩;rw [Nk.2 tp bB];exact ht
 | text c hb hw=>
  dsimp only
  unfold setNext;refine BJ<|BJ<|CN ho hd T.fits ?_
  dsimp only
  refine BJ<|wp_text ?_;rw [hb];simp only [DK];rw [BK<|by simp];unfold setWalk;refine BJ<|BJ<|CN ho hd T.fits ?_
  dsimp only
  refine BJ<|wp_text ?_;rw [hb];simp only [DK];refine BJ<|JL ?_;refine BL ?_;have e1:(pickOrder ((model prog w).w.params.setOrder a ep) es)[(i:Int).toNat]?=some e:=by
   rw [Bo,<- Bq];show(pickOrder (w.params.setOrder a ep) es).toList[i]?=_;rw [<- hw];exact he
  rw [e1];refine BL ?_
  dsimp only [Option.map]
  refine BJ (DQ hi rfl (by simp) ?_);refine BJ (DQ (t7 _ hi) rfl (by simp) ?_);exact BL ⟨_,rfl,BL<|k _ _ (Nj _) (up1<|t7 _ hi)<|.text _ hb hw⟩
 | one c hb hs hw hc=>
  have XZ:i=0:=by omega
  have jr:es.size=1:=by omega
  subst XZ;have pc:t.place.size=1:=(Ni T).trans jr;obtain⟨j,hj⟩:=Nh pc
  dsimp only
  unfold setNext;refine BJ<|BJ<|CN ho hd T.fits ?_
  dsimp only
  refine BJ<|wp_text ?_;rw [hb];simp only [Bb,CV];show wpAny _ _ (if(!t.plain && decide (es.size > 1))=true then _ else _) _ _ _;rw [BK<|by rw [jr];simp];refine BJ ?_;show wpAny _ _ (if(!t.led && !es.isEmpty)=true then _ else _) _ _ _;rw [BK<|by rw [T.led,hb];simp];refine BL ?_;rw [Bo,hc];have e1:es[0]?=some e:=by
   rw [<- Bq,<- hw];exact he
  have e2:t.place[0]?=some j:=by rw [hj];rfl
  rw [e1,e2];refine BL ?_
  dsimp only
  refine BJ (DQ hi rfl (by simp) ?_);refine BJ (DQ (t7 _ hi) rfl (by simp) ?_);refine BL ⟨_,rfl,BL<|k _ _ (Nj _) (up1<|t7 _ hi)<|.one (j+1) hb hs hw ?_⟩;rw [hj,Ng,BP<|Gh _]
theorem X0{Q:Option Value->Shared->Prop}(hh:A.handled=none)(hi:s.heap.get? it=some (kI first i a es.size ep))(ho:s.heap.get? a=some o)(hd:o.data = .set es ep t)(T:Tab prog w es t zs)(hW:Way w s.heap a tp es ep t ws i first)
  (hp:ws.Perm es.toList) (he:i=es.size) (k:∀ h',Heap.ExtBut it s.heap h'->Q none {s with heap:=h'}) :
  wpAny (model prog w) A (pyNext<|.ref it) Q E s:=by
 have hT:s.TypeIs (.ref it) "set_iterator":=⟨_,hi,rfl⟩;have wl:ws.length=es.size:=by simpa using hp.length_eq
 unfold pyNext;refine BJ<|LK<|IW (name:=Str.ofString "__next__") hT slot_next<|DG slot_next hT entry_next ?_<|args_next _;unfold Builtin.«set_iterator.__next__»;refine BJ<|BL ?_;refine BJ<|PN hi rfl ?_
 dsimp only
 refine BJ<|JR ho hd T.fits ?_;rw [BK<|by simp];have fin:∀ h2:Heap,Heap.SameBut it s.heap h2->wpAny (model prog w) A.in1 (newExc (Value.type "StopIteration") [] >>= λx=>(raiseNew x:Sem Fin)) (λfin s'=>∃ v,fin=Fin.done (Flow.ret v)/\wpAny (model prog w) A (pure<|some v) Q E s')
   (λe s'=>wpAny (model prog w) A (isInstance e (Value.type "StopIteration") >>= λb=>if b=true then pure none else throw e) Q E s') {s with heap:=h2}:=by
  intro h2 sb;refine BJ ?_;simp only [newExc,newTuple];refine BJ (CW ?_<|by size_fits);refine BJ (m:=firstArgMember _ _) (HW (a:=Value.none) (by first | rfl | (simp only [firstArgMember];rfl)) ?_);refine CW ?_ (by size_fits);simp only [raiseNew];refine BJ<|wpAny_handled ?_;rw [show A.in1.handled=none from hh];refine BJ<|BL<|wpAny_throw ?_;refine BJ<|JN (T:= "StopIteration") (b:=true) ⟨_,At _ rfl,rfl⟩ isSubtype_stop ?_;exact BL<|k _<|(sb.extBut.push _).push _
 cases hW with
 | drawn ys ht hl hw=>
  dsimp only
  refine BJ<|wpAny_seqItems ht rfl ?_
  dsimp only
  have e1:(ys.map λ(i:Nat)=>rawInt i).toArray[(i:Int).toNat]?=none:=by
   rw [Bo,UG,Bc];rw [Aa];omega
  rw [e1]
  dsimp only
  refine BJ (DQ hi rfl (by simp) ?_);refine BJ (DQ (t7 _ hi) rfl (by simp) ?_);exact fin _<|(CQ ..).trans<|CQ ..
 | text c hb hw=>
  dsimp only
  unfold setNext;refine BJ<|BJ<|CN ho hd T.fits ?_
  dsimp only
  refine BJ<|wp_text ?_;rw [hb];simp only [DK];rw [BK<|by simp];unfold setWalk;refine BJ<|BJ<|CN ho hd T.fits ?_
  dsimp only
  refine BJ<|wp_text ?_;rw [hb];simp only [DK];refine BJ<|JL ?_;refine BL ?_;have e1:(pickOrder ((model prog w).w.params.setOrder a ep) es)[(i:Int).toNat]?=none:=by
   rw [Bo,<- Bq];show(pickOrder (w.params.setOrder a ep) es).toList[i]?=_;rw [<- hw,Bc];omega
  rw [e1];refine BL ?_
  dsimp only [Option.map]
  refine BJ (DQ hi rfl (by simp) ?_);exact fin _<|CQ ..
 | one c hb hs hw hc=>
  dsimp only
  unfold setNext;refine BJ<|BJ<|CN ho hd T.fits ?_
  dsimp only
  refine BJ<|wp_text ?_;rw [hb];simp only [Bb,CV];show wpAny _ _ (if(!t.plain && decide (es.size > 1))=true then _ else _) _ _ _;rw [BK<|by rw [BR<|by omega];simp];refine BJ ?_;show wpAny _ _ (if(!t.led && !es.isEmpty)=true then _ else _) _ _ _;rw [BK<|by rw [T.led,hb];simp];refine BL ?_;rw [Bo,hc];have e1:es[i]?=none:=Ec (by omega);rw [e1];refine BL ?_
  dsimp only
  refine BJ (DQ hi rfl (by simp) ?_);exact fin _<|CQ ..
open PySem.Spec
theorem Nm:Slot "set_iterator" "__iter__" "set_iterator.__iter__":=
 .of (owner:= "set_iterator") (n:= "__iter__") (by rw [SM,MJ];kernel_rfl) (by decide +kernel) (by decide +kernel) (by decide +kernel)
  (by first | exact .inl (by decide +kernel) | exact .inr<|by decide +kernel) (by rw [isSubtype_type];kernel_rfl)
theorem X1:entryFor table "set_iterator.__iter__" = some Builtin.«dict_keyiterator.__iter__»:=
 PL (id':= "dict_keyiterator.__iter__") (by kernel_rfl) rfl (by decide +kernel) (by kernel_rfl)
theorem X2(a:Value):argsOk "set_iterator.__iter__" ⟨[a],[]⟩:=by unfold argsOk;kernel_rfl
theorem X3(hh:A.handled=none)(h1:a≠it)(h2:tp≠it)(hd:o.data = .set es ep t)(T:Tab prog w es t zs)(hp:ws.Perm es.toList) :
  Walks prog w A it [it,a,tp] [it] es.size (λi v=>∃ e,ws[i]?=some e/\v=e.2) (λi h=>∃ first,h.get? it=some (kI first i a es.size ep)/\h.get? a=some o/\Way w h a tp es ep t ws i first) where
 sub:=λb hb=>by simp at hb;simp [hb]
 frame:=λi h h' ⟨first,q1,q2,q3⟩ k=>⟨first,k it (by simp) _ q1,k a (by simp) _ q2,q3.keep<|k tp<|by simp⟩
 item:=λi s Q E hi ⟨first,q1,q2,q3⟩ k=>by
  have wl:ws.length=es.size:=by simpa using hp.length_eq
  obtain⟨e,he⟩:∃ e,ws[i]?=some e:=⟨ws[i]'(by omega),Ab _⟩;refine XY q1 q2 hd T q3 h2 hp he λh' f' sb g1 g2=>?_;exact k _ h' s.toks ⟨e,he,rfl⟩ ⟨f',g1,by rw [sb.2 a h1];exact q2,g2⟩ λb o hb e=>by rw [sb.2 b λh=>hb<|by simp [h]];exact e
 done:=λs Q E ⟨first,q1,q2,q3⟩ k=>X0 hh q1 q2 hd T q3 hp rfl λh' e=>k h' s.toks λb o hb e2=>e b o (λh=>hb<|by simp [h]) e2
 self:=λi s Q E ⟨first,q1,q2,q3⟩ k=>by
  have hT:s.TypeIs (.ref it) "set_iterator":=⟨_,q1,rfl⟩;refine KJ hT Nm<|DG Nm hT X1 ?_<|X2 _;show wpAny _ _ (ret<|.ref it) _ _ s;exact BL ⟨_,rfl,"set_iterator",_,hT,slot_next.lookup,k⟩
theorem X4(es:Array<|Int×Value):(List.range es.size).map (λy=>(es[y]?).getD (0,Value.none))=es.toList:=by
 refine RK (by simp) λj h1 h2=>?_;rw [Dq,Fa];have:j < es.size:=by simpa using h2
 rw [Dj this];simp
theorem X5{Q:Value->Shared->Prop}(ho:s.heap.get? a=some o)(hx:o.ExactSet)(hd:o.data = .set es ep t)(T:Tab prog w es t zs)
  (k:∀ h' d it tp ws first,(∀ b u,s.heap.get? b=some u->h'.get? b=some u)->s.heap.objs.size<=it->it < h'.objs.size->tp < h'.objs.size->(tp=a\/s.heap.objs.size<=tp)->tp≠it->h'.get? it=some (kI first 0 a es.size ep)->Way w h' a tp es ep t ws 0 first->ws.Perm es.toList->Q (.ref it) {s with heap:=h',drawn:=d}) :
  wpAny (model prog w) A (pyIter<|.ref a) Q E s:=by
 have hT:s.TypeIs (.ref a) "set":=⟨o,ho,hx.1⟩;have aY:a < s.heap.objs.size:=Au ho;refine KJ hT F.slot_set_iter<|DG F.slot_set_iter hT XX ?_<|F.args_set_iter_1 _;unfold Builtin.«frozenset.__iter__» slot0 slotArgs;simp only [Gi,Dv,Bb,↓reduceIte,bind_assoc,Eh,FW];unfold addrOf Builtin.Frozenset.sizeOf;refine BJ<|BL ?_;refine BJ<|BL ?_;refine BJ<|BJ<|JR ho hd T.fits<|BL ?_;unfold setDrawn;refine BJ<|BJ<|CN ho hd T.fits ?_
 dsimp only
 refine BJ<|wp_text ?_;refine BL ?_
 by_cases c:(!cJ w && (!t.plain && decide (es.size > 1)))=true
 ·show wpAny _ _ (if(!cJ w && (!t.plain && decide (es.size > 1)))=true then _ else _) _ _ _;rw [BP c];refine BJ (CB _ _ _ _ (by simp) λys d p=>?_);have t8:ys.length=es.size:=by simpa using p.length_eq
  refine BJ (PX ?_<|by rw [Aa,t8];exact jK<|Bz T.fq);have o1:(s.heap.push<|fv ys).get? a=some o:=Ag _ ho;refine BJ<|KH (s:={s with heap:=s.heap.push<|fv ys,drawn:=d}) o1 hd T.fits ?_;refine BJ<|CW<|BL ⟨_,rfl,"set_iterator",_,⟨_,At _ rfl,rfl⟩,slot_next.lookup,?_⟩;have jr:(s.heap.push<|fv ys).objs.size=s.heap.objs.size+1:=Cw ..;refine k _ d _ s.heap.objs.size (ys.map λy=>(es[y]?).getD (0,Value.none)) (.ref s.heap.objs.size) (λb u e=>Ag _<|Ag _ e) (by show s.heap.objs.size<=(s.heap.push<|fv ys).objs.size;omega) ?_ ?_ (.inr<|Al _) ?_ (At _ rfl) ?_ ?_
  ·show(s.heap.push<|fv ys).objs.size < ((s.heap.push<|fv ys).push _).objs.size;simp only [Cw];omega
  ·show s.heap.objs.size < ((s.heap.push<|fv ys).push _).objs.size;rw [Cw,jr];omega
  ·show s.heap.objs.size≠(s.heap.push<|fv ys).objs.size;omega
  ·refine .drawn ys (Ag _<|At _ rfl) t8 λj y hy=>?_;have hm:y < es.size:=by
    have:=p.mem_iff.mp<|Ap hy
    simpa using this
   rw [Aj,hy];show _=some ((es[y]?).getD (0,Value.none));rw [Dj hm];rfl
  ·have:=p.map λy=>(es[y]?).getD (0,Value.none);rwa [X4] at this
 ·show wpAny _ _ (if(!cJ w && (!t.plain && decide (es.size > 1)))=true then _ else _) _ _ _;rw [BK c];refine BJ<|BL ?_;refine BJ<|KH ho hd T.fits ?_;refine BJ<|CW<|BL ⟨_,rfl,"set_iterator",_,⟨_,At _ rfl,rfl⟩,slot_next.lookup,?_⟩;have kk:=λws hW hp=>k (s.heap.push<|kI (.int 0 0) 0 a es.size ep) s.drawn s.heap.objs.size a ws (.int 0 0) (λb u e=>Ag _ e) (Al _) (by rw [Cw];exact Gh _) (by rw [Cw];exact Bz aY) (.inl rfl) (Bn aY) (At _ rfl) hW hp;cases hb:cJ w with
  | true=>exact kk _ (.text 0 hb rfl)<|M5 _ _
  | false=>
   have h1:es.size<=1:=by
    rcases T.plain with q | q
    ·rw [q];simp
    ·rw [hb,q] at c;simp at c;exact c
   refine kk es.toList (.one 0 hb h1 rfl ?_)<|List.Perm.refl _;have pc:=Ni T
   rcases Di es.size 1 with h | h
   ·have:t.place=#[]:=Array.eq_empty_of_size_eq_zero (by omega);rw [this];rfl
   ·obtain⟨j,hj⟩:=Nh (p:=t.place) (by omega);rw [hj,Ng,BK<|Ej _]
theorem X6:typeLookup (.type "set") "__len__" = pure (some<|.builtin "set.__len__"):=F.slot_set_len.lookup
theorem X7{Q:Bool->Shared->Prop}(hT:s.TypeIs (.ref a) "set")(k:Q false s):wpAny (model prog w) A (Builtin.List.listLengthHint<|.ref a) Q E s:=by
 unfold Builtin.List.listLengthHint;refine BJ<|RZ hT X6 ?_
 dsimp only
 have e1:splitId "set.__len__" = some ("set","__len__"):=by kernel_rfl
 rw [e1]
 dsimp only
 refine BJ<|JN hT sub_set_self ?_;simp only [Dv,Bb,CV];rw [BP]
 ·exact BJ<|KC hT<|BL k
 ·decide +kernel
theorem X8{Q:List Value->Shared->Prop}(hh:A.handled=none)(ho:s.heap.get? a=some o)(hx:o.ExactSet)(hd:o.data = .set es ep t)(T:Tab prog w es t zs)
  (k:∀ s' (acc:List<|Int×Value),(∀ b u,s.heap.get? b=some u->s'.heap.get? b=some u)->s'.gens=s.gens->s'.os=s.os->s.heap.objs.size < s'.heap.objs.size->acc.Perm es.toList->Q (acc.map (·.2)) s'):wpAny (model prog w) A (collect<|.ref a) Q E s:=by
 have aY:a < s.heap.objs.size:=Au ho;unfold collect;refine BJ<|wpAny_runValue<|FJ F.entry_proto_collect ?_;rw [EY F.plain_proto_collect _];show wpAny _ A.in1 (newList [] >>= λl=>again<|.builtin "list.__iadd__" ⟨[l,.ref a],[]⟩) _ _ s;refine BJ<|JQ ?_;refine BL ⟨JB F.plain_list_iadd _,FJ F.entry_list_iadd ?_⟩;rw [EY F.plain_list_iadd _];generalize hL:s.heap.objs.size=L;have lT:(s.heap.push {cls:= .type "list",data:= .seq ([]:List Value).toArray}).get? a=some o:=Ag _ ho;have X9:(s.heap.push {cls:= .type "list",data:= .seq ([]:List Value).toArray}).get? L=some {cls:= .type "list",data:= .seq ([]:List Value).toArray}:=by rw [<- hL];exact At _ rfl
 have hT:Shared.TypeIs {s with heap:=s.heap.push {cls:= .type "list",data:= .seq ([]:List Value).toArray}} (.ref a) "set":=⟨o,lT,hx.1⟩;show wpAny _ A.in1 (Builtin.List.listExtendWith (.ref L) (.ref a)<|.ref L) _ _ _;unfold Builtin.List.listExtendWith;refine BJ<|KC hT ?_;have n1:Builtin.List.listSameRef (.ref L) (.ref a)=false:=by
  have:L≠a:=by rw [<- hL];exact Cs aY
  simp [Builtin.List.listSameRef,this]
 have n2:(Value.type "set" == Value.type "list")=false:=by decide
 have n3:(Value.type "set" == Value.type "tuple")=false:=by decide
 simp only [n1,n2,n3,Bool.or_false,Bb,CV];refine BJ<|X5 lT hx hd T λh2 d it tp ws first pf ro hi2 kJ rp bB gi W p=>?_;have Nn:=pf a o lT;have C2:=pf L _ X9;have lU:(s.heap.push {cls:= .type "list",data:= .seq ([]:List Value).toArray}).objs.size=L+1:=by rw [Cw,hL]
 refine BJ<|CG<|X7 (a:=a) (s:={s with heap:=h2,drawn:=d}) ⟨o,Nn,hx.1⟩ ?_;show wpAny _ A.in1 (rule "list.extend.makes-room" >>= λ_=>Builtin.List.listTouch (.ref L) >>= λ_=>again<|.builtin "list.extend.loop" ⟨[.ref L,.ref it,.ref L],[]⟩) _ _ _;refine BJ<|HS ?_;refine BJ ?_;show wpAny _ A.in1 (updateSeq L (·.push .none) >>= λ_=>updateSeq L (·.pop)) _ _ _;refine BJ<|wpAny_updateSeq C2 rfl ?_;have Np:=Da (Obj.mapSeq (·.push Value.none)) C2 rfl;refine wpAny_updateSeq Np rfl ?_;have Ya:=Da (Obj.mapSeq (·.pop)) Np rfl;have g6:∀ b u,b≠L->h2.get? b=some u->((h2.update L (Obj.mapSeq (·.push Value.none))).update L (Obj.mapSeq (·.pop))).get? b=some u:=
  λb u hb e=>(Cd _ _<|CK hb).trans<|(Cd _ _<|CK hb).trans e
 have t9:it≠L:=by
  have g7:L+1<=it:=by rw [<- lU];exact ro
  exact Cs g7
 have C3:a≠L:=by rw [<- hL];exact Bn aY
 have Yb:a≠it:=by
  have g7:L+1<=it:=by rw [<- lU];exact ro
  intro e;rw [<- hL,<- e] at g7;exact absurd g7<|Nat.not_le.mpr<|Bz aY
 have Nq:tp≠L:=by
  rcases rp with h | h
  ·rw [h];exact C3
  ·have h':L+1<=tp:=by rw [<- lU];exact h
   exact Cs h'
 have m5:L∉[it,a,tp]:=by
  intro h
  rcases Ai.mp h with h | h
  ·exact t9 h.symm
  ·rcases Ai.mp h with h | h
   ·exact C3 h.symm
   ·exact Nq (Ad.mp h).symm
 refine BL ⟨JB F.plain_extend_loop _,codeAny_extend_loopS ((X3 (by simp [hh]) Yb bB hd T p).toS) (jK<|Bz T.fq) L m5 (.ref L) es.size 0 _ _ _ rfl (Bt _) ⟨first,g6 it _ t9 gi,g6 a _ C3 Nn,W.keep λu e=>g6 tp u Nq e⟩ Ya (ItemsOf.nil _) λs' acc c m Nr hI=>?_⟩;show wpAny _ A (load L >>= _) _ _ s';refine BJ<|wpAny_load Nr ?_;have wl:ws.length=es.size:=by simpa using p.length_eq
 have el:acc.toList=ws.map (·.2):=by
  refine Dl λj=>?_;rw [Bq,Aj];cases hj:acc[j]? with
  | none=>
   have:ws[j]?=none:=by
    rw [Bc];rw [wl,<- hI.1];exact Array.getElem?_eq_none_iff.mp hj
   rw [this];rfl
  | some v=>
   obtain⟨e,h1,h2⟩:=hI.2 j v hj;rw [h1,h2];rfl
 refine BL ?_;rw [el];refine k s' ws (λb u e=>?_) m.gens m.os (by rw [hL];exact Au Nr) p;have hb:b < s.heap.objs.size:=Au e;have Nu:b≠L:=by rw [<- hL];exact Bn hb
 have C0:b≠it:=by
  intro q;have g7:L+1<=it:=by rw [<- lU];exact ro
  rw [<- hL,<- q] at g7;exact absurd g7<|Nat.not_le.mpr<|Bz hb
 refine m.heap b u (λh=>?_)<|g6 b u Nu<|pf b u<|Ag _ e
 rcases Ai.mp h with h | h
 ·exact Nu h
 ·exact C0<|Ad.mp h
end
end bA
namespace bA
open PySem PySem.Spec PyProof.Rows
theorem Yc(a b:List Nat):ltCps a b=decide (a < b):=ltCps_eq a b
theorem dH:∀(l:List Str) (p:Str),risingS p l=true->∀ x∈l,p.cps.toList<=x.cps.toList
 | [],_,_,x,hx=>by cases hx
 | y :: r,p,h,x,hx=>by
  unfold risingS at h;rw [Bv,KN,Yc,HJ] at h;have h1:p.cps.toList<=y.cps.toList:=h.1
  rcases Ai.mp hx with rfl | hx
  ·exact h1
  ·exact List.le_trans h1<|dH r y h.2 x hx
theorem eJ{p:Str}:∀{l:List Str},risingS p l=true->sortedS l=true
 | [],_=>rfl
 | y :: r,h=>by
  unfold risingS at h;rw [Bv] at h;exact h.2
theorem fw{a b:Str}(h:a.cps.toList=b.cps.toList):a=b:=by
 cases a;cases b;simp only at h;have:=Array.toList_inj.mp h;rw [this]
theorem Nv{prog:Program}{w:World}:∀(l:List<|Int×Value),(∀ e∈l,m7 prog w e)->StrsAre (l.map (·.2)) (l.map keyOf)
 | [],_=> .nil
 | e :: r,h=>by
  obtain⟨z,t,rfl⟩:=h e Ae;exact .cons z t<|Nv r λx hx=>h x<|Ah _ hx
section
variable{prog:Program}{w:World}{A:Around}{E:Value->Shared->Prop}{s:Shared}{a:Addr}{zs:List Str}
theorem Yd{Q:Value->Shared->Prop}(hh:A.handled=none)(S:ax prog w s.heap a zs)(ph:zs.length < 64)
  (k:∀(s':Shared) (l:Addr) (out:Array Value) (e:Nat) (ss:List Str),(∀ b u,s.heap.get? b=some u->s'.heap.get? b=some u)->s'.gens=s.gens->s'.os=s.os->s.heap.objs.size<=l->s'.heap.get? l=some (seqObj "list" out e)->StrsAre out.toList ss->ss.Perm zs->sortedS ss=true->Q (.ref l) s') :
  wpAny (model prog w) A (call (.builtin "sorted") [.ref a]) Q E s:=by
 obtain⟨o,es,ep,t,ho,hx,hd,T⟩:=S;refine Calls.call_function_entry kind_sorted plain_sorted entry_sorted (args_sorted1 _) ?_;unfold Builtin.«sorted»;refine BJ (m:=checkCount "sorted" 1 1 _)<|BL ?_;refine BJ (X8 (by simp [hh]) ho hx hd T λs1 acc kp g1 o1 z1 p=>?_);have hS:=Nv (prog:=prog) (w:=w) acc λe he=>T.elts e<|p.mem_iff.mp he;have hlen:(acc.map (·.2)).length=zs.length:=by
  rw [Aa,p.length_eq,Br,T.size]
 refine BJ (JQ ?_<|by rw [hlen];exact jK<|by omega);have jB:(s1.heap.push (seqObj "list" (acc.map (·.2)).toArray 0)).get? s1.heap.objs.size=some (seqObj "list" (acc.map (·.2)).toArray 0):=At _ rfl;have hsz:s.heap.objs.size<=s1.heap.objs.size:=Cm z1;refine BJ (CG<|DG slot_list_sort ⟨_,jB,rfl⟩ entry_list_sort (list_sort_treeK strKind_oneLt jB hS.keysOf (λv₁ v₂ rest e=>keyKind_strs<|by rw [<- e];exact hS) (by rw [hlen];exact ph) λdA a1 a2=>⟨_,rfl,?_⟩)<|args_list_sort _);obtain⟨ss,q1,q2,q3⟩:=sorted_out_str hS a1 a2;obtain⟨e,he⟩:=sortedHeap_at (out:=(arrOf dA).map (·.2)) jB;refine BL ⟨_,rfl,k _ _ _ e ss (λb u hb=>?_) g1 o1 hsz he q1 (q2.trans<|(p.map keyOf).trans T.keys) q3⟩;have rq:=kp b u hb;have aY:=Au rq;show(sortedHeap (s1.heap.push _) s1.heap.objs.size _ _).get? b=some u;rw [sortedHeap_old (Bn aY)<|by rw [size_push'];exact Bz aY];exact Ag _ rq
end
end bA
namespace L2
open PySem PySem.Spec PyProof.Rows bA
def bd(prog:Program)(w:World)(a:Addr)(zs:List Str):HO:= .ext λh=>ax prog w h a zs
section
variable{X:Cx}{pins:List (Addr×Obj)}{σ:St}{H:Hp}{s s':Shared}{a:Addr}{zs:List Str}
theorem Inv.like(I:Inv X pins σ H s)(e1:s'.heap=s.heap)(e2:s'.gens=s.gens)(e3:s'.os=s.os):Inv X pins σ H s':=by
 obtain⟨h,g,d,t,o⟩:=s;obtain⟨h',g',d',t',o'⟩:=s';simp only at e1 e2 e3;subst e1 e2 e3;exact⟨I.ok,I.os,I.bare,I.base,I.loc,I.cell,I.free,I.cf,I.pin,I.aH,I.len⟩
theorem Inv.eZ{o:HO}(I:Inv X pins σ H s)(k:∀ b u,s.heap.get? b=some u->s'.heap.get? b=some u)(e2:s'.gens=s.gens)(e3:s'.os=s.os)(hp:s.heap.objs.size<=a)(new:aC X.prog X.w (upd H a o) s'.heap a o):Inv X pins σ (upd H a o) s':=
 (I.laid (t':=s.toks) k hp new).like (s':=s') rfl e2 e3
theorem rz{h:Heap}(S:ax X.prog X.w h a zs):aC X.prog X.w H h a (bd X.prog X.w a zs):=by
 refine⟨S,?_,λh1 h2 q k=>q.keep k⟩;obtain⟨o,_,_,_,ho,_⟩:=S;exact⟨o,ho⟩
theorem Inv.set(I:Inv X pins σ H s)(h:H a=some (bd X.prog X.w a zs)):ax X.prog X.w s.heap a zs:=(I.aH a _ h).1
theorem Nw:∀{zs:List Str} {us:List Value},aw (zs.map V.str) us->∀(i:Nat) v,us[i]?=some v->∃ z t,zs[i]?=some z/\v=Value.str z t
 | [],_,.nil,i,v,h=>by simp at h
 | z :: r,_,.cons q qs,0,v,h=>by
  obtain⟨t,e⟩:=q;simp at h;exact⟨z,t,rfl,h ▸ e⟩
 | z :: r,_,.cons q qs,i+1,v,h=>by
  simp only [Ga] at h ⊢;exact Nw qs i v h
theorem C4:∀{zs:List Str} {us:List Value},aw (zs.map V.str) us->StrsAre us zs
 | [],_,.nil=> .nil
 | z :: r,_,.cons q qs=>by
  obtain⟨t,rfl⟩:=q;exact .cons z t<|C4 qs
theorem C5:∀{us:List Value} {zs:List Str},StrsAre us zs->aw (zs.map V.str) us
 | _,_,.nil=> .nil
 | _,_,.cons z t q=> .cons ⟨t,rfl⟩<|C5 q
theorem Nx(hc:X.calm=true):fT X (.type "set") (λxs H Q=>∃ p zs,xs=[.ref p]/\aq X.K H p (zs.map V.str)/\zs.length < 900/\∀ a,H a=none->Q (.ref a) (upd H a<|bd X.prog X.w a<|made zs)):=by
 intro pins s σ H xs us Q I r h;obtain⟨p,zs,rfl,hp,hl,q⟩:=h;obtain⟨u,rfl,ru⟩:=vals1 r;cases (show u=Value.ref p from ru);obtain⟨its,rv,pl,hz⟩:=I.list hp;have e1:=rv.length;rw [Aa] at e1;refine XR (I.ok.hd hc) pl.isList (λi v hv=>Nw rv i v<|by simpa using hv) (by simpa using e1) (by simp;omega) λh' tk kp S=>?_;exact⟨.ref _,_,I.eZ (s':={s with heap:=h',toks:=tk}) kp rfl rfl (Al _) (rz S),rfl,q _<|I.aH.fresh<|Al _⟩
theorem Ye:cG X (binaryOp .BitXor) (λx y H Q=>∃ a b za zb,x = .ref a/\y = .ref b/\H a=some (bd X.prog X.w a za)/\H b=some (bd X.prog X.w b zb)/\za.length < 64/\zb.length < 64 /\
  ∀ c zc,H c=none->zc.Nodup->(∀ y,y∈zc↔(if y∈za then y∉zb else y∈zb))->Q (.ref c) (upd H c<|bd X.prog X.w c zc)):=by
 intro pins s σ H x y v u Q I rx ry h;obtain⟨a,b,za,zb,rfl,rfl,ha,hb,la,lb,q⟩:=h;cases rx;cases ry;refine XI (I.set ha) (I.set hb) la lb λh' d zc kp S m=>?_;exact⟨.ref _,_,I.eZ (s':={s with heap:=h',drawn:=d}) kp rfl rfl (Al _) (rz S),rfl,q _ zc (I.aH.fresh<|Al _) S.nodup m⟩
theorem Ny(hc:X.calm=true):fT X (.builtin "sorted") (λxs H Q=>∃ p zs,xs=[.ref p]/\H p=some (bd X.prog X.w p zs)/\zs.length < 64/\∀ l ss,H l=none->ss.Perm zs->sortedS ss=true->Q (.ref l) (upd H l<|.lst<|ss.map V.str)):=by
 intro pins s σ H xs us Q I r h;obtain⟨p,zs,rfl,hp,hl,q⟩:=h;obtain⟨u,rfl,ru⟩:=vals1 r;cases (show u=Value.ref p from ru);refine Yd (I.ok.hd hc) (I.set hp) hl λs' l out e ss kp e2 e3 ro he hS gK m9=>?_;have hlen:ss.length<=sizeLine:=by rw [gK.length_eq];exact jK<|by omega
 refine⟨.ref _,_,I.eZ (s':=s') kp e2 e3 ro (show aC X.prog X.w _ s'.heap l (.lst<|ss.map V.str) from⟨by rw [Aa];exact hlen,out.toList,e,C5 hS,he⟩),rfl,q _ ss (I.aH.fresh ro) gK m9⟩
theorem C6:fT X (.builtin "sorted") (λxs H Q=>∃ p zs,xs=[.ref p]/\aq X.K H p (zs.map V.str)/\zs.length < 64/\∀ l ss,H l=none->ss.Perm zs->sortedS ss=true->Q (.ref l) (upd H l<|.lst<|ss.map V.str)):=by
 intro pins s σ H xs us Q I r h;obtain⟨p,zs,rfl,hp,hl,q⟩:=h;obtain⟨u,rfl,ru⟩:=vals1 r;cases (show u=Value.ref p from ru);obtain⟨its,rv,pl,hz⟩:=I.list hp;have e1:=rv.length;rw [Aa] at e1;refine PyProof.Rows.sorted_strs pl.isList (C4 rv) (by omega) λout ss hS gK m9=>?_;obtain⟨e,he⟩:=sortedAll_at s.heap its out;have hlen:ss.length<=sizeLine:=by rw [gK.length_eq];exact jK<|by omega
 refine⟨.ref _,_,I.eZ (s':={s with heap:=sortedAll s.heap its out}) (λb u hb=>sortedAll_old hb) rfl rfl (Ek _) (show aC X.prog X.w _ _ _ (.lst<|ss.map V.str) from⟨by rw [Aa];exact hlen,out.toList,e,C5 hS,he⟩),rfl,q _ ss (I.aH.fresh<|Ek _) gK m9⟩
end
end L2
namespace L2
open PySem PySem.Spec PyProof.Rows
section
variable{X:Cx}{o e:Expr}{σ:St}{H:Hp}{Q:VK}{ap cp:Pos}
theorem lV (h:Ev X o σ H λx H1=>∃ l,x = .ref l/\(∃ xs,H1 l=some (.lst xs))/\Ev X e σ H1 λy H2=>∃ xs,H2 l=some (.lst xs)/\xs.length < sizeLine/\Q .non (upd H2 l<|.lst<|xs++[y]))
  (ci:attributeBase o "append" X.env (eval o X.env)=eval o X.env:=by rfl)
  (cI:((backTo cp<|starEach [e] X.env).all (λx=>!x.1) && (backToKw cp<|keywordEach [] X.env).all (λx=>x.1.isSome) && decide ([e].length+([]:List Keyword).length+(if([]:List Keyword).isEmpty then 0 else 1) < 30))=true:=by rfl)
  (hline:(ap.endLine == cp.line)=true:=by rfl) (hs:starEach [e] X.env=(false,eval e X.env) :: starEach [] X.env:=by rfl) (bV:(backTo cp<|starEach [] X.env).any (·.1)=false:=by rfl) (db:isStar e=false:=by rfl) :
  Ev X (.Call (.Attribute o "append" ap) [e] [] cp) σ H Q:=by
 refine dZ (AG FT PySem.F.slot_list_append PySem.F.type_list_append Mf bH (iw (es:=[e])) ci cI hline hs bV)<|h.mono λx H1 ⟨l,ex,⟨xs,hl⟩,h2⟩=>?_;subst ex;refine⟨.inl ⟨rfl,xs,aq.of hl⟩,?_⟩;exact ai (h2.mono λy H2 ⟨ys,hy,hz,q⟩=>az ⟨l,ys,y,rfl,rfl,hy,hz,q⟩) db
end
section
variable{X:Cx}{c:Expr}{body kD rest:List Stmt}{D:Ends}{σ:St}{H:Hp}{pos:Pos}
theorem Run.nx{M M':St->Hp->Prop}{l:List Stmt}(h:Run X l {D with nx:=M} σ H)(f:∀ σ' H',M σ' H'->M' σ' H'):Run X l {D with nx:=M'} σ H:=
 ⟨λpins s I => aP (h.run pins s I) λfl s' q => by
  cases fl with
  | next=>
   obtain⟨σ',H',I',m⟩:=q;exact⟨σ',H',I',f σ' H' m⟩
  | _=>exact q⟩
theorem Nz(φ ψ:Prop)(M:St->Hp->Prop)(hc:∀ T:Bool->Hp->Prop,(∀ k:Bool,(k=true->φ)->(k=false->ψ)->T k H)->Et X c σ H T)(ht:φ->Run X body {D with nx:=M} σ H)(hu:ψ->Run X kD {D with nx:=M} σ H)
  (hr:∀ σ' H',M σ' H'->Run X rest D σ' H'):Run X (.If c body kD pos :: rest) D σ H:=
 MG φ ψ hc (λp=>(ht p).nx hr) (λp=>(hu p).nx hr)
end
def i6(X:Cx)(H:Hp)(k:Nat)(x y:V)(b:Bool):Prop:=∀(pins:List<|Addr×Obj) (σ:St) (s:Shared) (A:Around) (u v:Value),Inv X pins σ H s->A.units+k < cLine->RelV x u->RelV y v->SeqAt.EqAt A s u v b
def pj(X:Cx)(H:Hp)(k:Nat)(x y:V)(b:Bool):Prop:=∀(pins:List<|Addr×Obj) (σ:St) (s:Shared) (A:Around) (u v:Value),Inv X pins σ H s->A.units+k < cLine->RelV x u->RelV y v->SeqAt.RcAt A s u v b
def rA(X:Cx)(H:Hp)(k:Nat)(x y:V)(b:Bool):Prop:=∀(pins:List<|Addr×Obj) (σ:St) (s:Shared) (A:Around) (u v:Value),Inv X pins σ H s->A.units+k < cLine->RelV x u->RelV y v->SeqAt.RcNeAt A s u v (!b)
section
variable{X:Cx}{H:Hp}{k:Nat}{a b:Addr}{xs ys:List V}
theorem xl{x y:V}(fx:jD x=true)(fy:jD y=true):i6 X H k x y (cH x y):=λ_ _ _ _ _ _ _ _ rx ry=>L9 rx ry fx fy
theorem Yf:i6 X H k (.ref a) (.ref a) true:=λ_ _ _ _ u v _ _ rx ry=>by
 cases rx;cases ry;exact SeqAt.EqAt.same _
theorem Yg(bB:a≠b){c:Bool}(h:pj X H k (.ref a) (.ref b) c):i6 X H k (.ref a) (.ref b) c:=λpins σ s A u v I hu rx ry=>by
 cases rx;cases ry;exact SeqAt.EqAt.of_refs bB<|h pins σ s A _ _ I hu rfl rfl
theorem ng{us:List Value}(r:aw xs us){j:Nat}(h:j < us.length):∃ x,xs[j]?=some x/\RelV x us[j]:=by
 have hl:=r.length;have hj:j < xs.length:=by omega
 obtain⟨u,e,q⟩:=r.get<|Ab hj;rw [Ab h] at e;cases e;exact⟨_,Ab hj,q⟩
theorem q96(e:Nat->Bool)(ha:aq X.K H a xs)(hb:aq X.K H b ys)(hl:xs.length=ys.length)(he:∀ j x y,xs[j]?=some x->ys[j]?=some y->i6 X H k x y (e j)):pj X H (k+1) (.ref a) (.ref b) ((List.range xs.length).all e):=λpins σ s A u v I hu rx ry=>by
 cases rx;cases ry;obtain⟨i1,r1,p1,_⟩:=I.list ha;obtain⟨i2,r2,p2,_⟩:=I.list hb;have l1:=r1.length;have l2:=r2.length;have q:=SeqAt.RcAt.lists (A:=A) (e:=e) p1.isList p2.isList (by simp;omega) (by omega) λj h1 h2=>by
  obtain⟨x,ex,qx⟩:=ng r1 (j:=j) (by simpa using h1);obtain⟨y,ey,qy⟩:=ng r2 (j:=j) (by simpa using h2);exact he j x y ex ey pins σ s A.in1 _ _ I (by show A.units+1+k < cLine;omega) (by simpa using qx)<|by simpa using qy
 rw [Aw,<- l1] at q;exact q
theorem NA(e:Nat->Bool)(ha:aq X.K H a xs)(hb:aq X.K H b ys)(hl:xs.length=ys.length)(he:∀ j x y,xs[j]?=some x->ys[j]?=some y->i6 X H k x y (e j)):rA X H (k+1) (.ref a) (.ref b) ((List.range xs.length).all e):=λpins σ s A u v I hu rx ry=>by
 cases rx;cases ry;obtain⟨i1,r1,p1,_⟩:=I.list ha;obtain⟨i2,r2,p2,_⟩:=I.list hb;have l1:=r1.length;have l2:=r2.length;have q:=SeqAt.RcNeAt.lists (A:=A) (e:=e) p1.isList p2.isList (by simp;omega) (by omega) λj h1 h2=>by
  obtain⟨x,ex,qx⟩:=ng r1 (j:=j) (by simpa using h1);obtain⟨y,ey,qy⟩:=ng r2 (j:=j) (by simpa using h2);exact he j x y ex ey pins σ s A.in1 _ _ I (by show A.units+1+k < cLine;omega) (by simpa using qx)<|by simpa using qy
 rw [Aw,<- l1] at q;exact q
theorem q95(ha:aq X.K H a xs)(hb:aq X.K H b ys)(hl:xs.length≠ys.length):pj X H k (.ref a) (.ref b) false:=λpins σ s A u v I hu rx ry=>by
 cases rx;cases ry;obtain⟨i1,r1,p1,_⟩:=I.list ha;obtain⟨i2,r2,p2,_⟩:=I.list hb;have l1:=r1.length;have l2:=r2.length;exact SeqAt.RcAt.lists_lengths p1.isList p2.isList (by simp;omega)<|by omega
theorem ND(ha:aq X.K H a xs)(hb:aq X.K H b ys)(hl:xs.length≠ys.length):rA X H k (.ref a) (.ref b) false:=λpins σ s A u v I hu rx ry=>by
 cases rx;cases ry;obtain⟨i1,r1,p1,_⟩:=I.list ha;obtain⟨i2,r2,p2,_⟩:=I.list hb;have l1:=r1.length;have l2:=r2.length;exact SeqAt.RcNeAt.lists_lengths p1.isList p2.isList (by simp;omega)<|by omega
theorem NI(e:Nat->Bool)(ha:aI X.K H a xs)(hb:aI X.K H b ys)(hl:xs.length=ys.length)(he:∀ j x y,xs[j]?=some x->ys[j]?=some y->i6 X H k x y (e j)):pj X H (k+1) (.ref a) (.ref b) ((List.range xs.length).all e):=λpins σ s A u v I hu rx ry=>by
 cases rx;cases ry;obtain⟨i1,r1,p1,_⟩:=I.tuple ha;obtain⟨i2,r2,p2,_⟩:=I.tuple hb;have l1:=r1.length;have l2:=r2.length;have q:=SeqAt.RcAt.tuples (A:=A) (e:=e) p1 p2 (by omega) λj h1 h2=>by
  obtain⟨x,ex,qx⟩:=ng r1 (j:=j) (by simpa using h1);obtain⟨y,ey,qy⟩:=ng r2 (j:=j) (by simpa using h2);exact he j x y ex ey pins σ s A.in1 _ _ I (by show A.units+1+k < cLine;omega) (by simpa using qx)<|by simpa using qy
 rw [Aw,Aw,<- l1,<- l2,hl,Nat.min_self,<- hl] at q
 simpa using q
theorem NM(hu:X.A.units+100 < cLine):cG X (compareOp .Eq) (λx y H Q=>∃ k c,k<=100/\pj X H k x y c/\Q (.bl c) H):=by
 intro pins s σ H x y v u Q I rx ry h;obtain⟨k,c,hk,hc,q⟩:=h;exact hc pins σ s X.A v u I (by omega) rx ry X.prog X.w X.xe _ ⟨.bl c,H,I,rfl,q⟩
theorem xm(hu:X.A.units+100 < cLine):cG X (compareOp .NotEq) (λx y H Q=>∃ k c,k<=100/\rA X H k x y c/\Q (.bl (!c)) H):=by
 intro pins s σ H x y v u Q I rx ry h;obtain⟨k,c,hk,hc,q⟩:=h;exact hc pins σ s X.A v u I (by omega) rx ry X.prog X.w X.xe _ ⟨.bl (!c),H,I,rfl,q⟩
theorem NU(e:Nat->Bool)(ha:aI X.K H a xs)(hb:aI X.K H b ys)(hl:xs.length=ys.length)(he:∀ j x y,xs[j]?=some x->ys[j]?=some y->i6 X H k x y (e j)):rA X H (k+1) (.ref a) (.ref b) ((List.range xs.length).all e):=λpins σ s A u v I hu rx ry=>by
 cases rx;cases ry;obtain⟨i1,r1,p1,_⟩:=I.tuple ha;obtain⟨i2,r2,p2,_⟩:=I.tuple hb;have l1:=r1.length;have l2:=r2.length;have q:=SeqAt.RcNeAt.tuples (A:=A) (e:=e) p1 p2 (by omega) λj h1 h2=>by
  obtain⟨x,ex,qx⟩:=ng r1 (j:=j) (by simpa using h1);obtain⟨y,ey,qy⟩:=ng r2 (j:=j) (by simpa using h2);exact he j x y ex ey pins σ s A.in1 _ _ I (by show A.units+1+k < cLine;omega) (by simpa using qx)<|by simpa using qy
 rw [Aw,Aw,<- l1,<- l2,hl,Nat.min_self,<- hl] at q
 simpa using q
end
section
variable{X:Cx}{o e f c:Expr}{σ:St}{H:Hp}{Q:VK}{T:Bool->Hp->Prop}{ap cp pos:Pos}{body rest:List Stmt}{D:Ends}
theorem C7{name:Str}{Ty id:String}{r:V->List V->Hp->VK->Prop}(pa:PlainAttrs Ty)(slot:Slot Ty name id)(oI:typeOf (.builtin id)=pure (.type "method_descriptor"))(hm:z8 X id r)
  (h:Ev X o σ H λx H1=>oH X.K Ty x H1/\Ev X e σ H1 λy H2=>r x [y] H2 Q) (ci:attributeBase o name X.env (eval o X.env)=eval o X.env:=by rfl)
  (cI:((backTo cp<|starEach [e] X.env).all (λx=>!x.1) && (backToKw cp<|keywordEach [] X.env).all (λx=>x.1.isSome) && decide ([e].length+([]:List Keyword).length+(if([]:List Keyword).isEmpty then 0 else 1) < 30))=true:=by rfl)
  (hline:(ap.endLine == cp.line)=true:=by rfl) (hs:starEach [e] X.env=(false,eval e X.env) :: starEach [] X.env:=by rfl) (bV:(backTo cp<|starEach [] X.env).any (·.1)=false:=by rfl) (db:isStar e=false:=by rfl):Ev X (.Call (.Attribute o name ap) [e] [] cp) σ H Q:=
 dZ (AG pa slot oI hm bH (iw (es:=[e])) ci cI hline hs bV) (h.mono λx H1 ⟨t,h2⟩=>⟨t,ai (h2.mono λy H2 q=>az q) db⟩)
theorem C8{name:Str}{Ty id:String}{r:V->List V->Hp->VK->Prop}(pa:PlainAttrs Ty)(slot:Slot Ty name id)(oI:typeOf (.builtin id)=pure (.type "method_descriptor"))(hm:z8 X id r)
  (h:Ev X o σ H λx H1=>oH X.K Ty x H1/\Ev X e σ H1 λy H2=>Ev X f σ H2 λz H3=>r x [y,z] H3 Q) (ci:attributeBase o name X.env (eval o X.env)=eval o X.env:=by rfl)
  (cI:((backTo cp<|starEach [e,f] X.env).all (λx=>!x.1) && (backToKw cp<|keywordEach [] X.env).all (λx=>x.1.isSome) && decide ([e,f].length+([]:List Keyword).length+(if([]:List Keyword).isEmpty then 0 else 1) < 30))=true:=by rfl)
  (hline:(ap.endLine == cp.line)=true:=by rfl) (hs:starEach [e,f] X.env=(false,eval e X.env) :: starEach [f] X.env:=by rfl) (bV:(backTo cp<|starEach [f] X.env).any (·.1)=false:=by rfl) (db:isStar e=false:=by rfl) (Yh:isStar f=false:=by rfl):Ev X (.Call (.Attribute o name ap) [e,f] [] cp) σ H Q:=
 dZ (AG pa slot oI hm bH (iw (es:=[e,f])) ci cI hline hs bV) (h.mono λx H1 ⟨t,h2⟩=>⟨t,ai (h2.mono λy H2 h3=>ai (h3.mono λz H3 q=>az q) Yh) db⟩)
def insertAt(xs:List V)(i:Nat)(y:V):List V:=xs.take i++y :: xs.drop i
def Yi:V->List V->Hp->VK->Prop:=λx vs H Q=>∃ l xs i y,x = .ref l/\vs=[.int i,y]/\H l=some (.lst xs)/\0<=i/\i.toNat<=xs.length/\xs.length < sizeLine/\Q .non (upd H l<|.lst<|insertAt xs i.toNat y)
theorem Yj{i:Int}(h0:0<=i)(h:i<=16777216):¬(!Builtin.List.listFitsIndex i)=true:=by
 have e:Builtin.List.listFitsIndex i=true:=by
  unfold Builtin.List.listFitsIndex;rw [Bv,DN,DN];omega
 rw [e];exact Av
theorem NV:qV X "list.insert" Yi:=by
 intro pins s σ H x vs v us Q I rx rv h;obtain⟨l,xs,i,y,rfl,rfl,hH,h0,hi,hz,q⟩:=h;cases rx;obtain⟨u,w',rfl,ru,fK⟩:=rv.two;obtain⟨tk,rfl⟩:=ru;obtain⟨z,its,n,r,hl,e⟩:=I.gX hH;have hs:sizeLine=16777216:=DX;have z2:its.toArray.size<=sizeLine:=by rw [Aw,<- hl];exact z
 have mm:=AutoSeq1.list_insert_list_int_val_1 l its.toArray n i tk w' (Yj h0<|by omega) z2;refine QZ F.slot_list_insert ⟨_,e,rfl⟩ F.entry_list_insert (F.args_list_insert_3 _ _ _) mm ⟨e,?_⟩;have ef:(λxs:Array Value=>have k:=if i < 0 then(i+(xs.size:Int)).toNat else min i.toNat xs.size;(xs.extract 0 k).push w'++xs.extract k) its.toArray=(its.take i.toNat++w' :: its.drop i.toNat).toArray:=by
  have hn:¬ i < 0:=by omega
  have hm:min i.toNat its.length=i.toNat:=by omega
  simp only [hn,CV,Aw,hm];apply Array.ext';simp;exact Cr<|by simp
 refine⟨.non,_,I.lv (its':=its.take i.toNat++w' :: its.drop i.toNat) hH e ef ((r.take i.toNat).append<|.cons fK<|r.drop i.toNat) ?_,rfl,q⟩;rw [Af,As,Bk,Cg];omega
def Yk:V->List V->Hp->VK->Prop:=λx vs H Q=>∃ a kvs k y,x = .ref a/\vs=[kV k,y]/\H a=some (.dK kvs)/\kvs.length < sizeLine /\
 ((∃ v,aJ kvs k=some v/\Q v H)\/(aJ kvs k=none/\Q y (upd H a<|.dK<|putK kvs k y)))
theorem Yl:qV X "dict.setdefault" Yk:=by
 intro pins s σ H x vs v us Q I rx rv h;obtain⟨a,kvs,k,y,rfl,rfl,hH,hz,q⟩:=h;cases rx;obtain⟨u,w',rfl,ru,fK⟩:=rv.two;obtain⟨z,hd,rs,rel,dd⟩:=AV I.aH hH;have hl:=rel.length;refine call_meetsIn F.slot_dict_setdefault dd.typeIs F.entry_dict_setdefault (F.args_dict_setdefault_3 _ _ _) (kt_meets_setdefault (dh X.prog X.w) a (oK ru) hd w') ⟨rs,dd,by omega,λv hv=>?_,λhn h' jo hs=>?_⟩
 ·have gL:=rel.val k;rw [hv] at gL
  rcases q with ⟨v',e',q⟩ | ⟨e',_⟩
  ·rw [e'] at gL;exact⟨v',H,I.tok _,gL,q⟩
  ·rw [e'] at gL;exact gL.elim
 ·have gL:=rel.val k;rw [hn] at gL
  rcases q with ⟨v',e',_⟩ | ⟨e',q⟩
  ·rw [e'] at gL;exact gL.elim
  ·have he:∃ q,h'.get? a=some q:=let ⟨q,_,_,hq,_⟩:=jo;⟨q,hq⟩
   have kC:(putK kvs k y).length<=sizeLine:=by have:=iu kvs k y;omega
   exact⟨y,_,mX I (by rw [hH];exact True.intro) hs he<|AX kC hd (rel.put k fK) jo,fK,q⟩
theorem NX:fT X (.type "int") (λxs H Q=>∃ b:Bool,xs=[.bl b]/\Q (.int (if b then 1 else 0)) H):=by
 intro pins s σ H xs us Q I r h;obtain⟨b,rfl,q⟩:=h;obtain⟨u,rfl,ru⟩:=vals1 r;cases (show u=Value.bool b from ru);exact call_int_bool ⟨.int (if b then 1 else 0),H,I.tok _,⟨_,rfl⟩,q⟩
theorem Ym{kD:List Stmt}(Φ:Bool->Hp->Prop)(M:St->Hp->Prop)(hc:Et X c σ H Φ)(ht:∀ H1,Φ true H1->Run X body {D with nx:=M} σ H1)(hu:∀ H1,Φ false H1->Run X kD {D with nx:=M} σ H1)
  (hr:∀ σ' H',M σ' H'->Run X rest D σ' H'):Run X (.If c body kD pos :: rest) D σ H:=
 eY (hc.mono λk H1 p=>by
  cases k with
  | true=>rw [BP rfl];exact(ht H1 p).nx hr
  | false=>rw [BK Av];exact(hu H1 p).nx hr)
theorem C9(W:Nat->St->Hp->Prop){m0:Nat}(h0:W m0 σ H)
  (turn:∀ m σ H,W m σ H->Et X c σ H λb H1=>if b=true then Run X body {D with nx:=λσ' H'=>∃ m',m' < m/\W m' σ' H',ct:=λσ' H'=>∃ m',m' < m/\W m' σ' H',bk:=λσ' H'=>Run X rest D σ' H'} σ H1 else Run X rest D σ H1)
  (hp:PassesOwn (model X.prog X.w) X.A X.env X.xe:=by exact NZ):Run X (.While c body [] pos :: rest) D σ H:=by
 refine lF (U2 hp lE oR) ⟨W,⟨m0,h0⟩,λm σ1 H1 w1=>(turn m σ1 H1 w1).mono λb H2 q=>?_⟩;cases b with
 | true=>
  rw [BP rfl] at q;exact⟨λσ' H'=>∃ m',m' < m/\W m' σ' H',λ_ _ h=>h,q⟩
 | false=>
  rw [BK Av] at q;exact q
theorem Dt(h:∀ p,H p=none->Q (.ref p) (upd H p<|.dK [])):Ev X (.Dict [] [] pos) σ H Q:=dZ Wr h
theorem Yn(h:∀ p,H p=none->Q (.ref p) (upd H p<|.dT [])):Ev X (.Dict [] [] pos) σ H Q:=dZ Ws h
theorem g8(hu:X.A.units+1 < cLine)(h:Ev X o σ H λx H1=>Ev X e σ H1 λy H2=>∃ a v,x = .ref a/\bn H2 a y (some v)/\Q v H2)(hs:oM e:=by intro _ _;rfl):Ev X (.Subscript o e pos) σ H Q:=dZ (Wl hu bH bH hs) h
theorem NY(hu:X.A.units+1 < cLine)(h:Ev X e σ H λy H1=>Ev X o σ H1 λx H2=>∃ a r,x = .ref a/\bn H2 a y r/\T r.isSome H2)(hm:behindInMarks .In o=false:=by with_unfolding_all rfl):Et X (.Compare e [.In] [o] pos) σ H T:=
 tP (UA (Wm hu bH bH) hm) (h.mono λy H1 h2=>h2.mono λx H2 ⟨a,r,h3,h4,h5⟩=>⟨a,r,h3,h4,_,rfl,h5⟩)
theorem xn{p2:Pos}(hu:X.A.units+1 < cLine)(h:Ev X f σ H λv H1=>Ev X o σ H1 λx H2=>Ev X e σ H2 λy H3=>∃ a H4,x = .ref a/\cB H3 a y v H4/\Run X rest D σ H4)(hs:swapsWith f (some<|.Subscript o e p2) pos.line X.env=pure false:=by rfl) :
  Run X (.Assign [.Subscript o e p2] f pos :: rest) D σ H:=lF (Wn hu bH bH bH hs) h
end
end L2
namespace bC
open PySem PySem.Spec PyProof.Rows
def lexLt(a b:Int×Int):Bool:=if a.1=b.1 then decide (a.2 < b.2) else decide (a.1 < b.1)
theorem Yo(b:Bool)(x y:Value):keyLt' (tuples' b) x y=(do
  let xs <- Builtin.List.listItems x
  let ys <- Builtin.List.listItems y
  for ((p,q),i) in (xs.toList.zip ys.toList).zipIdx do
   if !(<- eqBool p q) then return <- oneLt' (b && i == 0) p q
  return xs.size < ys.size):=rfl
section
variable{prog:Program}{w:World}{A:Around}{E:Value->Shared->Prop}{s:Shared}
def Pr(h:Heap)(a:Addr)(p:Int×Int):Prop:=∃ o n t u,h.get? a=some o/\o.cls = .type "tuple"/\o.data = .seq #[.int p.1 t,.int p.2 u] n
theorem N0{a b:Int}{t u:Tok}{Q:Bool->Shared->Prop}(h:Q (decide (a=b)) s):wpAny (model prog w) A (eqBool (.int a t)<|.int b u) Q E s:=by
 refine SeqAt.EqAt.int_int a t b u prog w E Q ?_;have e:(a == b)=decide (a=b):=rfl;rw [e];exact h
theorem Yp{a b:Int}{t u:Tok}{Q:Bool->Shared->Prop}(h:Q (decide (a < b)) s):wpAny (model prog w) A (oneLt' false (.int a t)<|.int b u) Q E s:=by
 rw [oneLt'_eq];simp only [Bb,CV];refine BJ ?_;show wpAny _ _ (compareOp .Lt (.int a t)<|.int b u) _ _ _;exact lt_int<|GQ h
theorem Yq{x y:Addr}{p q:Int×Int}{Q:Bool->Shared->Prop}(hx:Pr s.heap x p)(hy:Pr s.heap y q)(h:Q (lexLt p q) s):wpAny (model prog w) A (keyLt' (tuples' true) (.ref x)<|.ref y) Q E s:=by
 obtain⟨ox,nx,tx,ux,xo,cx,dx⟩:=hx;obtain⟨oy,ny,ty,uy,Yr,cy,dy⟩:=hy;rw [Yo];refine BJ<|OJ xo dx ?_;refine BJ<|OJ Yr dy ?_;show wpAny _ _ (forIn [((Value.int p.1 tx,Value.int q.1 ty),0),((Value.int p.2 ux,Value.int q.2 uy),1)] _ _ >>= _) _ _ _;rw [SJ];refine BJ<|BJ ?_
 dsimp only
 refine BJ<|N0 ?_
 by_cases c:p.1=q.1
 ·rw [BW c];simp only [Dv,Bb,CV];refine BL ?_
  dsimp only
  rw [SJ];refine BJ ?_
  dsimp only
  refine BJ<|N0 ?_
  by_cases c2:p.2=q.2
  ·rw [BW c2];simp only [Dv,Bb,CV];refine BL ?_
   dsimp only
   rw [List.forIn_nil];refine BL<|BL ?_;have e:lexLt p q=false:=by unfold lexLt;rw [BP c,c2];simp
   rw [e] at h
   simpa using h
  ·rw [BR c2];simp only [TY,DK];refine BJ<|Yp<|BL ?_
   dsimp only
   refine BL<|BL ?_;have e:lexLt p q=decide (p.2 < q.2):=by unfold lexLt;rw [BP c]
   rw [e] at h;exact h
 ·rw [BR c];simp only [TY,DK];refine BJ<|oneLt_int<|BL ?_
  dsimp only
  refine BL<|BL ?_;have e:lexLt p q=decide (p.1 < q.1):=by unfold lexLt;rw [BK c]
  rw [e] at h;exact h
theorem Ys{x y:Value}:(#[x,y]:Array Value).size<=sizeLine+1:=by
 rw [DX];show 2<=_;decide
theorem Yu(v:Value):firstOfTuple' v=(do
  if(<- typeOf v) != .type "tuple" then return none
  return (<- Builtin.List.listItems v)[0]?):=rfl
theorem N2{x:Addr}{p:Int×Int}{Q:Option Value->Shared->Prop}(hx:Pr s.heap x p)(h:∀ t,Q (some<|.int p.1 t) s):wpAny (model prog w) A (firstOfTuple'<|.ref x) Q E s:=by
 obtain⟨ox,nx,tx,ux,xo,cx,dx⟩:=hx;rw [Yu];refine BJ<|KC (T:= "tuple") ⟨ox,xo,cx⟩ ?_;rw [show(Value.type "tuple" != Value.type "tuple")=false by decide];simp only [Bb,CV];refine BJ<|OJ xo dx ?_;exact BL<|h tx
theorem Yv{x y:Addr}{p q:Int×Int}{Q:SortKind->Shared->Prop}(hx:Pr s.heap x p)(hy:Pr s.heap y q)(h:Q (tuples' true) s):wpAny (model prog w) A (keyKind' #[.ref x,.ref y]) Q E s:=by
 rw [keyKind'_eq,show(#[.ref x,.ref y]:Array Value)=[.ref x,.ref y].toArray from rfl,List.mapM_toArray];refine BJ<|wpAny_map ?_;rw [List.mapM_cons];refine BJ<|N2 hx λt=>?_;rw [List.mapM_cons];refine BJ<|BJ<|N2 hy λu=>?_;rw [List.mapM_nil];refine BJ<|BL<|BL<|BL ?_;rw [BP<|by simp];refine BJ<|HS ?_;rw [oneTypeOnly'_eq];show wpAny _ _ ((Array.mapM typeOf [Value.int p.1 t,Value.int q.1 u].toArray >>= _) >>= _) _ _ _;rw [List.mapM_toArray];have e1:[Value.int p.1 t,Value.int q.1 u].mapM typeOf=(pure [Value.type "int",Value.type "int"]:Sem _):=rfl;rw [e1];refine BL ?_;have e2:(if((#[Value.type "int",Value.type "int"]:Array Value).all λx=>x == (#[Value.type "int",Value.type "int"]:Array Value)[0])=true then some (#[Value.type "int",Value.type "int"]:Array Value)[0] else none)=some (Value.type "int"):=by
  rw [BP]
  ·rfl
  ·simp
 show Q (tuples'<|Option.any (λx=>x != Value.type "tuple") _) s;rw [e2];exact h
theorem wp_at{st:SortSt}{x y:Addr}{p q:Int×Int}{i j:Nat}{Q:Option Bool->SortSt->Prop}(hk:kindOf st=tuples' true)(hi:(arrOf st)[i]?=some (.ref x,.ref x))(hj:(arrOf st)[j]?=some (.ref y,.ref y))(hx:Pr s.heap x p)(hy:Pr s.heap y q)(h:Q (some<|lexLt p q) st) :
  wpS (model prog w) A E s (ltAt' i j) Q st:=by
 rw [ltAt'_eq];refine FN<|wpS_get ?_;show wpS _ _ _ _ (elem' (arrOf st) i >>= λa=>elem' (arrOf st) j >>= λb=>lt' a b) Q st;rw [elem'_eq,elem'_eq,hi,hj];refine FN<|JG<|FN<|JG ?_;rw [lt'_eq];refine FN<|wpS_get ?_;rw [hk];refine FN<|wpS_lift<|LK<|Yq hx hy ⟨rfl,?_⟩;exact JG h
def kK(x y:Addr)(p q:Int×Int):Array Keyed:=if lexLt q p then #[(.ref y,.ref y),(.ref x,.ref x)] else #[(.ref x,.ref x),(.ref y,.ref y)]
theorem Yw{x y:Addr}{p q:Int×Int}{Q:Option Nat->SortSt->Prop}(hx:Pr s.heap x p)(hy:Pr s.heap y q)
  (h:Q (some 2)<|SortSt.mk' (tuples' true) (kK x y p q) #[] 7 none):wpS (model prog w) A E s (countRun' 0 2) Q (SortSt.mk' (tuples' true) #[(.ref x,.ref x),(.ref y,.ref y)] #[] 7 none):=by
 rw [countRun0_eq];refine FN ?_;unfold ascLoop;refine wpS_mono (PB (I:=λi c st=>st=SortSt.mk' (tuples' true) #[(.ref x,.ref x),(.ref y,.ref y)] #[] 7 none/\c=(none,i)/\(i=2->lexLt q p=false))
  (Q:=λc st=>st=SortSt.mk' (tuples' true) #[(.ref x,.ref x),(.ref y,.ref y)] #[] 7 none/\((c=(none,1)/\lexLt q p=true)\/(c=(none,2)/\lexLt q p=false))) ?_ ?_ ⟨rfl,rfl,λh=>by cases h⟩) ?_
 ·rintro i c st h1 h2 ⟨rfl,rfl,hI⟩;have e:i=1:=by omega
  subst e;refine FN<|wp_at rfl rfl rfl hy hx ?_
  dsimp only
  cases hb:lexLt q p with
  | true=>
   rw [BP rfl];exact JG ⟨rfl,.inl ⟨rfl,rfl⟩⟩
  | false=>
   rw [BK Av];exact JG ⟨rfl,rfl,λ_=>rfl⟩
 ·rintro c st ⟨rfl,rfl,hI⟩;exact⟨rfl,.inr ⟨rfl,hI rfl⟩⟩
 ·rintro c st ⟨rfl,⟨rfl,hb⟩ | ⟨rfl,hb⟩⟩
  ·dsimp only
   rw [BK (by decide),BK<|by decide];unfold descPart;refine FN<|wpS_lift<|HS ⟨rfl,?_⟩;unfold descLoop;refine FN (wpS_mono (PB (I:=λi c st=>c=(none,2,0)/\st=SortSt.mk' (tuples' true) #[(.ref x,.ref x),(.ref y,.ref y)] #[] 7 none) (Q:=λc st=>c=(none,2,0)/\st=SortSt.mk' (tuples' true) #[(.ref x,.ref x),(.ref y,.ref y)] #[] 7 none) (λi c st h1 h2 _=>by omega) (λc st h=>h) ⟨rfl,rfl⟩) ?_);rintro c st ⟨rfl,rfl⟩
   dsimp only
   rw [BK<|by decide];unfold tail3;refine FN<|wpS_reverse ?_;unfold ascLoop;refine FN (wpS_mono (PB (I:=λi c st=>c=(none,2)/\st=SortSt.mk' (tuples' true) #[(.ref y,.ref y),(.ref x,.ref x)] #[] 7 none) (Q:=λc st=>c=(none,2)/\st=SortSt.mk' (tuples' true) #[(.ref y,.ref y),(.ref x,.ref x)] #[] 7 none) (λi c st h1 h2 _=>by omega) (λc st h=>h) ⟨rfl,rfl⟩) ?_);rintro c st ⟨rfl,rfl⟩
   dsimp only
   refine JG ?_;unfold kK at h;rw [BP hb] at h;exact h
  ·dsimp only
   rw [BP<|by decide];refine JG ?_;unfold kK at h;rw [BK<|by rw [hb];exact Av] at h;exact h
theorem Yx{x y:Addr}{p q:Int×Int}{Q:Unit->SortSt->Prop}(hx:Pr s.heap x p)(hy:Pr s.heap y q)(h:∀ st,arrOf st=kK x y p q->failedOf st=none->Q () st) :
  wpS (model prog w) A E s sortRuns' Q (SortSt.mk' (tuples' true) #[(.ref x,.ref x),(.ref y,.ref y)] #[] 7 none):=by
 rw [sortRuns'_eq];refine FN<|wpS_get ?_
 dsimp only
 have Yy:minRun' 2 2 0=2:=by rw [minRun'_succ,BP<|by decide]
 show wpS _ _ _ _ ((forIn [0:2] _ _) >>= _) _ _;have sz:(#[(Value.ref x,Value.ref x),(Value.ref y,Value.ref y)]:Array Keyed).size=2:=rfl;refine FN<|wpS_mono (PB (I:=λi c st=>(i=0/\c=(none,0)/\st=SortSt.mk' (tuples' true) #[(.ref x,.ref x),(.ref y,.ref y)] #[] 7 none)\/(1<=i/\c=(none,2)/\st=SortSt.mk' (tuples' true) (kK x y p q) #[(0,2,0)] 7 none))
  (Q:=λc st=>c=(none,2)/\st=SortSt.mk' (tuples' true) (kK x y p q) #[(0,2,0)] 7 none) ?_ ?_ (.inl ⟨rfl,rfl,rfl⟩)) ?_
 ·rintro i c st h1 h2 (⟨rfl,rfl,rfl⟩ | ⟨hi,rfl,rfl⟩)
  ·dsimp only
   rw [BK<|by show ¬(0>=2);decide];refine FN ?_;show wpS _ _ _ _ (countRun' 0 2) _ _;refine Yw hx hy ?_
   dsimp only
   rw [BK<|by show ¬(2 < minRun' 2 2 0);rw [Yy];decide];refine FN<|wpS_get ?_;show wpS _ _ _ _ (modify _ >>= _) _ _;exact FN<|wpS_modify<|JG<|.inr ⟨Al _,rfl,rfl⟩
  ·dsimp only
   rw [BP<|by show 2>=2;decide];exact JG ⟨rfl,rfl⟩
 ·rintro c st (⟨h1,_,_⟩ | ⟨_,hc,hs⟩)
  ·exact absurd h1<|by decide
  ·exact⟨hc,hs⟩
 ·rintro c st ⟨rfl,rfl⟩
  dsimp only
  refine FN<|wpS_mono (PB (I:=λ_ c st=>st=SortSt.mk' (tuples' true) (kK x y p q) #[(0,2,0)] 7 none/\c=(none,())) (Q:=λc st=>st=SortSt.mk' (tuples' true) (kK x y p q) #[(0,2,0)] 7 none/\c=(none,())) ?_ (λ_ _ hh=>hh) ⟨rfl,rfl⟩) ?_
  ·rintro i c st _ _ ⟨rfl,rfl⟩;refine FN<|wpS_get ?_;rw [BP<|by show 1<=1;decide];exact JG ⟨rfl,rfl⟩
  ·rintro c st ⟨rfl,rfl⟩;exact JG<|h _ rfl rfl
theorem Yz{a x y:Addr}{p q:Int×Int}{n:Nat}{P:Fin->Shared->Prop}(ho:s.heap.get? a=some (seqObj "list" #[.ref x,.ref y] n))(YB:a≠x)(YC:a≠y)(hx:Pr s.heap x p)(hy:Pr s.heap y q)
  (h:P (.done<|.ret .none) {s with heap:=sortedHeap s.heap a [.ref x,.ref y] (if lexLt p q then #[.ref y,.ref x] else #[.ref x,.ref y])}) :
  wpAny (model prog w) A (Builtin.«list.sort» ⟨[.ref a],[(Str.ofString "reverse",.bool true)]⟩) P E s:=by
 rw [list_sort_rev];have ha:a < s.heap.objs.size:=Au ho;refine BJ<|OJ ho rfl ?_;refine BJ<|LQ ho rfl ?_;obtain⟨e1,lT⟩:∃ e1,(s.heap.update a<|Obj.mapSeq λ_=>#[]).get? a=some (seqObj "list" #[] e1):=⟨_,get?_update_seq ho λ_=>#[]⟩;refine BJ<|QC lT rfl ?_;refine BJ<|PX ?_;refine BJ<|JQ ?_;refine CG ?_;have pq:(((s.heap.update a<|Obj.mapSeq λ_=>#[]).push<|seqObj "tuple" [Value.ref x,Value.ref y].toArray 0).push<|seqObj "list" #[] 0).get? a=some (seqObj "list" #[] e1):=
  Ag _ (Ag _ lT)
 show wpAny (model prog w) A _ P E {s with heap:=((s.heap.update a<|Obj.mapSeq λ_=>#[]).push<|seqObj "tuple" [Value.ref x,Value.ref y].toArray 0).push (seqObj "list" #[] 0)};have keep:∀ z r,a≠z->Pr s.heap z r->Pr (((s.heap.update a<|Obj.mapSeq λ_=>#[]).push<|seqObj "tuple" [Value.ref x,Value.ref y].toArray 0).push<|seqObj "list" #[] 0) z r:=by
  rintro z r hz ⟨o,m,t,u,q1,q2⟩;exact⟨o,m,t,u,Ag _<|Ag _<|(Cd _ _ hz).trans q1,q2⟩
 have kx:=keep x p YB hx;have ky:=keep y q YC hy
 dsimp only
 rw [BP rfl];refine BJ<|HS ?_;rw [BK<|by show ¬(2 < 2);decide];refine BJ<|Yv kx ky ?_;rw [BK<|by show ¬(2 < 2);decide];have e2:(if true=true then((#[Value.ref x,Value.ref y]:Array Value).zip #[Value.ref x,Value.ref y]).reverse else(#[Value.ref x,Value.ref y]:Array Value).zip #[Value.ref x,Value.ref y])=#[(Value.ref y,Value.ref y),(Value.ref x,Value.ref x)]:=by
  rw [BP rfl];simp
 rw [e2];refine BJ<|CT (Yx (Q:=λ_ st=>arrOf st=kK y x q p/\failedOf st=none) ky kx λst h1 h2=>⟨h1,h2⟩) ?_ λ_ _ e=>e;rintro ⟨⟨⟩,dA⟩ s' ⟨rfl,hs,hf⟩
 dsimp only
 have e3:(if true=true then((arrOf dA).map (·.2)).reverse else(arrOf dA).map (·.2))=(if lexLt p q then #[.ref y,.ref x] else #[.ref x,.ref y]):=by
  rw [BP rfl,hs];unfold kK
  split <;> simp
 refine BJ<|QC pq rfl ?_;refine BJ (LQ pq rfl ?_ (hsz2:=by rw [e3];split <;> exact Ys));rw [hf];simp only [FW,Bb,CV];refine BL ?_;have e4:(λ_:Array Value=>if True then((arrOf dA).map (·.2)).reverse else(arrOf dA).map (·.2))=λ_=>(if lexLt p q then #[.ref y,.ref x] else #[.ref x,.ref y]):=by
  funext _
  rw [BP trivial];rw [BP rfl] at e3;exact e3
 rw [e4];exact h
theorem YD{l x y:Addr}{p q:Int×Int}{Q:Value->Shared->Prop}(hl:s.heap.IsList l #[.ref x,.ref y])(hx:Pr s.heap x p)(hy:Pr s.heap y q)
  (h:∀(h':Heap) (e:Nat),(∀ b u,s.heap.get? b=some u->h'.get? b=some u)->h'.get? (s.heap.objs.size+1)=some (seqObj "list" (if lexLt p q then #[.ref y,.ref x] else #[.ref x,.ref y]) e)->Q (.ref<|s.heap.objs.size+1) {s with heap:=h'}) :
  wpAny (model prog w) A (call (.builtin "sorted") [.ref l] [(Str.ofString "reverse",.bool true)]) Q E s:=by
 refine call_function_entry_kw kind_sorted plain_sorted entry_sorted (args_sorted_rev _ _) ?_;unfold Builtin.«sorted»;refine BJ (m:=checkCount "sorted" 1 1 _)<|BL ?_;refine BJ<|collect_list (vs:=[.ref x,.ref y]) hl ?_;refine BJ<|JQ ?_;have hsz:((s.heap.push<|seqObj "list" #[] 0).update s.heap.objs.size (Obj.mapSeq (·++[Value.ref x,Value.ref y].toArray))).objs.size=s.heap.objs.size+1:=by
  rw [Heap.size_update,size_push']
 have jB:(((s.heap.push<|seqObj "list" #[] 0).update s.heap.objs.size (Obj.mapSeq (·++[Value.ref x,Value.ref y].toArray))).push<|seqObj "list" [Value.ref x,Value.ref y].toArray 0).get? (s.heap.objs.size+1)=some (seqObj "list" [Value.ref x,Value.ref y].toArray 0):=by
  rw [<- hsz];exact At _ rfl
 have lx:x < s.heap.objs.size:=let ⟨_,_,_,_,e,_⟩:=hx;Au e
 have ly:y < s.heap.objs.size:=let ⟨_,_,_,_,e,_⟩:=hy;Au e
 have keep:∀ z r,Pr s.heap z r->Pr (((s.heap.push<|seqObj "list" #[] 0).update s.heap.objs.size (Obj.mapSeq (·++[Value.ref x,Value.ref y].toArray))).push<|seqObj "list" [Value.ref x,Value.ref y].toArray 0) z r:=by
  rintro z r ⟨o,m,t,u,q1,q2⟩;have hz:=Au q1;exact⟨o,m,t,u,Ag _<|(Cd _ _<|Cs hz).trans<|Ag _ q1,q2⟩
 show wpAny _ _ _ _ _ {s with heap:=((s.heap.push<|seqObj "list" #[] 0).update s.heap.objs.size (Obj.mapSeq (·++[Value.ref x,Value.ref y].toArray))).push (seqObj "list" [Value.ref x,Value.ref y].toArray 0)};rw [hsz];refine BJ<|CG<|wpAny_call_entry_kw slot_list_sort ⟨_,jB,rfl⟩ entry_list_sort (Yz jB (Cs<|Bz lx) (Cs<|Bz ly) (keep x p hx) (keep y q hy) ⟨_,rfl,?_⟩)<|args_list_sort_rev _ _;obtain⟨e,he⟩:=sortedAll_at s.heap [Value.ref x,Value.ref y] (if lexLt p q then #[.ref y,.ref x] else #[.ref x,.ref y]);exact BL ⟨_,rfl,h _ e (λb u hb=>sortedAll_old hb) he⟩
end
end bC
namespace L2
open PySem PySem.Spec PyProof.Rows bC
section
variable{X:Cx}{e:Expr}{σ:St}{H:Hp}{Q:VK}{pos p kp cp:Pos}{j:Nat}
theorem N3{pins:List (Addr×Obj)}{s:Shared}{a:Addr}{i j:Int}(I:Inv X pins σ H s)(h:H a=some (.tup [.int i,.int j])):Pr s.heap a (i,j):=by
 obtain⟨its,r,pl,_⟩:=I.tuple<|aI.of h;obtain⟨u,v,rfl,⟨t,rfl⟩,⟨t',rfl⟩⟩:=vals2 r;obtain⟨o,ho,hc,n,hd⟩:=pl;exact⟨o,n,t,t',ho,hc,hd⟩
theorem YF(hm:X.mg "sorted" = none) (h:Ev X e σ H λv H1=>∃ l x y a b c d,v = .ref l/\H1 l=some (.lst [.ref x,.ref y])/\H1 x=some (.tup [.int a,.int b])/\H1 y=some (.tup [.int c,.int d]) /\
   ∀ r,H1 r=none->Q (.ref r) (upd H1 r<|.lst (if lexLt (a,b) (c,d) then [.ref y,.ref x] else [.ref x,.ref y]))) (hg:Gl X "sorted":=by rfl)
  (he:backTo pos (starEach [e] X.env)=(false,eval e X.env) :: backTo pos (starEach [] X.env):=by rfl) (bV:(backTo pos<|starEach [e] X.env).any (·.1)=false:=by rfl) (db:isStar e=false:=by rfl) :
  Ev X (.Call (.Name "sorted" p) [e] [⟨some "reverse",.Constant (.bool true) j cp,kp⟩] pos) σ H Q:=by
 refine⟨λpins s I=>?_⟩;refine JW<|mU I hg hm DW ?_;have hE:Ea X [e] σ H λvs H1=>∃ l x y a b c d,vs=[.ref l]/\H1 l=some (.lst [.ref x,.ref y])/\H1 x=some (.tup [.int a,.int b])/\H1 y=some (.tup [.int c,.int d]) /\
   ∀ r,H1 r=none->Q (.ref r) (upd H1 r<|.lst (if lexLt (a,b) (c,d) then [.ref y,.ref x] else [.ref x,.ref y])):=
  ai (h.mono λv H1 ⟨l,x,y,a,b,c,d,e1,r1⟩=>az ⟨l,x,y,a,b,c,d,by rw [e1],r1⟩) db
 refine callWith_kw (aP (hE.run pos pins s I) λus s1 ⟨vs,H1,I1,r1,l,x,y,a,b,c,d,ev,hl,hx,hy,q⟩=>?_) he bV;subst ev;obtain⟨u,rfl,ru⟩:=vals1 r1;cases (show u=Value.ref l from ru);refine kws_cons<|BL<|kws_nil ?_;obtain⟨its,r2,pl,_⟩:=I1.list<|aq.of hl;obtain⟨u,v,rfl,ru,rv⟩:=vals2 r2;cases (show u=Value.ref x from ru);cases (show v=Value.ref y from rv);refine YD pl.isList (N3 I1 hx) (N3 I1 hy) λh' e kp he=>?_;refine⟨.ref _,_,I1.eZ (s':={s1 with heap:=h'}) kp rfl rfl (Ek _) (show aC X.prog X.w _ h' _ (.lst (if lexLt (a,b) (c,d) then [.ref y,.ref x] else [.ref x,.ref y])) from ?_),rfl,q _<|I1.aH.fresh<|Ek _⟩
 split at he
 ·rename_i hb;rw [BP hb];exact⟨by show 2<=sizeLine;rw [DX];decide,[.ref y,.ref x],e,.cons rfl (.cons rfl .nil),he⟩
 ·rename_i hb;rw [BK hb];exact⟨by show 2<=sizeLine;rw [DX];decide,[.ref x,.ref y],e,.cons rfl (.cons rfl .nil),he⟩
end
end L2
namespace Nt
open PySem
abbrev Net:=List<|Str×List Str
abbrev End:=Nat×Nat
def row(n:Net)(r:Nat):List Str:=((n[r]?).map (·.2)).getD []
def aN(n:Net)(e:End):Option Str:=(row n e.1)[e.2]?
def bq(r:Nat)(ts:List Str)(p:Nat):List (Str×End):=(ts.zipIdx p).map λx=>(x.1,(r,x.2))
def fA(r:Nat):Net->List (Str×End)
 | []=>[]
 | a :: n=>bq r a.2 0++fA (r+1) n
def bh(n:Net):List (Str×End):=fA 0 n
def ends(n:Net):List End:=(bh n).map (·.2)
def ag(n:Net):List Str:=n.flatMap (·.2)
def pos(n:Net)(z:Str):List End:=((bh n).filter λx=>decide (x.1=z)).map (·.2)
theorem bK{r:Nat}{ts:List Str}{p:Nat}{z:Str}{e:End}:(z,e)∈bq r ts p↔e.1=r/\p<=e.2/\ts[e.2 - p]?=some z:=by
 unfold bq;rw [An]
 constructor
 ·rintro ⟨⟨y,k⟩,hm,he⟩;cases he;have:=Fi.mp hm;exact⟨rfl,this.1,this.2⟩
 ·rintro ⟨h1,h2,h3⟩;refine⟨(z,e.2),Fi.mpr ⟨h2,h3⟩,?_⟩;rw [<- h1]
theorem bQ:∀{n:Net} {k:Nat} {z:Str} {e:End},(z,e)∈fA k n↔k<=e.1/\(row n<|e.1 - k)[e.2]?=some z
 | [],k,z,e=>by
  constructor
  ·intro h;cases h
  ·rintro ⟨_,h⟩;simp [row] at h
 | a :: n,k,z,e=>by
  unfold fA;rw [Am,bK,bQ]
  constructor
  ·rintro (⟨h1,_,h3⟩ | ⟨h1,h2⟩)
   ·refine⟨by omega,?_⟩;rw [show e.1 - k=0 by omega]
    simpa [row] using h3
   ·refine⟨by omega,?_⟩;rw [show e.1 - k=(e.1 - (k+1))+1 by omega]
    simpa [row] using h2
  ·rintro ⟨h1,h2⟩
   rcases Di k e.1 with h | h
   ·refine .inr ⟨h,?_⟩;rw [show e.1 - k=(e.1 - (k+1))+1 by omega] at h2
    simpa [row] using h2
   ·refine .inl ⟨by omega,Bt _,?_⟩;rw [show e.1 - k=0 by omega] at h2
    simpa [row] using h2
theorem aV{n:Net}{z:Str}{e:End}:(z,e)∈bh n↔aN n e=some z:=by
 unfold bh aN;rw [bQ];simp
theorem af{n:Net}{e:End}:e∈ends n↔∃ z,aN n e=some z:=by
 unfold ends;rw [An]
 constructor
 ·rintro ⟨⟨z,e'⟩,h,rfl⟩;exact⟨z,aV.mp h⟩
 ·rintro ⟨z,h⟩;exact⟨(z,e),aV.mpr h,rfl⟩
theorem aG{n:Net}{z:Str}{e:End}:e∈pos n z↔aN n e=some z:=by
 unfold pos;rw [An]
 constructor
 ·rintro ⟨⟨y,e'⟩,h,rfl⟩;rw [Ba,DN] at h;obtain⟨h1,h2⟩:=h;subst h2;exact aV.mp h1
 ·intro h;exact⟨(z,e),Ba.mpr ⟨aV.mpr h,by simp⟩,rfl⟩
theorem YG(r:Nat):∀(ts:List Str) (p:Nat),(bq r ts p).map (·.1)=ts:=by
 intro ts p;unfold bq;rw [Cb];have:((λx:Str×End=>x.1) ∘ λx:Str×Nat=>(x.1,(r,x.2)))=Prod.fst:=rfl;rw [this,List.zipIdx_map_fst]
theorem kL:∀(n:Net) (k:Nat),(fA k n).map (·.1)=ag n
 | [],_=>rfl
 | a :: n,k=>by
  unfold fA ag;rw [Ak,YG,kL n<|k+1,Cf];rfl
theorem YH(r:Nat)(ts:List Str)(p:Nat):((bq r ts p).map (·.2)).Nodup:=by
 unfold bq;rw [Cb];have e:((λx:Str×End=>x.2) ∘ λx:Str×Nat=>(x.1,(r,x.2)))=(λk:Nat=>(r,k)) ∘ Prod.snd:=rfl;rw [e,<- Cb,List.zipIdx_map_snd];refine QT _ (R:=(·≠·)) ?_ List.nodup_range';intro a b h ft;exact h (Prod.mk.inj ft).2
theorem N4:∀(n:Net) (k:Nat),((fA k n).map (·.2)).Nodup
 | [],_=>Ch
 | a :: n,k=>by
  unfold fA;rw [Ak,Co];refine⟨YH _ _ _,N4 n<|k+1,?_⟩;intro x hx y hy e;subst e;obtain⟨⟨z,e1⟩,h1,rfl⟩:=An.mp hx;obtain⟨⟨z2,e2⟩,h2,he⟩:=An.mp hy;simp only at he;subst he;have q1:=(bK.mp h1).1;have q2:=(bQ.mp h2).1;omega
theorem rB(n:Net):(ends n).Nodup:=N4 n 0
theorem N5(n:Net)(z:Str):(pos n z).Nodup:=by
 unfold pos;exact(rB n).sublist<|List.Sublist.map _<|Gr
theorem pv(n:Net)(z:Str):(pos n z).length=(ag n).count z:=by
 unfold pos;rw [Aa,<- kL n 0,<- List.countP_eq_length_filter,List.count,List.countP_map];rfl
def av(n:Net):Prop:=∀ z∈ag n,(ag n).count z=2
theorem dI{n:Net}{e:End}{z:Str}(h:aN n e=some z):z∈ag n:=by
 have:=aV.mpr h;rw [<- kL n 0];exact An.mpr ⟨_,this,rfl⟩
def other(n:Net)(e:End):End:=match aN n e with
 | some z=>(match pos n z with
  | [a,b]=>if a=e then b else a
  | _=>e)
 | none=>e
theorem nh{n:Net}(T:av n){e:End}{z:Str}(h:aN n e=some z):∃ a b,pos n z=[a,b]/\a≠b/\(e=a\/e=b):=by
 have hl:=pv n z;rw [T z<|dI h] at hl;have hn:=N5 n z;have hm:=aG.mpr h
 match hp:pos n z,hl with
 | [a,b],_=>
  rw [hp] at hn hm;refine⟨a,b,rfl,?_,?_⟩
  ·intro e;subst e;simp at hn
  ·simpa using hm
theorem dJ{n:Net}(T:av n){e:End}{z:Str}(h:aN n e=some z):aN n (other n e)=some z/\other n (other n e)=e/\other n e≠e:=by
 obtain⟨a,b,hp,ft,he⟩:=nh T h;have ha:aN n a=some z:=aG.mp (by rw [hp];simp);have hb:aN n b=some z:=aG.mp<|by rw [hp];simp
 rcases he with rfl | rfl
 ·have e1:other n e=b:=by unfold other;simp only [h,hp];simp
  have e2:other n b=e:=by unfold other;simp only [hb,hp];simp [ft]
  rw [e1];exact⟨hb,e2,ft.symm⟩
 ·have e1:other n e=a:=by unfold other;simp only [h,hp];simp [ft]
  have e2:other n a=e:=by unfold other;simp only [ha,hp];simp
  rw [e1];exact⟨ha,e2,ft⟩
def left(n:Net)(e:End):End:=(e.1,(e.2+1) % (row n e.1).length)
def step(n:Net)(e:End):End:=left n (other n e)
theorem gM{n:Net}{e:End}{z:Str}(h:aN n e=some z):e.2 < (row n e.1).length:=(Ac.mp h).1
theorem cK{n:Net}{e:End}{z:Str}(h:aN n e=some z):e.1 < n.length:=by
 rcases Di e.1 n.length with c | c
 ·exact c
 ·have:=gM h;unfold row at this;rw [Bc c] at this;simp at this
theorem xq{n:Net}{e:End}(h:e.2 < (row n e.1).length):∃ z,aN n e=some z:=⟨_,Ab h⟩
theorem YJ{n:Net}{e:End}(h:e∈ends n):left n e∈ends n:=by
 obtain⟨z,h⟩:=af.mp h;have:=gM h;exact af.mpr<|xq (show(e.2+1) % (row n e.1).length < (row n e.1).length from Gu _<|by omega)
theorem cX{n:Net}(T:av n){e:End}(h:e∈ends n):other n e∈ends n:=by
 obtain⟨z,h⟩:=af.mp h;exact af.mpr ⟨z,(dJ T h).1⟩
theorem rC{n:Net}(T:av n){e:End}(h:e∈ends n):step n e∈ends n:=YJ<|cX T h
theorem YK{n:Net}{a b:End}(ha:a∈ends n)(hb:b∈ends n)(h:left n a=left n b):a=b:=by
 obtain⟨z,ha⟩:=af.mp ha;obtain⟨y,hb⟩:=af.mp hb;have la:=gM ha;have lb:=gM hb;unfold left at h;obtain⟨h1,h2⟩:=Prod.mk.inj h;rw [h1] at la h2;have:a.2=b.2:=by
  rcases Di (a.2+1) (row n b.1).length with c | c <;> rcases Di (b.2+1) (row n b.1).length with d | d
  ·rw [Cc c,Cc d] at h2;omega
  ·have e:b.2+1=(row n b.1).length:=by omega
   rw [Cc c,e,Ed] at h2;omega
  ·have e:a.2+1=(row n b.1).length:=by omega
   rw [Cc d,e,Ed] at h2;omega
  ·omega
 exact HN h1 this
theorem N6{n:Net}(T:av n){a b:End}(ha:a∈ends n)(hb:b∈ends n)(h:other n a=other n b):a=b:=by
 obtain⟨z,ha⟩:=af.mp ha;obtain⟨y,hb⟩:=af.mp hb;rw [<- (dJ T ha).2.1,h,(dJ T hb).2.1]
theorem N7{n:Net}(T:av n){a b:End}(ha:a∈ends n)(hb:b∈ends n)(h:step n a=step n b):a=b:=
 N6 T ha hb (YK (cX T ha) (cX T hb) h)
theorem aX{α:Type} [DecidableEq α]:∀{a b:List α},a.Nodup->(∀ z∈a,z∈b)->a.length<=b.length
 | [],b,_,_=>Bt _
 | x :: r,b,hn,hs=>by
  rw [Bf] at hn;have hx:=hs x Ae;have:=aX (a:=r) (b:=b.erase x) hn.2 λz hz=>by
   have bB:z≠x:=λe=>hn.1<|e ▸ hz;exact(Fk bB).mpr<|hs z<|Ah _ hz
  rw [Ft hx] at this;have hp:0 < b.length:=TF hx;rw [As];omega
def it{α:Type}(f:α->α):Nat->α->α
 | 0,a=>a
 | k+1,a=>f<|it f k a
theorem jN{α:Type}{f:α->α}{S:List α}(hf:∀ a∈S,f a∈S){a:α}(h:a∈S):∀ k,it f k a∈S
 | 0=>h
 | k+1=>hf _<|jN hf h k
theorem xr{α:Type} [DecidableEq α] {f:α->α} {S:List α} (hf:∀ a∈S,f a∈S) (inj:∀ a∈S,∀ b∈S,f a=f b->a=b) {a:α} (h:a∈S):∃ k,0 < k/\k<=S.length/\it f k a=a:=by
 have cancel:∀ i j,it f i a=it f (i+j) a->it f j a=a:=by
  intro i
  induction i with
  | zero=>intro j e;rw [Eb] at e;exact e.symm
  | succ i ih=>
   intro j e;refine ih j ?_;rw [show i+1+j=(i+j)+1 by omega] at e;exact inj _ (jN hf h i) _ (jN hf h<|i+j) e
 refine DR λhn=>?_;have nd:((List.range<|S.length+1).map λi=>it f i a).Nodup:=by
  refine QT _ (R:=λi j=>i < j/\j < S.length+1) ?_ ?_
  ·rintro i j ⟨h1,h2⟩ e;refine hn ⟨j - i,by omega,by omega,cancel i (j - i) ?_⟩;rw [show i+(j - i)=j by omega];exact e
  ·rw [Bs];intro i j hi hj eQ;simp only [Fa];simp at hj;exact⟨eQ,hj⟩
 have:=aX nd λz hz=>by
  obtain⟨i,_,rfl⟩:=An.mp hz;exact jN hf h i
 simp at this;omega
theorem js:∀(n:Net) (r:Nat),(row n r).length<=(ag n).length
 | [],r=>by simp [row,ag]
 | a :: n,0=>by simp [row,ag]
 | a :: n,r+1=>by
  have:=js n r;simp [row,ag] at this ⊢;omega
theorem N8:∀(n:Net) (r:Nat),(ag<|n.take r).length<=(ag n).length
 | [],r=>by simp [ag]
 | a :: n,0=>by simp [ag]
 | a :: n,r+1=>by
  have:=N8 n r;simp [ag] at this ⊢;omega
structure fB(n:Net)(e:Nt.End)(fs:List End):Prop where
 pos:0 < fs.length
 len:fs.length<=(ends n).length
 at':∀ i,i < fs.length->fs[i]?=some (it (step n) i e)
 back:it (step n) fs.length e=e
 first:∀ i,0 < i->i < fs.length->it (step n) i e≠e
open L2
abbrev Ls(zs:List Str):HO:= .lst<|zs.map V.str
abbrev Tp(e:End):HO:= .tup [.int e.1,.int e.2]
structure ao(H:Hp)(R:Addr)(as:List<|Addr×Addr)(n:Net):Prop where
 len:as.length=n.length
 lst:H R=some (.lst<|as.map λa=> .ref a.1)
 tup:∀(i:Nat) a r,as[i]?=some a->n[i]?=some r->H a.1=some (.tup [.str r.1,.ref a.2])/\H a.2=some (Ls r.2)
 inj:(as.map (·.2)).Nodup
theorem ao.same{H H':Hp}{R:Addr}{as:List (Addr×Addr)}{n:Net}(h:ao H R as n)(s:au H H'):ao H' R as n:=
 ⟨h.len,s _ _ h.lst,λi a r h1 h2=>⟨s _ _ (h.tup i a r h1 h2).1,s _ _ (h.tup i a r h1 h2).2⟩,h.inj⟩
theorem ao.at{H:Hp}{R:Addr}{as:List (Addr×Addr)}{n:Net}(h:ao H R as n){i:Nat}(hi:i < n.length) :
  ∃ a,as[i]?=some a/\dY (as.map λa=>V.ref a.1) (i:Int)=some (.ref a.1)/\H a.1=some (.tup [.str n[i].1,.ref a.2])/\H a.2=some (Ls<|row n i)/\row n i=n[i].2:=by
 have hl:=h.len;have e:as[i]?=some as[i]:=Ab (by omega);have er:row n i=n[i].2:=by unfold row;rw [Ab hi];rfl
 have q:=h.tup i as[i] n[i] e<|Ab hi;refine⟨as[i],e,lr (by rw [Aj,e];rfl),q.1,?_,er⟩;rw [er];exact q.2
theorem xt{zs:List Str}{j:Nat}{z:Str}(h:zs[j]?=some z):dY (zs.map V.str) (j:Int)=some (.str z):=lr<|by rw [Aj,h];rfl
inductive Pd (H:Hp):List Addr->List End->Prop where
 | nil:Pd H [] []
 | cons {t:Addr} {e:End} {ts:List Addr} {es:List End}:H t=some (Tp e)->Pd H ts es->Pd H (t :: ts) (e :: es)
theorem Pd.append{H:Hp}{ts us:List Addr}{es fs:List End}(h:Pd H ts es)(g:Pd H us fs):Pd H (ts++us) (es++fs):=by
 induction h with
 | nil=>exact g
 | cons h1 _ ih=>exact .cons h1 ih
theorem Pd.keep{H H':Hp}{ts:List Addr}{es:List End}(h:Pd H ts es)(k:∀ t e,H t=some (Tp e)->H' t=some (Tp e)):Pd H' ts es:=by
 induction h with
 | nil=>exact .nil
 | cons h1 _ ih=>exact .cons (k _ _ h1) ih
theorem Pd.length{H:Hp}{ts:List Addr}{es:List End}(h:Pd H ts es):ts.length=es.length:=by
 induction h with
 | nil=>rfl
 | cons _ _ ih=>rw [As,As,ih]
theorem Pd.at{H:Hp}{ts:List Addr}{es:List End}(h:Pd H ts es):∀{i:Nat} {e:End},es[i]?=some e->∃ t,ts[i]?=some t/\H t=some (Tp e):=by
 induction h with
 | nil=>intro i e h;simp at h
 | cons h1 _ ih=>
  intro i e h;cases i with
  | zero=>simp at h;subst h;exact⟨_,rfl,h1⟩
  | succ i=>simp only [Ga] at h ⊢;exact ih h
def bL(done:List<|Str×End)(z:Str):List End:=(done.filter λx=>decide (x.1=z)).map (·.2)
theorem df(done:List<|Str×End)(y z:Str)(e:End):bL (done++[(y,e)]) z=bL done z++(if y=z then [e] else []):=by
 unfold bL;rw [Cq,Ak]
 congr 1
 by_cases h:y=z
 ·rw [BP h];simp [h]
 ·rw [BK h];simp [h]
structure a8(H0 H:Hp)(d:Addr)(done:List<|Str×End)(kvs:List<|Key×V)(ks:List Str)(A:Str->Option (Addr×List Addr)):Prop where
 same:au H0 H
 free:H0 d=none
 dict:H d=some (.dK kvs)
 keys:kvs.map (·.1)=ks.map Sum.inr
 nodup:ks.Nodup
 mem:∀ z,z∈ks↔(A z).isSome=true
 val:∀ z,aJ kvs (Sum.inr z)=(A z).map λa=> .ref a.1
 at':∀ z a ts,A z=some (a,ts)->H0 a=none/\a≠d/\H a=some (.lst<|ts.map V.ref)/\Pd H ts (bL done z)
 inj:∀ z y a ts us,A z=some (a,ts)->A y=some (a,us)->z=y
 gl:∀ z,A z=none->bL done z=[]
 some':∀ z a ts,A z=some (a,ts)->bL done z≠[]
theorem a8.start{H:Hp}{d:Addr}(h:H d=none):a8 H (upd H d<|.dK []) d [] [] [] (λ_=>none) where
 same:=λb u q=>by rw [ay<|bu q h];exact q
 free:=h
 dict:=aB
 keys:=rfl
 nodup:=Ch
 mem:=λz=>by simp
 val:=λz=>rfl
 at':=λz a ts h=>by cases h
 inj:=λz y a ts us h=>by cases h
 gl:=λz _=>rfl
 some':=λz a ts h=>by cases h
theorem ua{H:Hp}{t a:Addr}{e:End}{xs:List V}(h:H t=some (Tp e))(g:H a=some (.lst xs)):t≠a:=bU h g λz=>nomatch z
theorem a8.old{H0 H:Hp}{d:Addr}{done:List (Str×End)}{kvs:List (Key×V)}{ks:List Str}{A:Str->Option (Addr×List Addr)}(S:a8 H0 H d done kvs ks A){z:Str}{e:End}{a l0 t:Addr}{ts:List Addr}
  (hA:A z=some (a,ts)) (hl:H l0=none) (ht:(upd H l0<|.lst []) t=none) :
  a8 H0 (upd (upd (upd H l0<|.lst []) t<|Tp e) a<|.lst<|ts.map V.ref++[.ref t]) d (done++[(z,e)]) kvs ks (λy=>if y=z then some (a,ts++[t]) else A y):=by
 obtain⟨q1,q2,q3,q4⟩:=S.at' z a ts hA;have xu:H t=none:=by
  by_cases c:t=l0
  ·rw [c,aB] at ht;cases ht
  ·rwa [ay c] at ht
 have xv:l0≠a:=(bu q3 hl).symm;have xx:t≠a:=(bu q3 xu).symm;have c8:a≠t:=xx.symm;have keep:∀ b u,b≠a->H b=some u->(upd (upd (upd H l0<|.lst []) t<|Tp e) a<|.lst<|ts.map V.ref++[.ref t]) b=some u:=λb u h1 h2=>by
  rw [ay h1,ay<|bu h2 xu,ay<|bu h2 hl];exact h2
 have kt:∀ b f,H b=some (Tp f)->(upd (upd (upd H l0<|.lst []) t<|Tp e) a<|.lst<|ts.map V.ref++[.ref t]) b=some (Tp f):=λb f h=>keep b _ (ua h q3) h;have et:(upd (upd (upd H l0<|.lst []) t<|Tp e) a<|.lst<|ts.map V.ref++[.ref t]) t=some (Tp e):=by rw [ay xx,aB]
 refine⟨λb u h=>?_,S.free,keep d _ (CK q2) S.dict,S.keys,S.nodup,λy=>?_,λy=>?_,λy a' iz h=>?_,λy y' a' iz us h1 h2=>?_,λy h=>?_,λy a' iz h=>?_⟩
 ·exact keep b u (bu h q1)<|S.same _ _ h
 ·rw [S.mem y]
  by_cases c:y=z
  ·rw [BP c,c,hA];simp
  ·rw [BK c]
 ·rw [S.val y]
  by_cases c:y=z
  ·rw [BP c,c,hA];rfl
  ·rw [BK c]
 ·by_cases c:y=z
  ·rw [BP c] at h;cases h;refine⟨q1,q2,by rw [aB,Ak];rfl,?_⟩;rw [df,c,BP rfl];exact(q4.keep kt).append<|.cons et .nil
  ·rw [BK c] at h;obtain⟨r1,r2,r3,r4⟩:=S.at' y a' iz h;have bB:a'≠a:=λe2=>c<|S.inj y z a iz ts (e2 ▸ h) hA;refine⟨r1,r2,keep _ _ bB r3,?_⟩;rw [df,BK λh=>c h.symm,Be];exact r4.keep kt
 ·by_cases c:y=z <;> by_cases c':y'=z
  ·rw [c,c']
  ·rw [BP c] at h1;rw [BK c'] at h2;cases h1;exact absurd (S.inj y' z a us ts h2 hA) c'
  ·rw [BK c] at h1;rw [BP c'] at h2;cases h2;exact absurd (S.inj y z a iz ts h1 hA) c
  ·rw [BK c] at h1;rw [BK c'] at h2;exact S.inj y y' a' iz us h1 h2
 ·by_cases c:y=z
  ·rw [BP c] at h;cases h
  ·rw [BK c] at h;rw [df,BK λh=>c h.symm,Be];exact S.gl y h
 ·by_cases c:y=z
  ·rw [df,BP c.symm];simp
  ·rw [BK c] at h;rw [df,BK λh=>c h.symm,Be];exact S.some' y a' iz h
theorem a8.new{H0 H:Hp}{d:Addr}{done:List (Str×End)}{kvs:List (Key×V)}{ks:List Str}{A:Str->Option (Addr×List Addr)}(S:a8 H0 H d done kvs ks A){z:Str}{e:End}{l0 t:Addr}
  (hA:A z=none) (hl:H l0=none) (ht:(upd (upd H l0<|.lst []) d<|.dK<|putK kvs (Sum.inr z)<|.ref l0) t=none) :
  a8 H0 (upd (upd (upd (upd H l0<|.lst []) d<|.dK<|putK kvs (Sum.inr z)<|.ref l0) t<|Tp e) l0<|.lst [.ref t]) d (done++[(z,e)]) (putK kvs (Sum.inr z)<|.ref l0) (ks++[z]) (λy=>if y=z then some (l0,[t]) else A y):=by
 have iy:d≠l0:=bu S.dict hl;have DA:t≠d:=λc=>by rw [c,aB] at ht;cases ht
 have py:t≠l0:=λc=>by rw [ay DA,c,aB] at ht;cases ht
 have xu:H t=none:=by rwa [ay DA,ay py] at ht
 have vn:aJ kvs (Sum.inr z)=none:=by rw [S.val z,hA];rfl
 have keep:∀ b u,b≠d->H b=some u->(upd (upd (upd (upd H l0<|.lst []) d<|.dK<|putK kvs (Sum.inr z)<|.ref l0) t<|Tp e) l0<|.lst [.ref t]) b=some u:=λb u h1 h2=>by
  rw [ay<|bu h2 hl,ay<|bu h2 xu,ay h1,ay<|bu h2 hl];exact h2
 have kt:∀ b f,H b=some (Tp f)->(upd (upd (upd (upd H l0<|.lst []) d<|.dK<|putK kvs (Sum.inr z)<|.ref l0) t<|Tp e) l0<|.lst [.ref t]) b=some (Tp f):=λb f h=>keep b _ (bU h S.dict λz=>nomatch z) h;have YL:H0 l0=none:=S.same.free hl;have zk:z∉ks:=λh=>by
  have:=(S.mem z).mp h;rw [hA] at this;cases this
 refine⟨λb u h=>?_,S.free,?_,?_,?_,λy=>?_,λy=>?_,λy a' iz h=>?_,λy y' a' iz us h1 h2=>?_,λy h=>?_,λy a' iz h=>?_⟩
 ·exact keep b u (bu h S.free)<|S.same _ _ h
 ·rw [ay iy,ay DA.symm,aB]
 ·rw [Mm _ vn,Ak,S.keys,Ak];rfl
 ·rw [Co];exact⟨S.nodup,by simp,λx hx y hy e=>by rw [Ad] at hy;subst hy e;exact zk hx⟩
 ·rw [Am,Ad,S.mem y]
  by_cases c:y=z
  ·rw [BP c];simp [c]
  ·rw [BK c];simp [c]
 ·rw [eW]
  by_cases c:y=z
  ·rw [BP (by rw [c]),BP c];rfl
  ·rw [BK λh=>c<|Sum.inr.inj h,BK c,S.val y]
 ·by_cases c:y=z
  ·rw [BP c] at h;cases h;refine⟨YL,iy.symm,by rw [aB];rfl,?_⟩;rw [df,c,BP rfl,S.gl z hA];exact .cons (by rw [ay py,aB]) .nil
  ·rw [BK c] at h;obtain⟨r1,r2,r3,r4⟩:=S.at' y a' iz h;refine⟨r1,r2,keep _ _ r2 r3,?_⟩;rw [df,BK λh=>c h.symm,Be];exact r4.keep kt
 ·by_cases c:y=z <;> by_cases c':y'=z
  ·rw [c,c']
  ·rw [BP c] at h1;rw [BK c'] at h2;cases h1;exact absurd hl<|by rw [(S.at' y' l0 us h2).2.2.1];exact λh=>nomatch h
  ·rw [BK c] at h1;rw [BP c'] at h2;cases h2;exact absurd hl<|by rw [(S.at' y l0 iz h1).2.2.1];exact λh=>nomatch h
  ·rw [BK c] at h1;rw [BK c'] at h2;exact S.inj y y' a' iz us h1 h2
 ·by_cases c:y=z
  ·rw [BP c] at h;cases h
  ·rw [BK c] at h;rw [df,BK λh=>c h.symm,Be];exact S.gl y h
 ·by_cases c:y=z
  ·rw [df,BP c.symm];simp
  ·rw [BK c] at h;rw [df,BK λh=>c h.symm,Be];exact S.some' y a' iz h
theorem DB:∀(n m:Net) (k:Nat),fA k (n++m)=fA k n++fA (k+n.length) m
 | [],m,k=>rfl
 | a :: n,m,k=>by
  show bq k a.2 0++fA (k+1) (n++m)=(bq k a.2 0++fA (k+1) n)++fA (k+(n.length+1)) m;rw [DB n m<|k+1,Aq,show k+1+n.length=k+(n.length+1) by omega]
theorem rD{n:Net}{r:Nat}(h:r < n.length):bh (n.take<|r+1)=bh (n.take r)++bq r (row n r) 0:=by
 unfold bh;rw [Cj,Ab h,DB];have e:(n.take r).length=r:=by rw [Bk];omega
 rw [e,Eb];have er:row n r=n[r].2:=by unfold row;rw [Ab h];rfl
 rw [er];show _++(bq r n[r].2 0++[])=_;rw [Be]
theorem pA{r:Nat}{ts:List Str}{p:Nat}{z:Str}(h:ts[p]?=some z):bq r (ts.take<|p+1) 0=bq r (ts.take p) 0++[(z,(r,p))]:=by
 unfold bq;have hp:=(Ac.mp h).1;rw [Cj,h,List.zipIdx_append,Ak];have e:(ts.take p).length=p:=by rw [Bk];omega
 rw [e,Eb];rfl
structure bP(H:Hp)(d:Addr)(n:Net)(ks:List Str):Prop where
 dict:∃ kvs,H d=some (.dK kvs)/\kvs.map (·.1)=ks.map Sum.inr/\∀ z∈ag n,∃ a ts,aJ kvs (Sum.inr z)=some (.ref a)/\H a=some (.lst<|ts.map V.ref)/\Pd H ts (pos n z)
 nodup:ks.Nodup
 mem:∀ z,z∈ks↔z∈ag n
theorem bP.same{H H':Hp}{d:Addr}{n:Net}{ks:List Str}(S:bP H d n ks)(s:au H H'):bP H' d n ks:=by
 obtain⟨kvs,h1,h2,h3⟩:=S.dict;refine⟨⟨kvs,s _ _ h1,h2,λz hz=>?_⟩,S.nodup,S.mem⟩;obtain⟨a,ts,q1,q2,q3⟩:=h3 z hz;exact⟨a,ts,q1,s _ _ q2,q3.keep λt e h=>s _ _ h⟩
theorem cm{n:Net}{z:Str}:z∈ag n↔pos n z≠[]:=by
 rw [<- Dd,<- pv,Dk]
theorem a8.whole{H0 H:Hp}{d:Addr}{n:Net}{kvs:List (Key×V)}{ks:List Str}{A:Str->Option (Addr×List Addr)}(S:a8 H0 H d (bh n) kvs ks A):bP H d n ks:=by
 have mem:∀ z,z∈ks↔z∈ag n:=λz=>by
  rw [S.mem z,cm];cases h:A z with
  | none=>simp;exact S.gl z h
  | some p=>
   obtain⟨a,ts⟩:=p;simp;exact S.some' z a ts h
 refine⟨⟨kvs,S.dict,S.keys,λz hz=>?_⟩,S.nodup,mem⟩;have:=(S.mem z).mp<|(mem z).mpr hz;cases h:A z with
 | none=>rw [h] at this;cases this
 | some p=>
  obtain⟨a,ts⟩:=p;obtain⟨q1,q2,q3,q4⟩:=S.at' z a ts h;exact⟨a,ts,by rw [S.val z,h];rfl,q3,q4⟩
theorem all2(e:Nat->Bool):(List.range 2).all e=(e 0 && e 1):=by
 show(([0,1]:List Nat).all e)=_;simp
theorem N9(x y:End):(cH (.int x.1) (.int y.1) && cH (.int x.2) (.int y.2))=decide (x=y):=by
 obtain⟨a,b⟩:=x;obtain⟨c,d⟩:=y
 by_cases h:a=c <;> by_cases h2:b=d
 ·subst h h2;simp [cH]
 ·have:¬(b:Int)=(d:Int):=λe=>h2 (by omega);simp [cH,h2,this]
 ·have:¬(a:Int)=(c:Int):=λe=>h (by omega);simp [cH,h,this]
 ·have:¬(a:Int)=(c:Int):=λe=>h (by omega);simp [cH,h,this]
section
variable{X:Cx}{H:Hp}{s t:Addr}{x y:End}
theorem Oa:∀(j:Nat) (u v:V),[V.int x.1,.int x.2][j]?=some u->[V.int y.1,.int y.2][j]?=some v->i6 X H 0 u v (if j=0 then cH (.int x.1) (.int y.1) else cH (.int x.2) (.int y.2))
 | 0,u,v,h1,h2=>by
  cases h1;cases h2;exact xl rfl rfl
 | 1,u,v,h1,h2=>by
  cases h1;cases h2;exact xl rfl rfl
 | j+2,u,v,h1,h2=>by simp at h1
theorem YM(hs:H s=some (Tp x))(ht:H t=some (Tp y)):pj X H 1 (.ref s) (.ref t) (decide (x=y)):=by
 have:=NI (X:=X) (k:=0) (λj=>if j=0 then cH (.int x.1) (.int y.1) else cH (.int x.2) (.int y.2)) (aI.of hs) (aI.of ht) rfl Oa;rw [show([V.int (x.1:Int),.int x.2].length)=2 from rfl,all2] at this;have e:=N9 x y;simp only [DK] at this;rw [BK (by decide),e] at this;exact this
theorem YN(hs:H s=some (Tp x))(ht:H t=some (Tp y)):rA X H 1 (.ref s) (.ref t) (decide (x=y)):=by
 have:=NU (X:=X) (k:=0) (λj=>if j=0 then cH (.int x.1) (.int y.1) else cH (.int x.2) (.int y.2)) (aI.of hs) (aI.of ht) rfl Oa;rw [show([V.int (x.1:Int),.int x.2].length)=2 from rfl,all2] at this;have e:=N9 x y;simp only [DK] at this;rw [BK (by decide),e] at this;exact this
end
abbrev lets:Str:= "abcdefghijklmnopqrstuvwxyz0123456789"
theorem Ob:lets.cps.toList.length=36:=by decide +kernel
theorem YQ:lets.cps.toList.Nodup:=by decide +kernel
def sgn(i:Int):Nat:=(dY lets.cps.toList<|i % 36).getD 0
theorem DC(i:Int):dY lets.cps.toList (i % 36)=some (sgn i):=by
 have h0:0<=i % 36:=Bx _ (by decide);have h1:i % 36 < 36:=Ce _ (by decide);have hj:(i % 36).toNat < lets.cps.toList.length:=by rw [Ob];omega
 have q:=lr (xs:=lets.cps.toList) (j:=(i % 36).toNat) (v:=lets.cps.toList[(i % 36).toNat]) (by simp [hj]);rw [show(((i % 36).toNat:Nat):Int)=i % 36 by omega] at q;unfold sgn;rw [q];rfl
theorem Oc{i j:Int}(h:sgn i=sgn j):i % 36=j % 36:=by
 have key:∀ k:Int,lets.cps.toList[(k % 36).toNat]?=some (sgn k):=λk=>by
  have h0:0<=k % 36:=Bx _ (by decide);have h1:k % 36 < 36:=Ce _ (by decide);have hj:(k % 36).toNat < lets.cps.toList.length:=by rw [Ob];omega
  have q:=lr (xs:=lets.cps.toList) (j:=(k % 36).toNat) (v:=lets.cps.toList[(k % 36).toNat]) (by simp [hj]);rw [show(((k % 36).toNat:Nat):Int)=k % 36 by omega,DC] at q;rw [Ab hj,Option.some.inj q]
 have hi:=key i;have hj:=key j;rw [h] at hi;obtain⟨l1,e1⟩:=Ac.mp hi;obtain⟨l2,e2⟩:=Ac.mp hj;have:=(Gg (xs:=lets.cps.toList) (h₀:=l1) (h₁:=l2) YQ).mp<|e1.trans e2.symm;have a0:0<=i % 36:=Bx _ (by decide);have b0:0<=j % 36:=Bx _ (by decide);omega
def turn(b:Int)(sp:Int)(v k:Nat):Int:=b / 64+(k:Int) * (b / 7 % 5)+(if(k:Int)=sp then(v:Int) else 0)
def nm(b sp:Int)(v:Nat):Nat->Str
 | 0=>⟨#[]⟩
 | k+1=>nm b sp v k++⟨#[sgn<|turn b sp v k]⟩
theorem app_list(x y:Str):(x++y).cps.toList=x.cps.toList++y.cps.toList:=by
 show(x.cps++y.cps).toList=_;simp
theorem xA(b sp:Int)(v:Nat):∀ k,(nm b sp v k).cps.toList=(List.range k).map λj=>sgn<|turn b sp v j
 | 0=>rfl
 | k+1=>by
  show(nm b sp v k++⟨#[sgn<|turn b sp v k]⟩).cps.toList=_;rw [app_list,xA b sp v k,Dh,Ak];rfl
theorem YR{b sp:Int}{u v k:Nat}(hu:u < 36)(hv:v < 36)(h0:0<=sp)(h1:sp < (k:Int))(h:nm b sp u k=nm b sp v k):u=v:=by
 have e:(nm b sp u k).cps.toList=(nm b sp v k).cps.toList:=by rw [h]
 rw [xA,xA] at e;have hk:sp.toNat < k:=by omega
 have q:((List.range k).map λj=>sgn<|turn b sp u j)[sp.toNat]?=((List.range k).map λj=>sgn<|turn b sp v j)[sp.toNat]?:=by rw [e]
 rw [Aj,Aj,Dz hk] at q;have q2:sgn (turn b sp u sp.toNat)=sgn (turn b sp v sp.toNat):=Option.some.inj q;have q3:=Oc q2;unfold turn at q3;rw [show((sp.toNat:Nat):Int)=sp by omega,BP rfl,BP rfl] at q3;omega
theorem fold_list(c:Nat):∀(k:Nat) (acc:Array Nat),((List.replicate k (#[c]:Array Nat)).foldl (·++·) acc).toList=acc.toList++List.replicate k c
 | 0,acc=>by simp
 | k+1,acc=>by
  rw [List.replicate_succ,Dg,fold_list c k,List.replicate_succ];simp
theorem mul_list(c:Nat){i:Int}(h:1<=i):(Txt.mul ⟨#[c]⟩ i).cps.toList=List.replicate i.toNat c:=by
 unfold Txt.mul;rw [BK<|by omega]
 by_cases e:i=1
 ·subst e;rfl
 ·have e1:(i == 1 || (⟨#[c]⟩:Str).length == 0)=false:=by
   have:(i == 1)=false:=by simpa using e
   rw [this];rfl
  rw [e1];simp only [Bb,CV];have:=fold_list c i.toNat #[]
  simpa using this
def aQ(b:Int)(v:Nat):Str:=if b % 3=2 then Txt.mul ⟨#[sgn<|b / 64+(v:Int) / 8]⟩ (1+(v:Int) % 8) else nm b (b / 8 % (1+b % 8)) v (1+b % 8).toNat
theorem YS{b:Int}{u v:Nat}(hu:u < 36)(hv:v < 36)(h:aQ b u=aQ b v):u=v:=by
 have s0:0<=b % 8:=Bx _ (by decide);unfold aQ at h
 by_cases c:b % 3=2
 ·rw [BP c,BP c] at h;have u0:0<=(u:Int) % 8:=Bx _ (by decide);have v0:0<=(v:Int) % 8:=Bx _ (by decide);have e:(Txt.mul ⟨#[sgn<|b / 64+(u:Int) / 8]⟩<|1+(u:Int) % 8).cps.toList=(Txt.mul ⟨#[sgn<|b / 64+(v:Int) / 8]⟩<|1+(v:Int) % 8).cps.toList:=by rw [h]
  rw [mul_list _ (by omega),mul_list _<|by omega] at e;have l:=BZ List.length e;rw [Fg,Fg] at l;have hd:(List.replicate (1+(u:Int) % 8).toNat<|sgn<|b / 64+(u:Int) / 8)[0]?=(List.replicate (1+(v:Int) % 8).toNat<|sgn<|b / 64+(v:Int) / 8)[0]?:=by rw [e]
  rw [Ey,Ey,BP (by omega),BP<|by omega] at hd;have q:=Oc<|Option.some.inj hd;omega
 ·rw [BK c,BK c] at h;refine YR hu hv (Bx _<|by omega) ?_ h;have:=Ce (b / 8) (show 0 < 1+b % 8 by omega);omega
def namesOf(b:Int)(m:Nat):List Str:=(List.range m).map<|aQ b
theorem xB{b:Int}{m:Nat}(h:m<=36):(namesOf b m).Nodup:=by
 unfold namesOf;refine QT _ (R:=λi j=>i < j/\j < m) ?_ ?_
 ·rintro i j ⟨h1,h2⟩ e;have:=YS (by omega) (by omega) e;omega
 ·rw [Bs];intro i j hi hj eQ;simp only [Fa];simp at hj;exact⟨eQ,hj⟩
theorem xC(b:Int)(m:Nat):namesOf b (m+1)=namesOf b m++[aQ b m]:=by
 unfold namesOf;rw [Dh,Ak];rfl
theorem DE(b:Int)(m:Nat):(namesOf b m).length=m:=by unfold namesOf;simp
theorem YT{b:Int}{m i:Nat}(h:i < m):(namesOf b m)[i]?=some (aQ b i):=by
 unfold namesOf;rw [Aj,Dz h];rfl
end Nt
namespace E8
open PySem L2
def top(i:Nat):Stmt:=PySem.Challenge.pw_threewebs_k53_whole_kinds_by_walkers.main.body.getD i<|.Pass ⟨0,0,0,0⟩
abbrev xD:Stmt:=top 4
abbrev xE:Stmt:=top 5
abbrev DF:Stmt:=top 6
abbrev DH:Stmt:=top 7
abbrev DI:Stmt:=top 8
abbrev xF:Stmt:=top 9
abbrev xG:Stmt:=top 10
abbrev xH:Stmt:=top 11
abbrev xI:Stmt:=top 13
abbrev xJ:Stmt:=top 14
abbrev DJ:Stmt:=top 15
abbrev DL:Stmt:=top 16
abbrev DM:Stmt:=top 18
abbrev g9:Stmt:=top 19
abbrev xK:Stmt:=top 20
abbrev pB:Stmt:=top 22
abbrev pC:Stmt:=top 23
abbrev xL:Stmt:=top 24
abbrev ub:Stmt:=top 25
abbrev xM:Stmt:=top 27
abbrev xN:Stmt:=top 29
abbrev DS:Stmt:=top 30
abbrev DT:Stmt:=top 31
abbrev DU:Stmt:=top 33
abbrev DV:Stmt:=top 35
abbrev pD:Stmt:=top 36
abbrev DZ:Stmt:=top 37
abbrev D0:Stmt:=top 38
abbrev D1:Stmt:=top 39
abbrev D4:Stmt:=top 40
abbrev D5:Stmt:=top 41
abbrev pE:Stmt:=top 42
abbrev pF:Stmt:=top 43
abbrev xO:Stmt:=top 44
abbrev xP:Stmt:=top 45
abbrev xQ:Stmt:=top 46
abbrev D6:Stmt:=top 47
abbrev lW:Stmt:=top 48
structure Txt(mg:Str->Option Value):Prop where
 uc:mg "isinstance" = none
 jO:mg "tuple" = none
 YV:mg "str" = none
 pG:mg "int" = none
 ud:mg "bool" = none
 jP:mg "list" = none
 ni:mg "dict" = none
 pH:mg "set" = none
 enum:mg "enumerate" = none
 zip:mg "zip" = none
 len:mg "len" = none
 range:mg "range" = none
 sorted:mg "sorted" = none
 max:mg "max" = none
 all:mg "all" = none
 YW:mg "ValueError" = none
open Nt bC
theorem small{n:Nat}(h:n<=100000):n<=sizeLine:=by rw [DX];omega
theorem cz{n:Nat}(h:n<=100000):n < sizeLine:=by rw [DX];omega
theorem aT{H:Hp}{p:Addr}(h:H p=none)(o:HO):au H (upd H p o):=λb u q=>by rw [ay<|bu q h];exact q
theorem gm{H1 H2:Hp}{r:Addr}{o:HO}(s:au H1 H2)(h:H1 r=none):au H1 (upd H2 r o):=λb u q=>by
 rw [ay<|bu q h];exact s _ _ q
theorem Od{H:Hp}{l:Addr}{zs:List Str}{y:Str}:upd H l (.lst<|zs.map V.str++[V.str y])=upd H l (Ls<|zs++[y]):=by
 show _=upd H l (.lst<|(zs++[y]).map V.str);rw [Ak];rfl
def xR(K:PySem.W.Frag):Sp:=λvs H Q _=>∃(a:Addr) (ns:List Int) (k:Int),vs=[.ref a,.int k]/\aq K H a (ns.map V.int)/\0<=k/\∀ i,Q (.int i) H
def D7(K:PySem.W.Frag):Sp:=λvs H Q _=>∃(a:Addr) (ns:List Int) (k:Int),vs=[.ref a,.int k]/\aq K H a (ns.map V.int)/\0<=k/\∀ i H',au H H'->Q (.int i) H'
def D8:Sp:=λvs H Q _=>∃(b m:Int),vs=[.int b,.int m]/\0<=m/\m<=36/\∀ l H',au H H'->H l=none->H' l=some (Ls<|namesOf b m.toNat)->Q (.ref l) H'
def xS:Sp:=λvs H Q _=>∃(R:Addr) (as:List<|Addr×Addr) (n:Net),vs=[.ref R]/\ao H R as n/\n.length<=1000/\(ag n).length<=1000/\∀ d ks H',au H H'->H d=none->bP H' d n ks->Q (.ref d) H'
def D9:Sp:=λvs H Q _=>∃(R d t:Addr) (as:List<|Addr×Addr) (n:Net) (ks:List Str) (e:Nt.End),vs=[.ref R,.ref d,.ref t]/\ao H R as n/\bP H d n ks/\av n/\H t=some (Tp e)/\e∈ends n/\∀ u,H u=some (Tp<|other n e)->Q (.ref u) H
def EA:Sp:=λvs H Q _=>∃(R d t:Addr) (as:List<|Addr×Addr) (n:Net) (ks:List Str) (e:Nt.End),vs=[.ref R,.ref d,.ref t,.int 1]/\ao H R as n/\bP H d n ks/\av n/\H t=some (Tp e)/\e∈ends n/\∀ u H',au H H'->H u=none->H' u=some (Tp<|step n e)->Q (.ref u) H'
def EB:Sp:=λvs H Q _=>∃(R d t:Addr) (as:List<|Addr×Addr) (n:Net) (ks:List Str) (e:Nt.End),vs=[.ref R,.ref d,.ref t]/\ao H R as n/\bP H d n ks/\av n/\H t=some (Tp e)/\e∈ends n/\(ends n).length<=1000 /\
 ∀ l ts fs H',au H H'->H l=none->H' l=some (.lst<|ts.map V.ref)->Pd H' ts fs->fB n e fs->Q (.ref l) H'
section
variable{P:Program}{w:World}{K:PySem.W.Frag}{mg:Str->Option Value}{base:Heap}
theorem YX:ak ["_law_script","_law_k"] ["_law_script","_law_k"] (aW DV):=⟨rfl,rfl,rfl,by decide +kernel,rfl,by decide +kernel,by decide +kernel⟩
theorem YY{ns:List Int}{k:Int}(h0:0<=k)(h1:k < (ns.length:Int)):∃ v:Int,dY (ns.map V.int) k=some (.int v):=by
 have hj:k.toNat < ns.length:=by omega
 have q:=lr (xs:=ns.map V.int) (j:=k.toNat) (v:= .int ns[k.toNat]) (by simp [hj]);rw [show((k.toNat:Nat):Int)=k by omega] at q;exact⟨_,q⟩
theorem YZ{f:Addr}{fd:FuncData}(F:bx K "_law_cell_at" "_law_cell_at" DV f fd)(T:Txt mg):aF P w K mg base bJ 1 f fd ["_law_script","_law_k"] (xR K):=by
 refine F.gb YX (λvs H Q E h=>?_) λb0 H vs Q E hr h=>?_
 ·obtain⟨a,ns,k,rfl,_⟩:=h;rfl
 obtain⟨a,ns,k,rfl,hS,h0,q⟩:=h;show Run _ _ _ [some<|.ref a,some<|.int k] H;refine eY<|cE LA<|ae 1<|ce dF T.len DP<|ai<|ae 0<|az ⟨a,_,rfl,.inl hS,_,_,rfl,rfl,_,rfl,?_⟩;refine jF (λc=>?_) λc=>?_
 ·have c':=BX c;obtain⟨v,hv⟩:=YY (ns:=ns) h0 (by rw [Aa] at c';exact c');exact bO<|aU cN<|ae 0<|ae 1 ⟨a,_,_,.int v,rfl,rfl,hS,hv,q v⟩
 ·exact bo<|bO<|aD<|q 0
abbrev pI:List V:=[.int 48271,.int 69621,.int 16807,.int 39373,.int 21401,.int 60493,.int 87721,.int 31337]
abbrev gn:List V:=[.int 99991,.int 99989,.int 99971,.int 99961,.int 99929,.int 99923,.int 99907,.int 99901]
theorem eight{i:Int}(h0:0<=i)(h1:i < 8):i=0\/i=1\/i=2\/i=3\/i=4\/i=5\/i=6\/i=7:=by
 obtain⟨k,rfl⟩:=Int.eq_ofNat_of_zero_le h0;exact(by decide:∀ k:Fin 8,(k.1:Int)=0\/(k.1:Int)=1\/(k.1:Int)=2\/(k.1:Int)=3\/(k.1:Int)=4\/(k.1:Int)=5\/(k.1:Int)=6\/(k.1:Int)=7) ⟨k,Int.ofNat_lt.mp h1⟩
theorem Y0{i:Int}(h0:0<=i)(h1:i < 8):∃ m:Int,dY pI i=some (.int m)/\0 < m/\m < 100000:=by
 rcases eight h0 h1 with rfl | rfl | rfl | rfl | rfl | rfl | rfl | rfl <;> exact⟨_,rfl,by decide,by decide⟩
theorem Y1{i:Int}(h0:0<=i)(h1:i < 8):∃ m:Int,dY gn i=some (.int m)/\0 < m/\m < 100000:=by
 rcases eight h0 h1 with rfl | rfl | rfl | rfl | rfl | rfl | rfl | rfl <;> exact⟨_,rfl,by decide,by decide⟩
theorem nj:ak ["_law_script","_law_at","_law_by","_law_prime","_law_cell","_law_big_here","_law_k","_law_one"] ["_law_script","_law_at"] (aW pD):=⟨rfl,rfl,rfl,by decide +kernel,rfl,by decide +kernel,by decide +kernel⟩
theorem Y2{f:Addr}{fd:FuncData}(F:bx K "_law_big" "_law_big" pD f fd)(T:Txt mg)(G:aS P w K mg base 1 "_law_cell_at" ["_law_script","_law_k"]<|xR K) :
  aF P w K mg base bJ 2 f fd ["_law_script","_law_at"] (D7 K):=by
 refine F.gb nj (λvs H Q E h=>?_) λb0 H vs Q E hr h=>?_
 ·obtain⟨a,ns,k,rfl,_⟩:=h;rfl
 obtain⟨a,ns,k,rfl,hS,h0,q⟩:=h;have nd:=nj.nd;show Run _ _ _ [some<|.ref a,some<|.int k,none,none,none,none,none,none] H;refine a7 2 nd (dB<|ai<|aD<|ai<|aD<|ai<|aD<|ai<|aD<|ai<|aD<|ai<|aD<|ai<|aD<|ai<|aD<|az ⟨(by show 8<=sizeLine;decide),λp hp=>?_⟩);refine a7 3 nd (dB<|ai<|aD<|ai<|aD<|ai<|aD<|ai<|aD<|ai<|aD<|ai<|aD<|ai<|aD<|ai<|aD<|az ⟨(by show 8<=sizeLine;decide),λp2 iV=>?_⟩);have Y3:p≠p2:=by
  intro e;rw [<- e,aB] at iV;cases iV
 have s1:au H (upd H p<|.tup pI):=aT hp _;have s2:au H (upd (upd H p<|.tup pI) p2<|.tup gn):=s1.trans<|aT iV _;have e1:(upd (upd H p<|.tup pI) p2<|.tup gn) p=some (.tup pI):=by rw [ay Y3,aB]
 have e2:(upd (upd H p<|.tup pI) p2<|.tup gn) p2=some (.tup gn):=aB;generalize upd (upd H p<|.tup pI) p2 (.tup gn)=H2 at s2 e1 e2 ⊢;refine a7 4 nd<|bz G hr<|ai<|ae 0<|ai<|ae 1<|az ⟨a,ns,k,rfl,s2.seq hS,h0,λb=>?_⟩;show Run _ _ _ [some<|.ref a,some<|.int k,some<|.ref p,some<|.ref p2,some<|.int b,none,none,none] H2;refine MG True True (λR qq=>?_) (λ_=>?_) λ_=>bo ?_
 ·refine qZ (WM<|cE jC<|a9 cY<|ae 4<|aD ⟨_,_,rfl,rfl,(by show(0:Int) < 2;decide),aD ⟨rfl,_,rfl,?_⟩⟩);refine jF (λc=>?_) (λc=>qq false (λz=>nomatch z) λ_=>trivial);exact WN<|cE Vj<|ae 4<|a9 Lv<|aD<|aD ⟨_,_,rfl,rfl,⟨by decide,by decide,by decide⟩,_,_,rfl,rfl,_,rfl,qq _ (λ_=>trivial) λ_=>trivial⟩
 ·exact bO<|a9 iQ<|ae 4<|aD ⟨_,_,rfl,rfl,⟨by decide,by decide⟩,q _ _ s2⟩
 refine a7 5 nd<|aD ?_;refine lG T.range<|aD ⟨60,rfl,by decide,by decide,lH (n:=60) (λ_ σ H3=>H3=H2/\∃(x:Int) (u v:Option V),σ=[some<|.ref a,some<|.int k,some<|.ref p,some<|.ref p2,some<|.int b,some<|.int x,u,v]) ⟨rfl,0,_,_,rfl⟩ ?_ ?_⟩
 ·rintro i σ H3 hi ⟨rfl,x,u,v,rfl⟩;have i9:0<=(0+(i:Int)) % 9:=Bx _ (by decide);obtain⟨m1,f1,g1,g2⟩:=Y0 (i:=(0+(i:Int)) % 8) (Bx _<|by decide) (Ce _<|by decide);obtain⟨m2,f2,g3,g4⟩:=Y1 (i:=(0+(i:Int)) % 8) (Bx _<|by decide) (Ce _<|by decide);refine bg 6 nd ?_;refine a7 7 nd<|a9 gG<|a9 gG<|a9 cY<|bz G hr<|ai<|ae 0<|ai<|a9 gG<|ae 1<|a9 cY<|ae 6<|aD ?_;refine⟨_,_,rfl,rfl,(by show(0:Int) < 9;decide),_,_,rfl,rfl,az ⟨a,ns,_,rfl,s2.seq hS,?_,λc=>?_⟩⟩
  ·show 0<=k+(0+(i:Int)) % 9;omega
  refine a9 Lv (aD<|aD ⟨_,_,rfl,rfl,⟨by decide,by decide,by decide⟩,_,_,rfl,rfl,(by show(0:Int) < 10 ^ (18:Int).toNat;decide),aD ⟨_,_,rfl,rfl,?_⟩⟩);refine a9 wU<|ae 6<|ae 6 ?_;refine⟨_,_,rfl,rfl,.inl ⟨by omega,by omega⟩,_,_,rfl,rfl,?_⟩;refine a7 5 nd (a9 gG<|a9 wU<|ae 5<|aD ⟨_,_,rfl,rfl,.inr ⟨by decide,by decide⟩,?_⟩);refine a9 cY (a9 cY<|a9 wU<|ae 7<|aU bF<|ae 2<|a9 cY<|ae 6<|aD ⟨_,_,rfl,rfl,(by show(0:Int) < 8;decide),p,_,_,_,rfl,rfl,aI.of e1,f1,_,_,rfl,rfl,.inr ⟨by omega,by omega⟩,?_⟩);refine aU bF (ae 3<|a9 cY<|ae 6<|aD ⟨_,_,rfl,rfl,(by show(0:Int) < 8;decide),p2,_,_,_,rfl,rfl,aI.of e2,f2,_,_,rfl,rfl,g3,aD ⟨_,_,rfl,rfl,(by show(0:Int) < 7919;decide),_,_,rfl,rfl,?_⟩⟩);exact bo ⟨rfl,_,_,_,rfl⟩
 ·rintro σ H3 ⟨rfl,x,u,v,rfl⟩;exact bO<|ae 5<|q x _ s2
abbrev NN:List Str:=["_law_stem","_law_many","_law_signs","_law_size","_law_spot","_law_names_here","_law_v","_law_name","_law_k","_law_turn"]
theorem iA:ak NN ["_law_stem","_law_many"] (aW DZ):=⟨rfl,rfl,rfl,by decide +kernel,rfl,by decide +kernel,by decide +kernel⟩
theorem Y4{f:Addr}{fd:FuncData}(F:bx K "_law_names" "_law_names" DZ f fd)(T:Txt mg):aF P w K mg base bJ 1 f fd ["_law_stem","_law_many"] D8:=by
 refine F.gb iA (λvs H Q E h=>?_) λb0 H vs Q E hr h=>?_
 ·obtain⟨b,m,rfl,_⟩:=h;rfl
 obtain⟨b,m,rfl,m0,m1,q⟩:=h;have nd:=iA.nd;have s0:0<=b % 8:=Bx _ (by decide);have s1:b % 8 < 8:=Ce _ (by decide);show Run _ _ _ [some<|.int b,some<|.int m,none,none,none,none,none,none,none,none] H;refine a7 2 nd<|iX ?_;refine a7 3 nd (a9 gG<|aD<|a9 cY<|ae 0<|aD ⟨_,_,rfl,rfl,(by show(0:Int) < 8;decide),_,_,rfl,rfl,?_⟩);refine a7 4 nd (a9 cY<|a9 iQ<|ae 0<|aD ⟨_,_,rfl,rfl,⟨by decide,by decide⟩,ae 3 ⟨_,_,rfl,rfl,(by show 0 < 1+b % 8;omega),?_⟩⟩);refine a7 5 nd<|d3<|az ⟨Z0,λl hl=>?_⟩;show Run _ _ _ [some<|.int b,some<|.int m,some<|.str lets,some<|.int<|1+b % 8,some<|.int<|b / 8 % (1+b % 8),some<|.ref l,none,none,none,none] _;have spE:b / 8 % (1+b % 8)=b / 8 % (1+b % 8):=rfl;refine lG T.range<|ae 1 ⟨m,rfl,by omega,by omega,lH (n:=m.toNat) (λi σ H3=>H3=upd H l (Ls<|namesOf b i)/\∃ u1 u2 u3 u4,σ=[some<|.int b,some<|.int m,some<|.str lets,some<|.int<|1+b % 8,some<|.int<|b / 8 % (1+b % 8),some<|.ref l,u1,u2,u3,u4]) ⟨rfl,_,_,_,_,rfl⟩ ?_ ?_⟩
 ·rintro i σ H3 hi ⟨rfl,u1,u2,u3,u4,rfl⟩;refine bg 6 nd ?_;refine a7 7 nd<|iX ?_;refine lG T.range<|ae 3 ⟨_,rfl,by omega,by omega,lH (n:=(1+b % 8).toNat) (λj σ H4=>H4=upd H l (Ls<|namesOf b i)/\∃(u3 u4:Option V),σ=[some<|.int b,some<|.int m,some<|.str lets,some<|.int<|1+b % 8,some<|.int<|b / 8 % (1+b % 8),some<|.ref l,some<|.int<|0+(i:Int),some<|.str<|nm b (b / 8 % (1+b % 8)) i j,u3,u4]) ⟨rfl,_,_,rfl⟩ ?_ ?_⟩
  ·rintro j σ H4 hj ⟨rfl,v3,v4,rfl⟩;have t0:0<=b / 7 % 5:=Bx _ (by decide);have t1:b / 7 % 5 < 5:=Ce _ (by decide);have nl:(nm b (b / 8 % (1+b % 8)) i j).length=j:=by
    have:=BZ List.length<|xA b (b / 8 % (1+b % 8)) i j;show(nm b (b / 8 % (1+b % 8)) i j).cps.size=j
    simpa using this
   refine bg 8 nd ?_;refine a7 9 nd (a9 gG<|a9 iQ<|ae 0<|aD ⟨_,_,rfl,rfl,⟨by decide,by decide⟩,a9 wU<|ae 8<|a9 cY<|a9 iQ<|ae 0<|aD ⟨_,_,rfl,rfl,⟨by decide,by decide⟩,aD ⟨_,_,rfl,rfl,(by show(0:Int) < 5;decide),?_⟩⟩⟩);refine⟨_,_,rfl,rfl,.inr ⟨by omega,by omega⟩,_,_,rfl,rfl,?_⟩;refine Nz ((0+(j:Int))=b / 8 % (1+b % 8)) (¬(0+(j:Int))=b / 8 % (1+b % 8)) (λσ' H'=>H'=upd H l (Ls<|namesOf b i)/\σ'=[some<|.int b,some<|.int m,some<|.str lets,some<|.int<|1+b % 8,some<|.int<|b / 8 % (1+b % 8),some<|.ref l,some<|.int<|0+(i:Int),some<|.str<|nm b (b / 8 % (1+b % 8)) i j,some<|.int<|0+(j:Int),some<|.int<|turn b (b / 8 % (1+b % 8)) i j]) (λR qq=>?_) (λhc=>?_) (λhc=>bo ⟨rfl,?_⟩) ?_
   ·refine cE jC<|ae 8<|ae 4 ⟨rfl,_,rfl,?_⟩
    by_cases hc:(0+(j:Int))=b / 8 % (1+b % 8)
    ·rw [BW (show V.int (0+(j:Int))=V.int (b / 8 % (1+b % 8)) by rw [hc])];exact qq true (λ_=>hc) λh=>by cases h
    ·rw [BR λh=>hc<|V.int.inj h];exact qq false (λh=>by cases h) λ_=>hc
   ·refine a7 9 nd<|a9 gG<|ae 9<|ae 6 ⟨_,_,rfl,rfl,bo ⟨rfl,?_⟩⟩;have e:b / 64+(0+(j:Int)) * (b / 7 % 5)+(0+(i:Int))=turn b (b / 8 % (1+b % 8)) i j:=by
     unfold turn;rw [BP (by omega),Dw,Dw]
    rw [<- e];rfl
   ·have e:b / 64+(0+(j:Int)) * (b / 7 % 5)=turn b (b / 8 % (1+b % 8)) i j:=by
     unfold turn;rw [BK (by omega),Dw,Int.add_zero]
    rw [<- e];rfl
   ·rintro σ' H' ⟨rfl,rfl⟩;refine a7 7 nd<|a9 Vr<|ae 7<|aU L4<|ae 2<|a9 cY<|ae 9<|aD ⟨_,_,rfl,rfl,(by show(0:Int) < 36;decide),lets,_,sgn<|turn b (b / 8 % (1+b % 8)) i j,rfl,rfl,by decide +kernel,DC _,_,_,rfl,rfl,small (by show(nm b (b / 8 % (1+b % 8)) i j).length+1<=100000;omega),bo ⟨rfl,_,_,rfl⟩⟩
  ·rintro σ H4 ⟨rfl,v3,v4,rfl⟩;refine Nz (b % 3=2) (¬ b % 3=2) (λσ' H'=>H'=upd H l (Ls<|namesOf b i)/\σ'=[some<|.int b,some<|.int m,some<|.str lets,some<|.int<|1+b % 8,some<|.int<|b / 8 % (1+b % 8),some<|.ref l,some<|.int<|0+(i:Int),some<|.str<|aQ b i,v3,v4]) (λR qq=>?_) (λhc=>?_) (λhc=>bo ⟨rfl,?_⟩) ?_
   ·refine cE jC<|a9 cY<|ae 0<|aD ⟨_,_,rfl,rfl,(by show(0:Int) < 3;decide),aD ⟨rfl,_,rfl,?_⟩⟩
    by_cases hc:b % 3=2
    ·rw [BW (show V.int (b % 3)=V.int 2 by rw [hc])];exact qq true (λ_=>hc) λh=>by cases h
    ·rw [BR λh=>hc<|V.int.inj h];exact qq false (λh=>by cases h) λ_=>hc
   ·have e0:0<=(0+(i:Int)) % 8:=Bx _ (by decide);have e1:(0+(i:Int)) % 8 < 8:=Ce _ (by decide);refine a7 7 nd (a9 Ww<|aU L4<|ae 2<|a9 cY<|a9 gG<|a9 iQ<|ae 0<|aD ⟨_,_,rfl,rfl,⟨by decide,by decide⟩,a9 iQ<|ae 6<|aD ⟨_,_,rfl,rfl,⟨by decide,by decide⟩,_,_,rfl,rfl,aD ⟨_,_,rfl,rfl,(by show(0:Int) < 36;decide),lets,_,sgn<|b / 64+(0+(i:Int)) / 8,rfl,rfl,by decide +kernel,DC _,?_⟩⟩⟩);refine a9 gG (aD<|a9 cY<|ae 6<|aD ⟨_,_,rfl,rfl,(by show(0:Int) < 8;decide),_,_,rfl,rfl,?_⟩);refine⟨_,_,rfl,rfl,by omega,by omega,?_,bo ⟨rfl,?_⟩⟩
    ·show 1 * _<=_;omega
    ·have e:Txt.mul ⟨#[sgn<|b / 64+(0+(i:Int)) / 8]⟩ (1+(0+(i:Int)) % 8)=aQ b i:=by
      unfold aQ;rw [BP hc,Dw]
     rw [<- e];rfl
   ·have e:nm b (b / 8 % (1+b % 8)) i (1+b % 8).toNat=aQ b i:=by
     unfold aQ;rw [BK hc]
    rw [<- e]
   ·rintro σ' H' ⟨rfl,rfl⟩;refine gZ<|lV<|ae 5 ⟨l,rfl,⟨_,aB⟩,ae 7 ⟨_,aB,?_,?_⟩⟩
    ·rw [Aa,DE];exact cz<|by omega
    ·rw [zu];refine bo ⟨?_,_,_,_,_,rfl⟩;rw [xC];exact Od
 ·rintro σ H3 ⟨rfl,u1,u2,u3,u4,rfl⟩;exact bO<|ae 5<|q l _ (aT hl _) hl aB
theorem Y5{H:Hp}{d:Addr}{kvs:List (Key×V)}(h:H d=some (.dK kvs)):oH K "dict" (.ref d) H:=Or.inr<|Or.inr<|Or.inl ⟨rfl,Or.inl ⟨kvs,h⟩⟩
abbrev NS:List Str:=["_law_rows","_law_seats_here","_law_r","_law_place"]
theorem iB:ak NS ["_law_rows"] (aW D0):=⟨rfl,rfl,rfl,by decide +kernel,rfl,by decide +kernel,by decide +kernel⟩
theorem Y6{f:Addr}{fd:FuncData}(F:bx K "_law_seats" "_law_seats" D0 f fd)(T:Txt mg):aF P w K mg base bJ 1 f fd ["_law_rows"] xS:=by
 refine F.gb iB (λvs H Q E h=>?_) λb0 H vs Q E hr h=>?_
 ·obtain⟨R,as,n,rfl,_⟩:=h;rfl
 obtain⟨R,as,n,rfl,hR,hn,ht,q⟩:=h;have nd:=iB.nd;have bY:=hR.len;show Run _ _ _ [some<|.ref R,none,none,none] H;refine a7 1 nd<|Dt λd hd=>?_;refine lG T.range (ce dF T.len DP<|ai<|ae 0<|az ⟨R,_,rfl,.inl<|aq.of<|aT hd _ _ _ hR.lst,_,rfl,by omega,by rw [Aa];omega,?_⟩);rw [Aa,bY,Bo];refine lH (λr σ H3=>∃ kvs ks A u1 u2,a8 H H3 d (bh<|n.take r) kvs ks A/\σ=[some<|.ref R,some<|.ref d,u1,u2]) ⟨_,_,_,_,_,a8.start hd,rfl⟩ ?_ ?_
 ·rintro r σ H3 hi ⟨kvs,ks,A',u1,u2,S,rfl⟩;rw [Dw];refine bg 2 nd ?_;obtain⟨a,ea,d7,et,el,er⟩:=(hR.same S.same).at hi;refine lG T.range<|ce dF T.len DP<|ai<|aU bF<|aU cN<|ae 0<|ae 2 ⟨R,_,_,.ref a.1,rfl,rfl,aq.of<|S.same _ _ hR.lst,d7,aD ⟨a.1,_,_,.ref a.2,rfl,rfl,aI.of et,rfl,az ⟨a.2,_,rfl,.inl<|aq.of el,_,rfl,by omega,?_,?_⟩⟩⟩
  ·have:(row n r).length<=1000:=by
    have h1:(row n r).length<=(ag n).length:=by
     exact js n r
    omega
   rw [Aa];omega
  rw [Aa,Bo];refine lH (λp σ H4=>∃ kvs ks A u2,a8 H H4 d (bh (n.take r)++bq r ((row n r).take p) 0) kvs ks A/\σ=[some<|.ref R,some<|.ref d,some<|.int (r:Int),u2]) ⟨kvs,ks,A',_,by simpa [bq] using S,rfl⟩ ?_ ?_
  ·rintro p σ H4 hp ⟨kvs,ks,A',u2,S,rfl⟩;rw [Dw];refine bg 3 nd ?_;obtain⟨a,ea,d7,et,el,er⟩:=(hR.same S.same).at hi;have hz:(row n r)[p]?=some (row n r)[p]:=Ab hp;generalize (row n r)[p]=z at hz;have next:bh (n.take r)++bq r ((row n r).take<|p+1) 0=(bh (n.take r)++bq r ((row n r).take p) 0)++[(z,(r,p))]:=by
    rw [pA hz,Aq]
   have hlen:kvs.length < sizeLine:=by
    have h1:ks.length<=1000:=by
     refine By (aX (b:=ag n) S.nodup λy hy=>?_) ht;have h2:=(S.mem y).mp hy;cases hA:A' y with
     | none=>rw [hA] at h2;cases h2
     | some pr=>
      obtain⟨a2,kN⟩:=pr;have h3:=S.some' y a2 kN hA;unfold bL at h3;obtain⟨x,hx⟩:=Ef _ h3;obtain⟨⟨y2,e2⟩,hm,_⟩:=An.mp hx;rw [Ba,DN] at hm;obtain⟨hm,rfl⟩:=hm;have:(y2,e2)∈bh n:=by
       rcases Am.mp hm with hm | hm
       ·have q1:=aV.mp hm;refine aV.mpr ?_;have q2:=cK q1;unfold aN row at q1 ⊢;rw [Bk] at q2;rwa [Do<|by omega] at q1
       ·have q1:=bK.mp hm;refine aV.mpr ?_;unfold aN;rw [q1.1];have q3:=q1.2.2;rw [VF] at q3;have q4:=(Ac.mp q3).1;rw [Bk] at q4;rwa [Do<|by omega] at q3
      exact dI<|aV.mp this
    have h2:=BZ List.length S.keys;rw [Aa,Aa] at h2;exact cz<|by omega
   refine gZ<|lV<|C8 PySem.F.plainAttrs_dict PySem.F.slot_dict_setdefault PySem.F.type_dict_setdefault Yl<|ae 1 ⟨Y5 S.dict,aU cN<|aU bF<|aU cN<|ae 0<|ae 2 ⟨R,_,_,.ref a.1,rfl,rfl,aq.of<|S.same _ _ hR.lst,d7,aD ⟨a.1,_,_,.ref a.2,rfl,rfl,aI.of et,rfl,ae 3 ⟨a.2,_,_,.str z,rfl,rfl,aq.of el,xt hz,?_⟩⟩⟩⟩;refine d3<|az ⟨Z0,λl0 lP=>?_⟩;have iy:d≠l0:=bu S.dict lP;refine⟨d,kvs,Sum.inr z,.ref l0,rfl,rfl,by rw [ay iy];exact S.dict,hlen,?_⟩;cases hA:A' z with
   | some pr=>
    obtain⟨a2,kN⟩:=pr;obtain⟨q1,q2,q3,q4⟩:=S.at' z a2 kN hA;have xv:a2≠l0:=bu q3 lP;refine .inl ⟨.ref a2,by rw [S.val z,hA];rfl,a2,rfl,⟨_,by rw [ay xv];exact q3⟩,?_⟩;refine dB<|ai<|ae 2<|ai<|ae 3<|az ⟨Z2,λt kJ=>?_⟩;have xx:a2≠t:=λe=>by rw [<- e,ay xv,q3] at kJ;cases kJ
    refine⟨kN.map V.ref,by rw [ay xx,ay xv];exact q3,?_,?_⟩
    ·rw [Aa,q4.length];have h1:(bL (bh (n.take r)++bq r ((row n r).take p) 0) z).length<=100000:=by
      unfold bL;rw [Aa];refine By (Dm _ _) ?_;rw [Af];have h2:(bh<|n.take r).length<=1000:=by
       have:=BZ List.length<|kL (n.take r) 0;rw [Aa] at this;unfold bh;rw [this];exact By (N8 n r) ht
      have h3:(bq r ((row n r).take p) 0).length<=1000:=by
       unfold bq;rw [Aa,List.length_zipIdx,Bk];have h1:(row n r).length<=(ag n).length:=by
        exact js n r
       omega
      omega
     exact cz h1
    ·refine bo ⟨kvs,ks,(λy=>if y=z then some (a2,kN++[t]) else A' y),_,?_,rfl⟩;rw [next];exact S.old (e:=(r,p)) hA lP kJ
   | none=>
    refine .inr ⟨by rw [S.val z,hA];rfl,l0,rfl,⟨_,by rw [ay iy.symm];exact aB⟩,?_⟩;refine dB<|ai<|ae 2<|ai<|ae 3<|az ⟨Z2,λt kJ=>?_⟩;have py:l0≠t:=λe=>by rw [<- e,ay iy.symm,aB] at kJ;cases kJ
    refine⟨[],by rw [ay py,ay iy.symm,aB],by show 0 < sizeLine;decide,?_⟩;refine bo ⟨putK kvs (Sum.inr z)<|.ref l0,ks++[z],(λy=>if y=z then some (l0,[t]) else A' y),_,?_,rfl⟩;rw [next];exact S.new (e:=(r,p)) hA lP kJ
  ·rintro σ H4 ⟨kvs,ks,A',u2,S,rfl⟩;refine bo ⟨kvs,ks,A',_,_,?_,rfl⟩;rw [rD hi];rwa [Ca] at S
 ·rintro σ H3 ⟨kvs,ks,A',u1,u2,S,rfl⟩;rw [Ca] at S;exact bO<|ae 1<|q d ks H3 S.same S.free S.whole
abbrev NO:List Str:=["_law_rows","_law_seats_here","_law_end","_law_pair"]
theorem iC:ak NO ["_law_rows","_law_seats_here","_law_end"] (aW D1):=⟨rfl,rfl,rfl,by decide +kernel,rfl,by decide +kernel,by decide +kernel⟩
theorem Y7{f:Addr}{fd:FuncData}(F:bx K "_law_other" "_law_other" D1 f fd)(T:Txt mg):aF P w K mg base bJ 1 f fd ["_law_rows","_law_seats_here","_law_end"] D9:=by
 refine F.gb iC (λvs H Q E h=>?_) λb0 H vs Q E hr h=>?_
 ·obtain⟨R,d,t,as,n,ks,e,rfl,_⟩:=h;rfl
 obtain⟨R,d,t,as,n,ks,e,rfl,hR,hS,hT,ht,he,q⟩:=h;have nd:=iC.nd;have hu:=hr.f7;obtain⟨z,hz⟩:=af.mp he;have aY:=cK hz;obtain⟨a,ea,d7,et,el,er⟩:=hR.at aY;obtain⟨kvs,h1,h2,h3⟩:=hS.dict;obtain⟨pa,ts,v1,v2,v3⟩:=h3 z<|dI hz;obtain⟨x,y,hp,EC,rp⟩:=nh hT hz;rw [hp] at v3;cases v3 with
 | cons x1 v3=>
 cases v3 with
 | cons y1 v3=>
 cases v3;rename_i tx ty;show Run _ _ _ [some<|.ref R,some<|.ref d,some<|.ref t,none] H;have hG:=hr.u1;refine a7 3 nd<|g8 hG<|ae 1<|aU cN<|aU bF<|aU cN<|ae 0<|aU bF<|ae 2<|aD ⟨t,_,_,.int (e.1:Int),rfl,rfl,aI.of ht,rfl,R,_,_,.ref a.1,rfl,rfl,aq.of hR.lst,d7,aD ⟨a.1,_,_,.ref a.2,rfl,rfl,aI.of et,rfl,?_⟩⟩;refine aU bF (ae 2<|aD ⟨t,_,_,.int (e.2:Int),rfl,rfl,aI.of ht,rfl,a.2,_,_,.str z,rfl,rfl,aq.of el,xt hz,d,.ref pa,rfl,by rw [<- v1];exact bn.k (k:=Sum.inr z) h1,?_⟩);show Run _ _ _ [some<|.ref R,some<|.ref d,some<|.ref t,some<|.ref pa] H;refine bO<|aU cN<|ae 3<|mY NX T.pG MK<|ai<|tR (NM hu)<|aU cN<|ae 3<|aD ⟨pa,_,_,.ref tx,rfl,rfl,aq.of v2,rfl,ae 2 ⟨1,_,by decide,YM x1 ht,?_⟩⟩
 by_cases c:x=e
 ·rw [BW c];refine az ⟨_,rfl,pa,[.ref tx,.ref ty],1,.ref ty,rfl,rfl,aq.of v2,rfl,q ty ?_⟩;have e1:other n e=y:=by unfold other;simp only [hz,hp];simp [c]
  rw [e1];exact y1
 ·rw [BR c];refine az ⟨_,rfl,pa,[.ref tx,.ref ty],0,.ref tx,rfl,rfl,aq.of v2,rfl,q tx ?_⟩;have e1:other n e=x:=by unfold other;simp only [hz,hp];simp [c]
  rw [e1];exact x1
abbrev NT:List Str:=["_law_rows","_law_seats_here","_law_end","_law_turn","_law_other_here"]
theorem jQ:ak NT ["_law_rows","_law_seats_here","_law_end","_law_turn"] (aW D4):=⟨rfl,rfl,rfl,by decide +kernel,rfl,by decide +kernel,by decide +kernel⟩
theorem Y8{f:Addr}{fd:FuncData}(F:bx K "_law_step" "_law_step" D4 f fd)(T:Txt mg)(G:aS P w K mg base 1 "_law_other" ["_law_rows","_law_seats_here","_law_end"] D9) :
  aF P w K mg base bJ 2 f fd ["_law_rows","_law_seats_here","_law_end","_law_turn"] EA:=by
 refine F.gb jQ (λvs H Q E h=>?_) λb0 H vs Q E hr h=>?_
 ·obtain⟨R,d,t,as,n,ks,e,rfl,_⟩:=h;rfl
 obtain⟨R,d,t,as,n,ks,e,rfl,hR,hS,hT,ht,he,q⟩:=h;have nd:=jQ.nd;have ho:=cX hT he;obtain⟨z,hz⟩:=af.mp ho;have aY:=cK hz;have iR:=gM hz;obtain⟨a,ea,d7,et,el,er⟩:=hR.at aY;show Run _ _ _ [some<|.ref R,some<|.ref d,some<|.ref t,some<|.int 1,none] H;refine a7 4 nd<|bz G hr<|ai<|ae 0<|ai<|ae 1<|ai<|ae 2<|az ⟨R,d,t,as,n,ks,e,rfl,hR,hS,hT,ht,he,λu hu=>?_⟩;show Run _ _ _ [some<|.ref R,some<|.ref d,some<|.ref t,some<|.int 1,some<|.ref u] H;refine bO<|dB<|ai<|aU bF<|ae 4<|aD ⟨u,_,_,.int ((other n e).1:Int),rfl,rfl,aI.of hu,rfl,?_⟩;refine ai<|a9 cY<|a9 gG<|aU bF<|ae 4<|aD ⟨u,_,_,.int ((other n e).2:Int),rfl,rfl,aI.of hu,rfl,ae 3 ⟨_,_,rfl,rfl,?_⟩⟩;refine ce dF T.len DP<|ai<|aU bF<|aU cN<|ae 0<|aU bF<|ae 4<|aD ⟨u,_,_,.int ((other n e).1:Int),rfl,rfl,aI.of hu,rfl,R,_,_,.ref a.1,rfl,rfl,aq.of hR.lst,d7,aD ⟨a.1,_,_,.ref a.2,rfl,rfl,aI.of et,rfl,az ⟨a.2,_,rfl,.inl<|aq.of el,?_⟩⟩⟩;rw [Aa];refine⟨_,_,rfl,rfl,by omega,az ⟨Z2,λp hp=>?_⟩⟩;refine q p _ (aT hp _) hp ?_;rw [aB];unfold Nt.step Nt.left;show some (HO.tup [.int ((other n e).1:Int),.int<|(((other n e).2:Int)+1) % ((row n (other n e).1).length:Int)])=some (HO.tup [.int ((other n e).1:Int),.int ((((other n e).2+1) % (row n (other n e).1).length:Nat):Int)]);rw [Int.natCast_emod];rfl
abbrev NF:List Str:=["_law_rows","_law_seats_here","_law_end","_law_face_here","_law_here"]
theorem jR:ak NF ["_law_rows","_law_seats_here","_law_end"] (aW D5):=⟨rfl,rfl,rfl,by decide +kernel,rfl,by decide +kernel,by decide +kernel⟩
def ga(n:Net)(e:Nt.End)(j:Nat):List Nt.End:=(List.range j).map λi=>it (step n) i e
theorem Y9(n:Net)(e:Nt.End)(j:Nat):ga n e (j+1)=ga n e j++[it (step n) j e]:=by
 unfold ga;rw [Dh,Ak];rfl
theorem Y'{f:Addr}{fd:FuncData}(F:bx K "_law_face" "_law_face" D5 f fd)(T:Txt mg)(G:aS P w K mg base 2 "_law_step" ["_law_rows","_law_seats_here","_law_end","_law_turn"] EA) :
  aF P w K mg base bJ 3 f fd ["_law_rows","_law_seats_here","_law_end"] EB:=by
 refine F.gb jR (λvs H Q E h=>?_) λb0 H vs Q E hr h=>?_
 ·obtain⟨R,d,t,as,n,ks,e,rfl,_⟩:=h;rfl
 obtain⟨R,d,t,as,n,ks,e,rfl,hR,hS,hT,ht,he,hb,q⟩:=h;have nd:=jR.nd;have hu:=hr.f7;obtain⟨k,k0,k1,k2⟩:=xr (f:=step n) (S:=ends n) (λa ha=>rC hT ha) (λa ha b hb=>N7 hT ha hb) he;show Run _ _ _ [some<|.ref R,some<|.ref d,some<|.ref t,none,none] H;refine a7 3 nd<|d3<|ai<|ae 2<|az ⟨Z1,λl hl=>?_⟩;have g1:=aT hl<|.lst [.ref t];refine a7 4 nd<|bz G hr<|ai<|ae 0<|ai<|ae 1<|ai<|ae 2<|ai<|aD<|az ⟨R,d,t,as,n,ks,e,rfl,hR.same g1,hS.same g1,hT,g1 _ _ ht,he,λu H1 s1 nu eu=>?_⟩;show Run _ _ _ [some<|.ref R,some<|.ref d,some<|.ref t,some<|.ref l,some<|.ref u] H1;refine C9 (λm σ H2=>∃(j:Nat) (ts:List Addr) (u:Addr),m=k - j/\0 < j/\j<=k/\au H H2/\H2 l=some (.lst<|ts.map V.ref)/\Pd H2 ts (ga n e j)/\H2 u=some (Tp<|it (step n) j e)/\(∀ i,0 < i->i < j->it (step n) i e≠e)/\σ=[some<|.ref R,some<|.ref d,some<|.ref t,some<|.ref l,some<|.ref u])
  (m0:=k - 1) ⟨1,[t],u,rfl,Fm,k0,g1.trans s1,s1 _ _ aB,.cons (s1 _ _<|g1 _ _ ht) .nil,eu,λi h1 h2=>by omega,rfl⟩ ?_
 rintro m σ H2 ⟨j,ts,u,rfl,j0,j1,sH,el,ep,eu,hf,rfl⟩;refine cE (xm hu) (ae 4<|ae 2 ⟨1,_,by decide,YN eu<|sH _ _ ht,_,rfl,?_⟩);have pl:=ep.length;have ol:(ga n e j).length=j:=by unfold ga;simp
 by_cases c:it (step n) j e=e
 ·rw [BW c];refine bG (bO<|ae 3<|q l ts (ga n e j) H2 sH hl el ep ⟨by omega,by omega,λi hi=>?_,by rw [ol];exact c,λi h1 h2=>hf i h1<|by omega⟩);unfold ga;rw [Aj,Dz<|by omega];rfl
 ·rw [BR c];have jk:j < k:=by
   rcases Di j k with h | h
   ·exact h
   ·have:j=k:=by omega
    subst this;exact absurd k2 c
  refine cA (gZ<|lV<|ae 3 ⟨l,rfl,⟨_,el⟩,ae 4 ⟨_,el,by rw [Aa];exact cz (by omega),?_⟩⟩);have s2:au H (upd H2 l<|.lst<|ts.map V.ref++[.ref u]):=gm sH hl;have kt:∀ b f,H2 b=some (Tp f)->(upd H2 l<|.lst<|ts.map V.ref++[.ref u]) b=some (Tp f):=λb f h=>by
   rw [ay<|ua h el];exact h
  have Oe:=kt u _ eu;refine a7 4 nd<|bz G hr<|ai<|ae 0<|ai<|ae 1<|ai<|ae 4<|ai<|aD<|az ⟨R,d,u,as,n,ks,it (step n) j e,rfl,hR.same s2,hS.same s2,hT,Oe,jN (λa ha=>rC hT ha) he j,λv H3 s3 nv ev=>?_⟩;refine bo ⟨k - (j+1),by omega,j+1,ts++[u],v,rfl,Gc _,jk,s2.trans s3,?_,?_,ev,λi h1 h2=>?_,rfl⟩
  ·rw [Ak];exact s3 _ _ aB
  ·rw [Y9];exact(ep.keep λb f h=>s3 _ _<|kt b f h).append<|.cons (s3 _ _ Oe) .nil
  ·rcases Nat.lt_succ_iff_lt_or_eq.mp h2 with h | h
   ·exact hf i h1 h
   ·rw [h];exact c
end
end E8
namespace Nt
open PySem L2
def Full(n:Net):Prop:=(∃ nm,n=[(nm,[])])\/(n≠[]/\∀ i,i < n.length->row n i≠[])
def eR(n:Net)(c:End):Prop:=c.1 < n.length/\c.2 < max 1 (row n c.1).length
def ins(n:Net)(c:End)(z:Str):Net:=n.modify c.1 λr=>(r.1,r.2.take c.2++z :: r.2.drop c.2)
theorem gN(n:Net)(c:End)(z:Str):(ins n c z).length=n.length:=by unfold ins;rw [List.length_modify]
theorem ED(n:Net)(c:End)(z:Str):(ins n c z).map (·.1)=n.map (·.1):=by
 unfold ins;refine Dl λi=>?_;rw [Aj,Aj,Fn];cases n[i]? with
 | none=>rfl
 | some r=>by_cases h:c.1=i <;> simp [h]
theorem rE(n:Net)(c:End)(z:Str)(i:Nat)(hc:c.1 < n.length):row (ins n c z) i=if c.1=i then(row n i).take c.2++z :: (row n i).drop c.2 else row n i:=by
 unfold row ins;rw [Fn]
 by_cases h:c.1=i
 ·subst h;rw [Ab hc];simp
 ·rw [BK h];cases n[i]? with
  | none=>simp [h]
  | some r=>simp [h]
theorem kP:∀(n:Net) (c:End) (z:Str),c.1 < n.length->(ag<|ins n c z).Perm (z :: ag n)
 | [],c,z,h=>by simp at h
 | a :: n,(0,p),z,h=>by
  unfold ins ag;simp only [List.modify_zero_cons,Cf];have:(a.2.take p++z :: a.2.drop p).Perm (z :: a.2):=by
   refine List.perm_middle.trans ?_;rw [Db]
  exact this.append_right _
 | a :: n,(i+1,p),z,h=>by
  have ih:=kP n (i,p) z (by simpa using h);unfold ins ag at ih ⊢;simp only [List.modify_succ_cons,Cf];refine(ih.append_left a.2).trans ?_;exact List.perm_middle
theorem EE{n:Net}{c:End}{z:Str}(F:Full n)(hc:c.1 < n.length):n.length=1\/(∀ i,i < n.length->row n i≠[])->(∀ i,i < (ins n c z).length->row (ins n c z) i≠[])/\ins n c z≠[]:=by
 intro h;have hl:=gN n c z;refine⟨λi hi=>?_,λe=>?_⟩
 ·rw [rE n c z i hc]
  by_cases q:c.1=i
  ·rw [BP q];simp
  ·rw [BK q]
   rcases h with h | h
   ·rw [hl] at hi;omega
   ·exact h i<|by omega
 ·rw [e] at hl;simp at hl;omega
theorem Full.some{n:Net}(F:Full n):n≠[]:=by
 rcases F with ⟨nm,rfl⟩ | h
 ·simp
 ·exact h.1
theorem Full.either{n:Net}(F:Full n):n.length=1\/(∀ i,i < n.length->row n i≠[]):=by
 rcases F with ⟨nm,rfl⟩ | h
 ·exact .inl rfl
 ·exact .inr h.2
theorem Full.cL{n:Net}(F:Full n)(h0:row n 0≠[]){c:End}(hc:eR n c):c∈ends n:=by
 rcases F with ⟨nm,rfl⟩ | h
 ·exact absurd rfl h0
 ·have:=h.2 c.1 hc.1;have hp:0 < (row n c.1).length:=Dk.mpr this;have aY:c.2 < (row n c.1).length:=by
   have:=hc.2;omega
  exact af.mpr<|xq aY
theorem Za{n:Net}{e:End}(h:e∈ends n):eR n e:=by
 obtain⟨z,h⟩:=af.mp h;have:=gM h;exact⟨cK h,by omega⟩
def pJ(H H':Hp)(bad:List Addr):Prop:=∀ b o,H b=some o->b∉bad->H' b=some o
theorem Og(zs:List Str)(i:Nat)(z:Str):insertAt (zs.map V.str) i (.str z)=(zs.take i++z :: zs.drop i).map V.str:=by
 unfold insertAt;rw [Ak,Bj,List.map_take,Gw]
theorem ao.ins{H:Hp}{R:Addr}{as:List (Addr×Addr)}{n:Net}(h:ao H R as n){c:End}{z:Str}{a:Addr×Addr}(ha:as[c.1]?=some a)(hc:c.1 < n.length) :
  ao (upd H a.2<|Ls<|(row n c.1).take c.2++z :: (row n c.1).drop c.2) R as (Nt.ins n c z):=by
 have q0:=h.tup c.1 a n[c.1] ha<|Ab hc;have Zb:R≠a.2:=by
  intro e;have h1:=h.lst;rw [e,q0.2] at h1;have h2:=HO.lst.inj<|Option.some.inj h1;have h3:=BZ List.length h2;cases hm:n[c.1].2 with
  | nil=>
   rw [hm] at h2;have:as.map (λa=>V.ref a.1)=[]:=h2.symm;have hl:=BZ List.length this;rw [Aa,h.len] at hl;rw [hl] at hc;exact absurd hc<|Ej _
  | cons y r=>
   rw [hm] at h2;cases as with
   | nil=>simp at h2
   | cons b bs=>
    simp at h2
 have er:row n c.1=n[c.1].2:=by unfold row;rw [Ab hc];rfl
 refine⟨by rw [gN];exact h.len,by rw [ay Zb];exact h.lst,λi b r hb hr=>?_,h.inj⟩;unfold Nt.ins at hr;rw [Fn] at hr;cases hn:n[i]? with
 | none=>rw [hn] at hr;by_cases q:c.1=i <;> simp [q] at hr
 | some r0=>
  rw [hn] at hr;have q1:=h.tup i b r0 hb hn;have t1:b.1≠a.2:=bU q1.1 q0.2 λe=>nomatch e
  by_cases q:c.1=i
  ·subst q;rw [Ab hc] at hn;cases hn;rw [ha] at hb;cases hb;simp at hr;subst hr;refine⟨by rw [ay t1];exact q1.1,?_⟩;rw [aB,er]
  ·simp [q] at hr;subst hr;have t2:b.2≠a.2:=λe=>by
    have l1:i < as.length:=(Ac.mp hb).1;have l2:c.1 < as.length:=(Ac.mp ha).1;have x1:(as.map (·.2))[i]?=some b.2:=by rw [Aj,hb];rfl
    have x2:(as.map (·.2))[c.1]?=some a.2:=by rw [Aj,ha];rfl
    obtain⟨y1,z1⟩:=Ac.mp x1;obtain⟨y2,z2⟩:=Ac.mp x2;exact q<|(Gg (h₀:=y2) (h₁:=y1) h.inj).mp<|z2.trans<|e.symm.trans z1.symm
   exact⟨by rw [ay t1];exact q1.1,by rw [ay t2];exact q1.2⟩
theorem ao.more{H:Hp}{R t l:Addr}{as:List (Addr×Addr)}{n:Net}{pt:Str}{zs:List Str}(h:ao H R as n)(ht:H t=some (.tup [.str pt,.ref l]))(hl:H l=some (Ls zs))(hn:l∉as.map (·.2))(hR:l≠R) :
  ao (upd H R<|.lst<|as.map (λa=>V.ref a.1)++[.ref t]) R (as++[(t,l)]) (n++[(pt,zs)]):=by
 have bY:=h.len;refine⟨by rw [Af,Af,bY];rfl,by rw [aB,Ak];rfl,λi b r hb hr=>?_,?_⟩
 ·rcases Di i as.length with c | c
  ·rw [Ar c] at hb;rw [Ar<|by omega] at hr;have q:=h.tup i b r hb hr;have t1:b.1≠R:=bU q.1 h.lst λe=>nomatch e;have t2:b.2≠R:=by
    intro e;have h1:=h.lst;rw [<- e,q.2] at h1;have h2:=HO.lst.inj<|Option.some.inj h1;cases as with
    | nil=>simp at c
    | cons b' bs=>
     cases hm:r.2 with
     | nil=>rw [hm] at h2;simp at h2
     | cons y r=>rw [hm] at h2;simp at h2
   exact⟨by rw [ay t1];exact q.1,by rw [ay t2];exact q.2⟩
  ·have e:i=as.length:=by
    have:=(Ac.mp hb).1;rw [Af] at this;simp at this;omega
   subst e;rw [Ay<|Al _] at hb;rw [bY,Ay<|Al _] at hr;simp at hb hr;subst hb hr;have t1:t≠R:=bU ht h.lst λe=>nomatch e;exact⟨by rw [ay t1];exact ht,by rw [ay hR];exact hl⟩
 ·rw [Ak,Co];exact⟨h.inj,by simp,λx hx y hy e=>by simp at hy;subst hy e;exact hn hx⟩
theorem ao.lists{H:Hp}{R:Addr}{as:List (Addr×Addr)}{n:Net}(h:ao H R as n){x:Addr×Addr}(hx:x∈as):∃ zs,H x.2=some (Ls zs):=by
 obtain⟨i,hi,e⟩:=Dr.mp hx;have hl:=h.len;exact⟨_,(h.tup i x (n[i]'(by omega)) (by rw [<- e];exact Ab hi)<|Ab<|by omega).2⟩
theorem ao.fresh{H:Hp}{R l:Addr}{as:List (Addr×Addr)}{n:Net}(h:ao H R as n)(hl:H l=none){x:Addr×Addr}(hx:x∈as):l≠x.2:=by
 obtain⟨zs,e⟩:=h.lists hx;exact(bu e hl).symm
theorem i7(n:Net):(ends n).length=(ag n).length:=by
 unfold ends bh;rw [Aa,<- kL n 0,Aa]
theorem fB.ends{n:Net}(T:av n){e:End}{fs:List End}(h:fB n e fs)(he:e∈ends n):∀ c∈fs,c∈Nt.ends n:=by
 intro c hc;obtain⟨i,hi,e2⟩:=Dr.mp hc;have:=h.at' i hi;rw [Ab hi,e2] at this;rw [Option.some.inj this];exact jN (λa ha=>rC T ha) he i
theorem xT{n:Net}{c k:End}{z:Str}(hc:eR n c)(hk:k.1 < n.length):eR (ins n k z) c:=by
 refine⟨by rw [gN];exact hc.1,?_⟩;rw [rE n k z c.1 hk];have:=hc.2
 split
 ·rw [Af,As,Bk,Cg];omega
 ·exact this
def dbl(zs:List Str):List Str:=zs.flatMap λz=>[z,z]
theorem EF(y:Str):∀ zs:List Str,(dbl zs).count y=2 * zs.count y
 | []=>rfl
 | z :: r=>by
  unfold dbl;rw [Cf];have ih:=EF y r;unfold dbl at ih;rw [Ep,ih,Cy,Cy,Cy,List.count_nil];omega
theorem iD{y:Str}{zs:List Str}:y∈dbl zs↔y∈zs:=by
 rw [<- Dd,EF,<- Dd];omega
theorem EG:∀ zs:List Str,(dbl zs).length=2 * zs.length
 | []=>rfl
 | z :: r=>by
  unfold dbl;rw [Cf,Af];have ih:=EG r;unfold dbl at ih;rw [ih,As];simp;omega
theorem Zc(zs:List Str)(z:Str):dbl (zs++[z])=dbl zs++[z,z]:=by
 unfold dbl;rw [Du];rfl
theorem Oh{n:Net}{zs:List Str}(hn:zs.Nodup)(p:(ag n).Perm<|dbl zs):av n:=λz hz=>by
 rw [p.count_eq,EF];have h1:z∈zs:=iD.mp<|p.mem_iff.mp hz;rw [hn.count,BP h1]
def NE(n:Net):Prop:=∀ r∈n,r.2≠[]
theorem lX{n:Net}{i:Nat}(h:i < n.length):row n i=n[i].2:=by unfold row;rw [Ab h];rfl
theorem Zd{n:Net}(h:NE n)(h0:n≠[]):Full n:= .inr ⟨h0,λi hi=>by rw [lX hi];exact h _<|Bu hi⟩
theorem Full.ne{n:Net}(h:Full n):(∃ nm,n=[(nm,[])])\/NE n:=by
 rcases h with h | ⟨_,h⟩
 ·exact .inl h
 ·refine .inr λr hr=>?_;obtain⟨i,hi,rfl⟩:=Dr.mp hr;have:=h i hi;rwa [lX hi] at this
theorem Oi:∀(n:Net) (k:Nat) (h:k < n.length),(ag n).Perm<|n[k].2++ag (n.eraseIdx k)
 | [],k,h=>by simp at h
 | a :: n,0,h=>by unfold ag;simp
 | a :: n,k+1,h=>by
  have ih:=Oi n k (by simpa using h);unfold ag at ih ⊢;simp only [Cf,List.getElem_cons_succ,List.eraseIdx_cons_succ];refine(ih.append_left a.2).trans ?_;rw [<- Aq,<- Aq];exact List.perm_append_comm.append_right _
theorem Zf(n:Net)(k:Nat)(h:k < n.length):(n.map (·.1)).Perm (n[k].1 :: (n.eraseIdx k).map (·.1)):=by
 have:=(bA.bN n k h).map (·.1);exact this.symm
theorem EH(zs:List Str)(i:Nat):(zs.drop i++zs.take i).Perm zs:=by
 refine Ci.trans ?_;rw [Db]
theorem ao.upd{H:Hp}{R x:Addr}{as:List (Addr×Addr)}{n:Net}(h:ao H R as n){xs:List V}{o:HO}(hx:H x=some (.lst xs))(hR:R≠x)(ha:∀ a∈as,a.2≠x):ao (upd H x o) R as n:=by
 refine⟨h.len,by rw [ay hR];exact h.lst,λi a r h1 h2=>?_,h.inj⟩;have q:=h.tup i a r h1 h2;exact⟨by rw [ay<|bU q.1 hx λe=>nomatch e];exact q.1,by rw [ay<|ha a<|Ap h1];exact q.2⟩
theorem EI{α:Type}(l:List α)(k i:Nat):(l.eraseIdx k)[i]?=if i < k then l[i]? else l[i+1]?:=by
 rw [Gd]
theorem ao.erase{H:Hp}{R:Addr}{as:List (Addr×Addr)}{n:Net}(h:ao H R as n){k:Nat}(hk:k < n.length) :
  ao (L2.upd H R<|.lst<|(as.map λa=>V.ref a.1).eraseIdx k) R (as.eraseIdx k) (n.eraseIdx k):=by
 have hl:=h.len;refine⟨by rw [Cv,Cv,hl],?_,λi a r h1 h2=>?_,?_⟩
 ·rw [aB]
  congr 2
  refine Dl λi=>?_;rw [EI,Aj,Aj,Aj,EI]
  split <;> rfl
 ·rw [EI] at h1 h2;have q:H a.1=some (.tup [.str r.1,.ref a.2])/\H a.2=some (Ls r.2):=by
   by_cases c:i < k
   ·rw [BP c] at h1 h2;exact h.tup i a r h1 h2
   ·rw [BK c] at h1 h2;exact h.tup (i+1) a r h1 h2
  have t2:a.2≠R:=by
   intro e;have h3:=h.lst;rw [<- e,q.2] at h3;have h4:=HO.lst.inj<|Option.some.inj h3;cases as with
   | nil=>simp at hl;simp [<- hl] at hk
   | cons b bs=>
    cases hm:r.2 with
    | nil=>rw [hm] at h4;simp at h4
    | cons y r=>rw [hm] at h4;simp at h4
  exact⟨by rw [ay<|bU q.1 h.lst λe=>nomatch e];exact q.1,by rw [ay t2];exact q.2⟩
 ·have:((as.eraseIdx k).map (·.2)).Sublist (as.map (·.2)):=(List.eraseIdx_sublist as k).map _;exact h.inj.sublist this
theorem Zg(zs:List Str)(i:Nat):fX (zs.map V.str) (some (i:Int)) none=(zs.drop i).map V.str:=by
 unfold fX;rw [HT.ik,HT.fV,Aa];rw [Cr (by rw [Cg,Aa];omega),Gw]
 rcases Nat.le_total i zs.length with h | h
 ·rw [SN h]
 ·rw [RL h,TJ (by simp),TJ<|by simpa using h]
theorem Zh(zs:List Str)(i:Nat):fX (zs.map V.str) none (some (i:Int))=(zs.take i).map V.str:=by
 unfold fX;rw [HT.ik,HT.fV,Aa,List.drop_zero,VF,List.map_take]
 rcases Nat.le_total i zs.length with h | h
 ·rw [SN h]
 ·rw [RL h,Cr (by simp),Cr<|by simpa using h]
end Nt
namespace L2
open PySem PySem.Spec PyProof.Rows
theorem xU{X:Cx}{e tg iter:Expr}{ifs:List Expr}{scope:Scope}{pz:Pos}{gs:List Comprehension}{newAcc:Sem Value}{o0:Obj}{u0:Addr->HO}{inner:Value->Env->Sem Unit}{wi:TI}{σ:St}{H:Hp}{Q:VK}
  (g5:∀(Q:Value->Shared->Prop) (E:Value->Shared->Prop) (s:Shared),Q (.ref s.heap.objs.size) {s with heap:=s.heap.push o0}->wpAny (model X.prog X.w) X.A newAcc Q E s) (gY:∀(H:Hp) (h:Heap),sysModules < h.objs.size->aC X.prog X.w H (h.push o0) h.objs.size (u0 h.objs.size))
  (hC:∀ acc env,Clause e 0 tg iter ifs acc env<|inner acc env) (he:eval e X.env=comprehension e scope X.env pz newAcc false (eval iter X.env) none) (i5:clausesOf e=⟨tg,iter,ifs,0⟩ :: gs)
  (sc:Scope) (N N':List Str) (n:Nat) (hi:PI X tg iter wi)
  (h:wi σ H λJ H1=>∀ D,H1 D=none->∀ cl C s₀ H₀ ex,fm (eX X N' scope cl C s₀ H₀ ex) tg ifs (inner (.ref D)<|compEnvC scope cl C X.env) J (λ_ H'=>Q (.ref D) H') (σ++List.replicate n none)<|upd H1 D<|u0 D)
  (hc:X.calm=true) (i0:X.env.scope=sc) (hN:X.N=N) (hk:lJ sc scope N N'=true) (hl:N'.length=N.length+n) (hs:∀ x,foldedSetIterable iter X.env x=pure x):Ev X e σ H Q:=by
 refine⟨λpins s I=>?_⟩;subst i0 hN;have ck:=cj.of hk;rw [he];refine JZ (use:=none) i5 hs (A1 λx hx hf=>I.ok.has x.1<|ck.free x hx hf) ck.kind ck.names<|aP (hi pins s σ H _ I h) λv s1 h1=>aP h1 λlh s2 h2=>?_;obtain⟨it,fp,tn,J,H2,e,I2,T,eV,f2,q⟩:=h2;subst e;refine B1 g5 gY (Q:=Q) (RR:=λacc C=>compPost (model X.prog X.w) X.A X.xe none (EP X pins σ Q) acc C) hc ck hl hC I2 T eV f2 q ?_;intro D C H' s' m IX hn hC c1 c2 c3 c4 qq;exact⟨m,hn,λh' jI=>⟨.ref D,H',IX.turned (t':=s'.toks) (λb o hb e=>jI.extBut b o hb e) hC (CK<|CK c1) (.inr c2) c3 c4,rfl,qq⟩⟩
theorem Zi{P:Program}{w:World}{k:Key}{u:Value}(h:(dh P w).is k u=true):RelV (kV k) u:=by
 rcases ku h with ⟨i,t,rfl,rfl⟩ | ⟨x,t,rfl,rfl⟩ <;> exact⟨t,rfl⟩
section
variable{X:Cx}{pins:List (Addr×Obj)}{σ:St}{H:Hp}{s:Shared}
theorem Zj{xs:List V}:∀{vs:List Value},vs.length=xs.length->(∀(j:Nat) u,vs[j]?=some u->∃ x,xs[j]?=some x/\RelV x u)->aw xs vs:=by
 induction xs with
 | nil=>
  intro vs h _;cases vs with
  | nil=>exact .nil
  | cons a b=>simp at h
 | cons x r ih=>
  intro vs h g;cases vs with
  | nil=>simp at h
  | cons u q=>
   obtain⟨x',e,ru⟩:=g 0 u rfl;simp only [RQ,Option.some.injEq] at e;subst e;exact .cons ru<|ih (by simpa using h) λj u hu=>by simpa using g (j+1) u (by simpa using hu)
theorem Zk(hc:X.calm=true):fT X (.type "list") (λxs H Q=>∃ a kvs,xs=[.ref a]/\Rd H a (.dK kvs)/\∀ l,H l=none->Q (.ref l) (upd H l<|.lst<|kvs.map λp=>kV p.1)):=by
 intro pins s σ H xs us Q I r h;obtain⟨a,kvs,rfl,hH,q⟩:=h;obtain⟨u,rfl,ru⟩:=vals1 r;cases (show u=Value.ref a from ru);obtain⟨z,hd,vs,rel,dd⟩:=tL I.aH hH;obtain⟨ep,da⟩:=dd.dictAt;have hl:=rel.length;refine PySem.W.kdl_call (PySem.W.kdl_dict (knd:=dh X.prog X.w) (kvs:=vs) (ep:=ep) hd) (I.ok.hd hc) da (by omega) λh' tk acc c' hk hS uf=>?_;have rv:aw (kvs.map λp=>kV p.1) acc.toList:=by
  refine Zj (by rw [Br,uf.1,Aa];omega) λj u hu=>?_;obtain⟨k,x,e,g⟩:=uf.2 j u (by rw [<- Bq];exact hu);refine⟨kV k,?_,Zi g⟩;have e2:(kvs.map (·.1))[j]?=some k:=by rw [rel.keys,Aj,e];rfl
  rw [Aj,Az] at e2;obtain⟨p,e3,e4⟩:=e2;rw [Aj,e3,<- e4];rfl
 exact⟨.ref s.heap.objs.size,_,I.laid (t':=tk) hk (Al _) (show aC X.prog X.w _ h' _ (.lst<|kvs.map λp=>kV p.1) from⟨by rw [Aa];exact z,acc.toList,c',rv,by rw [Array.toArray_toList];exact hS⟩),rfl,q _<|I.aH.fresh<|Al _⟩
end
section
variable{X:Cx}{elt tg:Expr}{ifs:List Expr}{scope:Scope}{σ:St}{H:Hp}{N':List Str}{A a d:Addr}{xs:List V}{kvs:List (Key×V)}{after:Hp->Prop}
theorem nn(Pv:Nat->St->Hp->Prop)(h0:Pv 0 σ H)(hl:∀ i σ' H',i<=xs.length->Pv i σ' H'->aq X.K H' a xs)
  (hs : ∀ i x σ' H', xs[i]? = some x → Pv i σ' H' → BE X N' scope tg x σ' H' λσ2 H3 => BF X N' scope ifs σ2 H3 λb H4 =>
   if b=true then BD X N' scope elt σ2 H4 λv H5=>∃ ys,H5 A=some (.lst ys)/\ys.length < sizeLine/\Pv (i+1) σ2 (upd H5 A<|.lst<|ys++[v]) else Pv (i+1) σ2 H4)
  (hd:∀ σ' H',Pv xs.length σ' H'->after H'):ra X N' scope tg ifs elt (ou X.K a) A after σ H:=by
 refine⟨λi m σ' H'=>m=xs.length - i/\i<=xs.length/\Pv i σ' H',⟨_,rfl,Bt _,h0⟩,?_⟩;rintro i m σ' H' ⟨rfl,hi,p⟩;have q:=hl i σ' H' hi p
 by_cases aY:i < xs.length
 ·refine .inr ⟨⟨xs,xs[i],q,by simp [aY]⟩,Pv<|i+1,λσ' H' p'=>⟨xs.length - (i+1),by omega,rfl,aY,p'⟩,λx H2 y=>?_⟩;obtain⟨e,y⟩:=y;subst e;exact hs i x σ' _ (y xs q) p
 ·have e:i=xs.length:=by omega
  subst e;exact .inl ⟨⟨xs,q,Al _⟩,hd σ' H' p⟩
theorem EJ{zs:List Str}(f:Str->Bool)(hz:zs.length < sizeLine)(ha:H a=some (.lst<|zs.map V.str))(hA:H A=none)
  (hg:∀ cl C s₀ H₀ ex v v0 H' R,R (σ++[some v]) H'->Eg (eX X N' scope cl C s₀ H₀ ex) tg v (σ++[v0]) H' R)
  (hi:∀ cl C s₀ H₀ ex z ys T,T (f z) (upd H A<|.lst ys)->Ei (eX X N' scope cl C s₀ H₀ ex) ifs (σ++[some<|.str z]) (upd H A<|.lst ys) T)
  (he:∀ cl C s₀ H₀ ex z H' R,R (V.str z) H'->Ev (eX X N' scope cl C s₀ H₀ ex) elt (σ++[some<|.str z]) H' R) (q:after<|upd H A<|.lst<|(zs.filter f).map V.str) :
  ra X N' scope tg ifs elt (ou X.K a) A after (σ++List.replicate 1 none) (upd H A<|.lst []):=by
 have ne:a≠A:=bu ha hA;refine nn (xs:=zs.map V.str) (λk σ' H'=>(∃ v,σ'=σ++[v])/\H'=upd H A (.lst<|((zs.take k).filter f).map V.str)) ⟨⟨none,rfl⟩,by simp⟩ ?_ ?_ ?_
 ·rintro i σ' H' _ ⟨_,rfl⟩;exact aq.of<|by rw [ay ne];exact ha
 ·rintro i x σ' H' hx ⟨⟨v,rfl⟩,rfl⟩;rw [Aj,Az] at hx;obtain⟨z,Zm,rfl⟩:=hx;intro cl C s₀ H₀ ex;refine hg cl C s₀ H₀ ex _ _ _ _ ?_;intro cl C s₀ H₀ ex;refine hi cl C s₀ H₀ ex z _ _ ?_;have e:(zs.take<|i+1).filter f=(zs.take i).filter f++(if f z=true then [z] else []):=by
   rw [Cj,Zm,Cq]
   congr 1
   cases hf:f z <;> simp [hf]
  have hlen:((zs.take i).filter f).length<=zs.length:=By (Dm _ _)<|by rw [Bk];omega
  by_cases hf:f z=true
  ·rw [BP hf];intro cl C s₀ H₀ ex;refine he cl C s₀ H₀ ex z _ _ ⟨_,aB,by rw [Aa];omega,⟨_,rfl⟩,?_⟩;rw [zu,e,BP hf,Ak];rfl
  ·rw [BK hf];refine⟨⟨_,rfl⟩,?_⟩;rw [e,BK hf,Be]
 ·rintro σ' H' ⟨_,rfl⟩;have e2:zs.take (zs.map V.str).length=zs:=Cr (by simp);rw [e2];exact q
theorem pK(z:Str)(zs:List Str):tH (.str z) (zs.map V.str)=zs.contains z:=by
 unfold tH
 induction zs with
 | nil=>rfl
 | cons y r ih=>
  rw [Bj,Eu,ih,List.contains_cons]
  congr 1
  show cH (.str y) (.str z)=(z == y)
  by_cases h:y=z
  ·subst h;simp [cH]
  ·have h':z≠y:=λq=>h q.symm;show(y == z)=(z == y);rw [beq_eq_false_iff_ne.mpr h,beq_eq_false_iff_ne.mpr h']
theorem pL(zs:List Str):(zs.map V.str).all jD=true:=by
 rw [Ee];intro x hx;obtain⟨z,_,rfl⟩:=An.mp hx;rfl
theorem iE{e1 e2:Expr}{k:Nat}{pos:Pos}{t:Addr}{x y:V}{R:St->Hp->Prop}(hc:X.calm=true)(ht:aI X.K H t [x,y])(h:Eg X e1 x σ H λσ1 H1=>Eg X e2 y σ1 H1 R)
  (hn:(assignEach [e1,e2] X.env).length=2:=by rfl) (db:(assignEach [e1,e2] X.env).findIdx? (·.1)=none:=by rfl)
  (jr:(assignEach [e1,e2] X.env).map (·.2)=assign e1 X.env :: (assignEach [e2] X.env).map (·.2):=by rfl) (rF:(assignEach [e2] X.env).map (·.2)=assign e2 X.env :: (assignEach [] X.env).map (·.2):=by rfl) :
  Eg X (.Tuple [e1,e2] k pos) (.ref t) σ H R:=
 A9 (Lh (t:=qR (λv σ H Q=>Eg X e1 v σ H Q)<|qR (λv σ H Q=>Eg X e2 v σ H Q) oq) hc (sS oQ (sS oQ Lg rF) jr) hn db) ⟨t,_,rfl,ht,rfl,_,_,rfl,h.mono λσ1 H1 h1=>⟨_,_,rfl,h1.mono λσ2 H2 q=>⟨rfl,q⟩⟩⟩
end
end L2
namespace PySem
theorem getAttr?_miss_list{prog:Program}{w:World}{A:Around}{E:Value->Shared->Prop}{s:Shared}{a:Addr}{o:Obj}{xs:Array Value}{k:Nat}{name:Str}{Q:Option Value->Shared->Prop}
  (hx:s.heap.get? a=some o) (hc:o.cls = .type "list") (iY:o.data = .seq xs k) (hd:o.dict=none) (ug:typeLookup (.type "list") name=pure none) (uh:(["__module__","__name__","__qualname__","__doc__","__annotations__"]:List Str).contains name=false) (hA:A.handled=none)
  (h:∀ h' tk e,Heap.NewExcOf s.heap h' e "AttributeError"->Q none {s with heap:=h',toks:=tk}) (hsz:name.length+100<=sizeLine:=by size_fits) :
  wpAny (model prog w) A (getAttr? (.ref a) name) Q E s:=by
 obtain⟨c,dct,dat,sl⟩:=o;simp only at hc iY hd;subst hc iY hd;obtain⟨hp,g,d,tk,os⟩:=s;have hT:∀ xk,(⟨hp,g,d,xk,os⟩:Shared).TypeIs (.ref a) "list":=λ_=>⟨_,hx,rfl⟩;have f1:=sub_AttributeError;have f3:=F.slot_list_getattribute.lookup;have f4:=F.slot_list_getattribute.bind<|.ref a;have f5:=am_list_getattr_none;unfold getAttr? getAttrBy? getAttrBy
 repeat (any_goals (first | assumption | exact hT _ | ((with_reducible show wpAny _ _ (call (Value.builtin "list.__getattribute__") _ _) _ _ _);refine QZ F.slot_list_getattribute (hT _) am_entry_list_getattribute (F.args_list_getattribute_2 _ _) (meets_getattribute_miss_list a xs k sl name _ ug uh hsz) ⟨hx,hA,λh' xk e fZ=>?_⟩) | wp_step))
 obtain⟨t',u',he⟩:=fZ.there;show wpAny _ _ (getattributeRaised _ _ _ _ _ _ _) _ _ _;unfold getattributeRaised
 repeat (any_goals (first | assumption | wp_step))
 exact h _ _ _ fZ.of
namespace F
theorem bp:entryFor table "dict.update.loop" = some Builtin.«dict.update.loop»:=entryFor_of_tree<|by kernel_rfl
theorem aK:plainId "dict.update.loop" = true:=by decide +kernel
theorem fD:typeLookup (.type "list") "keys" = pure none:=by rw [SM,MJ];kernel_rfl
end F
section
variable{prog:Program}{w:World}{K:Type} [DecidableEq K] {knd:KeyKind prog w K} {A:Around} {R:Result->Shared->Prop}
def EK(knd:KeyKind prog w K)(h:Heap)(items:List Value)(gn:List<|K×Value):Prop:=
 items.length=gn.length/\∀(j:Nat) it,items[j]?=some it->∃ T key k v o n,it = .ref T/\gn[j]?=some (k,v)/\knd.is k key=true/\h.get? T=some o/\o.cls = .type "tuple"/\o.data = .seq #[key,v] n
theorem Zn(kvs:List<|K×Value)(k:K)(v:Value):(stored kvs k v).length<=kvs.length+1:=by
 unfold stored
 split
 ·rw [Aa];omega
 ·rw [Af];simp
theorem Zo{hB:Heap}{d I l:Addr}{items:List Value}{gn:List (K×Value)}(hd:hB.objs.size<=d)(hI:hB.objs.size<=I)(EL:d≠I)(hl:hB.IsList l items.toArray)(hp:EK knd hB items gn)(hn:items.length < sizeLine)(hh:A.handled=none) :
  ∀(k i:Nat) (s:Shared) (acc:List<|K×Value),items.length - i=k->i<=items.length->(∀ b o,hB.get? b=some o->s.heap.get? b=some o)->s.heap.IsListIter I l i->s.heap.DictOf knd d acc->acc.length<=i ->
   (∀ h' tk,(∀ b o,b≠I->b≠d->s.heap.get? b=some o->h'.get? b=some o)->h'.DictOf knd d ((gn.drop i).foldl (λa p=>stored a p.1 p.2) acc)->R (.ok<|.ret .none) {s with heap:=h',toks:=tk}) ->
   codeAny (model prog w) A (.builtin "dict.update.loop" ⟨[.ref d,.ref I,rawInt i,.none],[]⟩) R s:=by
 have nb:∀ b o,hB.get? b=some o->b≠I/\b≠d:=λb o e=>⟨Bn<|Bg (Au e) hI,Bn<|Bg (Au e) hd⟩;intro k
 induction k with
 | zero=>
  intro i s acc hk hi gq db hD bY hR;have w9:i=items.length:=by omega
  refine FJ F.bp ?_;rw [EY F.aK _];show wpAny _ A.in1 (pyNext (.ref I) >>= _) _ _ s;have m8:s.heap.IsList l items.toArray:=let ⟨o,ho,r⟩:=hl;⟨o,gq _ _ ho,r⟩
  refine BJ (wpAny_pyNext_list_end hh db m8 (by simp;omega) λh' eb=>?_);show wpAny _ A.in1 (Builtin.Dict.addKeywords d [] >>= _) _ _ _;refine BJ<|BL<|BL ?_;refine hR h' s.toks (λb o hb _ e=>eb b o hb e) ?_;rw [List.drop_eq_nil_of_le<|by have:=hp.1;omega];exact hD.extBut eb EL
 | succ k ih=>
  intro i s acc hk hi gq db hD bY hR;have aY:i < items.length:=by omega
  have hx:items[i]?=some items[i]:=Ab aY;obtain⟨T,key,kk,v,o,n,e1,e2,e3,e4,e5,e6⟩:=hp.2 i _ hx;rw [e1] at hx;refine FJ F.bp ?_;rw [EY F.aK _];show wpAny _ A.in1 (pyNext (.ref I) >>= _) _ _ s;have m8:s.heap.IsList l items.toArray:=let ⟨o,ho,r⟩:=hl;⟨o,gq _ _ ho,r⟩
  refine BJ (wpAny_pyNext_list_item db m8 (x:= .ref T) (by simpa using hx) λh' dA sb=>?_);have eT:h'.get? T=some o:=(sb.2 T (nb T o e4).1).trans<|gq _ _ e4;refine BJ<|CG<|BJ<|wpAny_tryCatch ?_;unfold Builtin.Dict.pairItems;refine BJ<|KC (T:= "tuple") ⟨o,eT,e5⟩ ?_;rw [BP<|by decide];refine BJ<|wpAny_seqItems (s:={s with heap:=h'}) eT e6<|BL ?_;show wpAny _ _ (holding [key,v]<|dictSet d key v) _ _ _;refine CG (wpAny_dictSet_pairs (knd:=knd) (s:={s with heap:=h'}) (k:=kk) e3 (hD.extBut sb.extBut EL) (λh2 D2 Oj=>?_)<|by omega);refine BL ⟨JB F.aK _,?_⟩;have Ol:∀ b o,b≠I->b≠d->s.heap.get? b=some o->h2.get? b=some o:=λb o h1 h3 e=>(Oj.2 b h3).trans<|(sb.2 b h1).trans e;refine ih (i+1) {s with heap:=h2,toks:=s.toks+1} (stored acc kk v) (by omega) aY (λb o e=>Ol b o (nb b o e).1 (nb b o e).2<|gq _ _ e) (dA.extBut Oj.extBut<|CK EL) D2 (by have:=Zn acc kk v;omega) λh3 tk k3 D3=>?_;refine hR h3 tk (λb o h1 oU e=>k3 b o h1 oU<|Ol b o h1 oU e) ?_;have e7:gn.drop i=(kk,v) :: gn.drop (i+1):=by
   obtain⟨hj,e8⟩:=Ac.mp e2;rw [RB hj,e8]
  rw [e7];exact D3
theorem Zq{E:Value->Shared->Prop}{s:Shared}{Q:Value->Shared->Prop}{l:Addr}{ol:Obj}{nl:Nat}{items:List Value}{gn:List (K×Value)}(ho:s.heap.get? l=some ol)(hc:ol.cls = .type "list")(rG:ol.dict=none)(ER:ol.data = .seq items.toArray nl)(hp:EK knd s.heap items gn)(hn:items.length < sizeLine)(hh:A.handled=none)
  (h:∀ h' tk,(∀ b o,s.heap.get? b=some o->h'.get? b=some o)->h'.DictOf knd s.heap.objs.size (gn.foldl (λa p=>stored a p.1 p.2) [])->Q (.ref s.heap.objs.size) {s with heap:=h',toks:=tk}) :
  wpAny (model prog w) A (call (.type "dict") [.ref l]) Q E s:=by
 refine callType_codes (Q₁:=λobj s₁=>obj = .ref s.heap.objs.size/\s₁={s with heap:=s.heap.push {cls:= .type "dict",data:= .dict #[]}}) F.kt_called_dict (F.kt_typeCall_dict_1 _) F.entry_dict_init (kt_code_dict_new _ ⟨rfl,rfl⟩) ?_;rintro obj s₁ ⟨rfl,rfl⟩;have g5:(s.heap.push {cls:= .type "dict",data:= .dict #[]}).DictOf knd s.heap.objs.size []:=Heap.DictOf.new s.heap;have fI:(s.heap.push {cls:= .type "dict",data:= .dict #[]}).get? l=some ol:=Ag _ ho;refine⟨g5.typeIs,F.args_dict_init_2 _ _,?_⟩;unfold Builtin.«dict.__init__»;refine BJ ?_;unfold Builtin.Dict.selfAndRest;refine BJ<|wpAny_notOrdered_dict g5.typeIs ?_;show wpAny _ _ (pure (s.heap.objs.size,[Value.ref l])) _ _ _;refine BL ?_;show wpAny _ _ (Builtin.Dict.updateFrom "dict.__init__" s.heap.objs.size (.ref l) [] .none) _ _ _;unfold Builtin.Dict.updateFrom;refine BJ<|KC (T:= "list") ⟨ol,fI,hc⟩ ?_;rw [BP<|by decide];refine BJ (getAttr?_miss_list fI hc ER rG F.fD (by decide) (by exact hh) λh' tk e ne=>?_);rw [BP (show(none:Option Value).isNone=true from rfl)];have kp:∀ b o,s.heap.get? b=some o->h'.get? b=some o:=λb o e=>ne.keeps b o<|Ag _ e;refine BJ<|HS ?_;have hL:h'.IsList l items.toArray:=⟨ol,kp _ _ ho,hc,nl,ER⟩;refine BJ<|QS hL ?_;refine BL ⟨JB F.aK _,?_⟩;have Om:h'.DictOf knd s.heap.objs.size []:=let ⟨o,es,ep,ho,r⟩:=g5;⟨o,es,ep,ne.keeps _ _ ho,r⟩
 have aY:s.heap.objs.size < h'.objs.size:=let ⟨o,es,ep,ho,r⟩:=Om;Au ho
 refine Zo (hB:=s.heap) (d:=s.heap.objs.size) (I:=h'.objs.size) (l:=l) (Al _) (Cm aY) (Bn aY) ⟨ol,ho,hc,nl,ER⟩ hp hn (by exact hh) _ 0 _ [] rfl (Bt _) (λb o e=>Ag _<|kp b o e) ⟨_,At _ rfl,rfl,rfl⟩ (Om.push _) (Bt _) λh2 Zr k2 D2=>?_;refine⟨rfl,h h2 Zr (λb o e=>k2 b o (Bn<|Au<|kp b o e) (Bn<|Au e)<|Ag _<|kp b o e) D2⟩
end
end PySem
namespace L2
open PySem PySem.Spec PyProof.Rows
section
variable{X:Cx}{pins:List (Addr×Obj)}{σ:St}{H:Hp}{s:Shared}
theorem Zt{kvs:List (Key×V)}:∀{ps:List (Key×V)} {acc:List (Key×Value)} {rs:List (Key×Value)},KV ps acc->KV kvs rs->KV (kvs.foldl (λa p=>putK a p.1 p.2) ps) (rs.foldl (λa p=>stored a p.1 p.2) acc):=by
 induction kvs with
 | nil=>intro ps acc rs h g;cases g;exact h
 | cons p r ih=>
  intro ps acc rs h g;cases g with
  | @cons _ q _ r' hq hr=>
   obtain⟨e1,e2⟩:=hq;rw [Dg,Dg];refine ih ?_ hr;rw [<- e1];exact h.put p.1 e2
theorem Oo{P:Program}{w:World}{h:Heap}:∀{kvs:List (Key×V)} {ts:List Addr},ts.length=kvs.length->(∀(j:Nat) t kv,ts[j]?=some t->kvs[j]?=some kv->∃ key v o m,(dh P w).is kv.1 key=true/\RelV kv.2 v/\h.get? t=some o/\o.cls = .type "tuple"/\o.data = .seq #[key,v] m) ->
  ∃ rs:List<|Key×Value,KV kvs rs/\∀(j:Nat) t,ts[j]?=some t->∃ key k v o m,rs[j]?=some (k,v)/\(dh P w).is k key=true/\h.get? t=some o/\o.cls = .type "tuple"/\o.data = .seq #[key,v] m
 | [],ts,hl,_=>by
  have:ts=[]:=Bi.mp hl;subst this;exact⟨[],.nil,λj t h=>by simp at h⟩
 | kv :: r,[],hl,_=>by simp at hl
 | kv :: r,t :: ts,hl,hp=>by
  obtain⟨key,v,o,m,q1,q2,q3,q4,q5⟩:=hp 0 t kv rfl rfl;obtain⟨rs,hk,hr⟩:=Oo (kvs:=r) (ts:=ts) (by simpa using hl) λj t kv h1 h2=>hp (j+1) t kv (by simpa using h1) (by simpa using h2);refine⟨(kv.1,v) :: rs,.cons ⟨rfl,q2⟩ hk,λj t' ht=>?_⟩;cases j with
  | zero=>
   cases ht;exact⟨key,kv.1,v,o,m,rfl,q1,q3,q4,q5⟩
  | succ j=>
   obtain⟨key,k,v,o,m,e,z⟩:=hr j t' (by simpa using ht);exact⟨key,k,v,o,m,by simpa using e,z⟩
theorem Oq(hc:X.calm=true):fT X (.type "dict") (λxs H Q=>∃(a:Addr) (ts:List Addr) (kvs:List<|Key×V),xs=[.ref a]/\H a=some (.lst<|ts.map V.ref)/\ts.length=kvs.length/\ts.length < sizeLine/\(∀(j:Nat) t kv,ts[j]?=some t->kvs[j]?=some kv->H t=some (.tup [kV kv.1,kv.2])) /\
  ∀ d,H d=none->Q (.ref d) (upd H d<|.dK<|kvs.foldl (λa p=>putK a p.1 p.2) [])):=by
 intro pins s σ H xs us Q I r h;obtain⟨a,ts,kvs,rfl,hH,hl,hz,ht,q⟩:=h;obtain⟨u,rfl,ru⟩:=vals1 r;cases (show u=Value.ref a from ru);obtain⟨z,its,n,rv,e⟩:=(show aC X.prog X.w H s.heap a (.lst<|ts.map V.ref) from I.aH a _ hH);have jM:=rv.length;rw [Aa] at jM;have pM:∀(j:Nat) t,ts[j]?=some t->its[j]?=some (.ref t):=λj t hj=>by
  obtain⟨u,hu,ru⟩:=rv.get (i:=j) (x:= .ref t) (by rw [Aj,hj];rfl);cases (show u=Value.ref t from ru);exact hu
 have pair:∀(j:Nat) t kv,ts[j]?=some t->kvs[j]?=some kv->∃ key v o m,(dh X.prog X.w).is kv.1 key=true/\RelV kv.2 v/\s.heap.get? t=some o/\o.cls = .type "tuple"/\o.data = .seq #[key,v] m:=λj t kv h1 h2=>by
  obtain⟨z2,dG,gL,o,eo,co,m,dm⟩:=(show aC X.prog X.w H s.heap t (.tup [kV kv.1,kv.2]) from I.aH t _<|ht j t kv h1 h2);obtain⟨key,v,e3,r1,r2⟩:=gL.two;refine⟨key,v,o,m,oK r1,r2,eo,co,?_⟩;rw [dm,e3]
 obtain⟨rs,hk,hr⟩:=Oo hl pair;have Zu:=hk.length;have hP:EK (dh X.prog X.w) s.heap its rs:=by
  refine⟨by omega,λj it hj=>?_⟩;have kQ:j < ts.length:=by have:=(Ac.mp hj).1;omega
  have Ot:ts[j]?=some ts[j]:=Ab kQ;have e2:=pM j _ Ot;rw [hj] at e2;obtain⟨key,k,v,o,m,q1,q2,q3,q4,q5⟩:=hr j _ Ot;exact⟨ts[j],key,k,v,o,m,Option.some.inj e2,q1,q2,q3,q4,q5⟩
 refine Zq (knd:=dh X.prog X.w) e rfl rfl rfl hP (by omega) (I.ok.hd hc) λh' tk kp D=>?_;have hlen:∀(l:List<|Key×V) (a:List<|Key×V),(l.foldl (λa p=>putK a p.1 p.2) a).length<=a.length+l.length:=by
  intro l
  induction l with
  | nil=>intro a;exact Al _
  | cons p r ih=>
   intro a;rw [Dg,As];have h1:=ih<|putK a p.1 p.2;have h2:=iu a p.1 p.2;omega
 have hb:=I.big;refine⟨.ref s.heap.objs.size,_,I.laid (t':=tk) kp (Al _) (show aC X.prog X.w _ h' _ (.dK<|kvs.foldl (λa p=>putK a p.1 p.2) []) from⟨?_,?_,_,Zt (kvs:=kvs) (ps:=[]) (acc:=[]) .nil hk,D⟩),rfl,q _<|I.aH.fresh<|Al _⟩
 ·have:=hlen kvs [];rw [Eh] at this;omega
 ·exact beq_eq_false_iff_ne.mpr<|Cs hb
end
section
variable{X:Cx}{pins:List (Addr×Obj)}{σ:St}{H:Hp}{s:Shared}{h':Heap}
theorem Inv.bM{t':Nat}{ch:List Addr}(I:Inv X pins σ H s)(hf:∀ b∈ch,b7 X pins H b)(k:∀ b o,b∉ch->s.heap.get? b=some o->h'.get? b=some o):Inv X pins σ H {s with heap:=h',toks:=t'}:=by
 have sQ:∀ b u,H b=some u->b∉ch:=λb u e z=>by rw [(hf b z).1] at e;cases e
 refine I.step (g':=s.gens) (d':=s.drawn) (ch:=ch) (λb hb=>?_) (λb o _ _ hc e _=>k b o hc e) (λb o _ _ hc e _=>⟨o.slots,k b o hc e⟩) (λ_ _ _ _ n=>n)
  (λb o hc e=>⟨o,k b o hc e⟩) (λ_ _ e=>e) (λ_ _ _ e=>e) (λb ps e=>⟨#[],by rw [e];simp⟩) (λm hm=>?_) (λb u e=>?_) I.bare
 ·obtain⟨f0,f1,f2,f3,f4,f5⟩:=hf b hb;exact⟨f3,f1,f4,f5⟩
 ·obtain⟨o,es,ep,ho,r⟩:=hm;exact⟨o,es,ep,k _ o (λz=>(hf _ z).2.1 rfl) ho,r⟩
 ·refine(I.aH b u e).gU (λc v hc q=>k c v ?_ q) (λ_ q=>q) λ_ _ q=>q
  rcases hc with z | z
  ·rw [z];exact sQ b u e
  ·exact sQ c _ z
def xV(K:PySem.W.Frag)(a b:Addr):It:=
  ⟨λi H => ∃ xs ys x y, aq K H a xs ∧ aq K H b ys ∧ xs[i]? = some x ∧ ys[i]? = some y,
   λi H v H'=>∃ T x y,H T=none/\v = .ref T/\H'=upd H T (.tup [x,y])/\(∀ xs,aq K H a xs->xs[i]?=some x)/\∀ ys,aq K H b ys->ys[i]?=some y,
   λi H=>∃ xs ys,aq K H a xs/\aq K H b ys/\(xs.length<=i\/ys.length<=i)⟩
def Ou(m a b:Addr)(i:Nat)(h:Heap):Prop:=
 IsZip h (m+4) (m+2) (m+3) .none/\IsPair h (m+2) (.ref m) (.ref<|m+1)/\(∃ x y,IsPair h (m+3) x y)/\h.IsListIter m a i/\h.IsListIter (m+1) b i
theorem Ov{h:Heap}{m a b:Addr}{i:Nat}{xs ys:Array Value}(z:Ou m a b i h)(ha:h.IsList a xs)(hb:h.IsList b ys):ZipApart (m+4) (m+2) (m+3) m (m+1) a b:=by
  obtain⟨z1,z2,⟨x,y,z3⟩,⟨o4,e4,c4,_⟩,⟨o5,e5,c5,_⟩⟩:=z;have cls:∀{l:Addr} {vs:Array Value} {c:Addr} {o:Obj},h.IsList l vs->h.get? c=some o->o.cls ≠ .type "list"->l≠c:=λhl hc hn e=>by
    obtain⟨ol,tZ,i5,_⟩:=hl;rw [e,hc] at tZ;cases tZ;exact hn i5
  exact { TIz := by simp, TOz := by simp, i1z := by simp, i2z := by simp, TITO := by simp, TIi1 := by simp, TIi2 := by simp, TOi1 := by simp, TOi2 := by simp, i12 := by simp
          l1z:=cls ha z1 (by show Value.type "zip"≠Value.type "list";decide),l1TO:=cls ha z3 (by show Value.type "tuple"≠Value.type "list";decide),l1i1:=cls ha e4 (by rw [c4];decide),l1i2:=cls ha e5<|by rw [c5];decide
          l2z:=cls hb z1 (by show Value.type "zip"≠Value.type "list";decide),l2TO:=cls hb z3 (by show Value.type "tuple"≠Value.type "list";decide),l2i1:=cls hb e4 (by rw [c4];decide),l2i2:=cls hb e5 (by rw [c5];decide)}
theorem Zv{P:Program}{w:World}{K:PySem.W.Frag}{elts:List Expr}{k:Nat}{tp:Pos}(m a b:Addr):Turn P w K (.Tuple elts k tp) (xV K a b) [m,m+1,m+2,m+3,m+4] (m+4) (Ou m a b) where
 mem:=by simp
 obj:=λi h st c hc=>by
  obtain⟨z1,z2,⟨x,y,z3⟩,⟨o4,e4,c4,d4⟩,⟨o5,e5,c5,d5⟩⟩:=st;simp only [Ai,Bw,FP] at hc
  rcases hc with rfl | rfl | rfl | rfl | rfl
  ·exact⟨_,e4,λv z=>by rw [d4] at z;cases z⟩
  ·exact⟨_,e5,λv z=>by rw [d5] at z;cases z⟩
  ·exact⟨_,z2,λv z=>by cases z⟩
  ·exact⟨_,z3,λv z=>by cases z⟩
  ·exact⟨_,z1,λv z=>by cases z⟩
 keep:=λi h h' st kp=>by
  obtain⟨z1,z2,⟨x,y,z3⟩,⟨o4,e4,r4⟩,⟨o5,e5,r5⟩⟩:=st;exact⟨kp _ (by simp) _ z1,kp _ (by simp) _ z2,⟨x,y,kp _ (by simp) _ z3⟩,⟨o4,kp _ (by simp) _ e4,r4⟩,⟨o5,kp _ (by simp) _ e5,r5⟩⟩
 item:=by
  intro X hP hw hK hc i pins s σ H E I hf st hg;subst hP hw hK;obtain⟨xs,ys,x,y,eS,xW,hx,hy⟩:=hg;obtain⟨jS,lY,p1,lZ⟩:=I.list eS;obtain⟨dG,gL,p2,rH⟩:=I.list xW;obtain⟨u1,hG,EV⟩:=lY.get hx;obtain⟨u2,ui,Zw⟩:=gL.get hy;have D:=Ov st p1.isList p2.isList;obtain⟨z1,z2,⟨x0,y0,z3⟩,z4,z5⟩:=id st;refine wpAny_pyNext_zip_item D z1 z2 z3 z4 z5 p1.isList p2.isList (x:=u1) (y:=u2) (by simpa using hG) (by simpa using ui) λh' a1 a2 a3 a4 a5 a6 kp=>?_;have hT:H s.heap.objs.size=none:=I.aH.fresh<|Al _;have nT:∀ c∈[m,m+1,m+2,m+3,m+4],c≠s.heap.objs.size:=λc bj=>by
   have:∃ o,s.heap.get? c=some o:=by
    obtain⟨o4,e4,_⟩:=z4;obtain⟨o5,e5,_⟩:=z5;simp only [Ai,Bw,FP] at bj
    rcases bj with rfl | rfl | rfl | rfl | rfl
    ·exact⟨_,e4⟩
    ·exact⟨_,e5⟩
    ·exact⟨_,z2⟩
    ·exact⟨_,z3⟩
    ·exact⟨_,z1⟩
   obtain⟨o,e⟩:=this;exact Bn<|Au e
  have I1:Inv X pins σ (upd H s.heap.objs.size<|.tup [x,y]) {s with heap:=s.heap.push {cls:= .type "tuple",data:= .seq #[u1,u2]}}:=
   I.laid (t':=s.toks) (λb o e=>Ag _ e) (Al _) (show aC X.prog X.w _ _ _ (.tup [x,y]) from⟨Z2,[u1,u2],.cons EV<|.cons Zw .nil,⟨_,At _ rfl,rfl,_,rfl⟩⟩)
  have f1:∀ c∈[m,m+1,m+2,m+3,m+4],b7 X pins (upd H s.heap.objs.size<|.tup [x,y]) c:=λc bj=>⟨by rw [ay<|nT c bj];exact(hf c bj).1,(hf c bj).2⟩;have pf:∀ c o,c∉[m,m+1,m+2,m+3,m+4]->(s.heap.push {cls:= .type "tuple",data:= .seq #[u1,u2]}).get? c=some o->h'.get? c=some o:=λc o bj e=>by
   rcases Gm e with ⟨ec,eo⟩ | e'
   ·rw [ec,eo];exact a5
   ·simp only [Ai,Bw,FP,not_or] at bj;exact kp c o bj.2.2.2.2 bj.2.2.2.1 bj.1 bj.2.1 e'
  have I2:=Inv.bM (h':=h') (t':=s.toks) I1 f1 pf;refine⟨_,rfl,wpAny_letOwnedTupleGo_zip (s:={s with heap:=h'}) a1 λh2 b1 sb=>?_⟩;have Zx:IsPair h' (m+2) (.ref m) (.ref<|m+1):=kp _ _ (by simp) (by simp) (by simp) (by simp) z2;have xX:∀ c o,c∉[m+4]->h'.get? c=some o->h2.get? c=some o:=λc o bj e=>(sb.2 c<|by simpa using bj).trans e;have I3:=Inv.bM (h':=h2) (t':=s.toks) I2 (ch:=[m+4]) (λc bj=>f1 c<|by simp at bj;simp [bj]) xX;refine⟨.ref s.heap.objs.size,_,I3,rfl,⟨_,x,y,hT,rfl,rfl,λzs hz=>by rw [I.cO hz eS];exact hx,λzs hz=>by rw [I.cO hz xW];exact hy⟩,?_,λc bj=>(f1 c bj).1⟩;have sx:∀ c o,c≠m+4->h'.get? c=some o->h2.get? c=some o:=λc o bj e=>(sb.2 c bj).trans e;obtain⟨o3,e3,r3⟩:=a3;obtain⟨o4,e4,r4⟩:=a4;exact⟨b1,sx _ _ (by simp) Zx,⟨u1,u2,sx _ _ (by simp) a2⟩,⟨o3,sx _ _ (by simp) e3,r3⟩,⟨o4,sx _ _ (by simp) e4,r4⟩⟩
 done:=by
  intro X hP hw hK hc i pins s σ H E I hf st hg;subst hP hw hK;obtain⟨xs,ys,eS,xW,uj⟩:=hg;obtain⟨jS,lY,p1,lZ⟩:=I.list eS;obtain⟨dG,gL,p2,rH⟩:=I.list xW;have l1:=lY.length;have l2:=gL.length;have D:=Ov st p1.isList p2.isList;obtain⟨z1,z2,⟨x0,y0,z3⟩,z4,z5⟩:=id st;refine wpAny_pyNext_zip_end (I.ok.hd hc) D z1 z2 z3 z4 z5 p1.isList p2.isList ?_ λh' kp=>⟨rfl,I.bM (t':=s.toks) (ch:=[m,m+1,m+2,m+3,m+4]) hf λc o bj e=>?_⟩
  ·rcases uj with h | h
   ·exact .inl<|by simp;omega
   ·exact .inr<|by simp;omega
  ·simp only [Ai,Bw,FP,not_or] at bj;exact kp c o bj.2.2.2.2 bj.2.2.2.1 bj.1 bj.2.1 e
 self:=λ_ _ _ _ _ st h=>wpAny_pyIter_zip st.1 h
end
section
variable{X:Cx}
def EW(K:PySem.W.Frag)(ta:TA):TI:=λσ H R=>ta σ H λvs H1=>∃ a b,vs=[.ref a,.ref b]/\(∃ xs,aq K H1 a xs)/\(∃ ys,aq K H1 b ys)/\R (xV K a b) H1
theorem Ow{elts:List Expr}{k:Nat}{tp:Pos}{a b:Expr}{ta:TA}{p pos:Pos}(hg:Gl X "zip")(hm:X.mg "zip" = none)(ha:PA X [a,b] ta)(hs:starEach [a,b] X.env=[(false,eval a X.env),(false,eval b X.env)]:=by rfl)(rF:starEach [b] X.env=[(false,eval b X.env)]:=by rfl) :
  PI X (.Tuple elts k tp) (.Call (.Name "zip" p) [a,b] [] pos) (EW X.K ta):=by
 intro pins s σ H R I h;refine Call_ (mU I hg hm boot_zip<|HX (aP (ha pos pins s σ H _ I h) λus s1 ⟨vs,H1,I1,r1,q1⟩=>?_) (by rw [hs,rF])<|by rw [rF];rfl);obtain⟨x,y,e,⟨xs,hx⟩,⟨ys,hy⟩,q⟩:=q1;subst e;obtain⟨u,v,rfl,ru,rv⟩:=r1.two;cases (show u=Value.ref x from ru);cases (show v=Value.ref y from rv);obtain⟨jS,lY,p1,lZ⟩:=I1.list hx;obtain⟨dG,gL,p2,rH⟩:=I1.list hy;refine call_zip_2 p1.isList p2.isList λh' a1 a2 a3 a4 a5 a6 kp=>?_;refine wpAny_pyIter_zip (s:={s1 with heap:=h'}) a1 ?_;refine⟨s1.heap.objs.size+4,[s1.heap.objs.size,s1.heap.objs.size+1,s1.heap.objs.size+2,s1.heap.objs.size+3,s1.heap.objs.size+4],_,_,H1,rfl,I1.kept (t':=s1.toks) kp,Zv s1.heap.objs.size x y,⟨a1,a2,⟨_,_,a3⟩,a4,a5⟩,λb hb=>?_,q⟩;have hle:s1.heap.objs.size<=b:=by
  simp only [Ai,Bw,FP] at hb
  rcases hb with rfl | rfl | rfl | rfl | rfl <;> omega
 exact I1.iP hle<|I1.aH.fresh hle
end
def rJ(elt t1 i1:Expr)(f1:List Expr)(t2 i2:Expr)(f2:List Expr)(scope:Scope)(pos:Pos)(acc:Value)(env:Env):Sem Unit:=do
 let x <- eval i2 env
 standAt i2.pos
 let x <- foldedSetIterable i2 env x
 let _ <- runOwn (.compStart (.ListComp elt [⟨t1,i1,f1,0⟩,⟨t2,i2,f2,0⟩] scope pos) 1 (<- holding [x]<|pyIter x) acc env) env
section
variable{X:Cx}{elt t1 i1 t2 i2:Expr}{f1 f2:List Expr}{scope:Scope}{pos:Pos}{σ:St}{H:Hp}{acc:Value}{env:Env}
theorem Zy:Clause (.ListComp elt [⟨t1,i1,f1,0⟩,⟨t2,i2,f2,0⟩] scope pos) 0 t1 i1 f1 acc env (rJ elt t1 i1 f1 t2 i2 f2 scope pos acc env):=⟨rfl,λ_=>rfl,λ_ _ _=>rfl,λ_ _=>rfl,λ_ _ _=>rfl,λ_ _=>rfl,λit=>by
 unfold rJ;simp only [bind_assoc,pure_bind];rfl⟩
theorem Zz:Clause (.ListComp elt [⟨t1,i1,f1,0⟩,⟨t2,i2,f2,0⟩] scope pos) 1 t2 i2 f2 acc env (emit elt acc env):=⟨rfl,λ_=>rfl,λ_ _ _=>rfl,λ_ _=>rfl,λ_ _ _=>rfl,λ_ _=>rfl,λ_=>rfl⟩
theorem ZA{wi:TI}{Q:St->Hp->Prop}(d6:X.xe=λ_ _=>False)(hc:X.calm=true)(hi:PI X t2 i2 wi)(h:wi σ H λJ H1=>fm X t2 f2 (emit elt acc X.env) J Q σ H1)
  (hs:∀ x,foldedSetIterable i2 X.env x=pure x:=by intro _;rfl):iZ X (rJ elt t1 i1 f1 t2 i2 f2 scope pos acc X.env) σ H Q:=by
 refine⟨λpins s I=>?_⟩;unfold rJ;refine BJ<|aP (hi pins s σ H _ I h) λx s1 h1=>?_;refine BJ<|FZ<|BJ<|HW (hs x)<|BJ<|CG<|CT h1 (λlh s2 h2=>?_) λ_ _ e=>e;obtain⟨it,fp,tn,J,H2,e,I2,T,eV,l7,q⟩:=h2;subst e;refine BJ<|RM (Q:=λ_ s'=>wpAny (model X.prog X.w) X.A (pure ()) (λ_ s'=>∃ σ' H',Inv X pins σ' H' s'/\Q σ' H') X.xe s') ?_;exact tW d6 hc Zz I2 T eV l7 q λσ' H' s' I' q'=>BL ⟨σ',H',I',q'⟩
theorem ZC{wi:TI}{Q:VK}(sc:Scope)(N N':List Str)(n:Nat)(hi:PI X t1 i1 wi)
  (h:wi σ H λJ H1=>∀ D,H1 D=none->∀ cl C s₀ H₀ ex,fm (eX X N' scope cl C s₀ H₀ ex) t1 f1 (rJ elt t1 i1 f1 t2 i2 f2 scope pos (.ref D)<|compEnvC scope cl C X.env) J (λ_ H'=>Q (.ref D) H') (σ++List.replicate n none)<|upd H1 D<|.lst [])
  (hc:X.calm=true:=by rfl) (i0:X.env.scope=sc:=by rfl) (hN:X.N=N:=by rfl) (hk:lJ sc scope N N'=true:=by decide +kernel) (hl:N'.length=N.length+n:=by rfl)
  (hs:∀ x,foldedSetIterable i1 X.env x=pure x:=by intro _;rfl):Ev X (.ListComp elt [⟨t1,i1,f1,0⟩,⟨t2,i2,f2,0⟩] scope pos) σ H Q:=
 xU (e:= .ListComp elt [⟨t1,i1,f1,0⟩,⟨t2,i2,f2,0⟩] scope pos) (newAcc:=newList []) (o0:={cls:= .type "list",dict:=none,data:= .seq ([]:List Value).toArray}) (u0:=λ_=> .lst []) (λ_ _ _ h=>CW h<|by show(0:Nat)<=sizeLine;exact Bt _) (λ_ _ _=>⟨Bt _,[],0,.nil,At _ rfl⟩) (inner:=rJ elt t1 i1 f1 t2 i2 f2 scope pos) (λ_ _=>Zy) rfl rfl sc N N' n hi h hc i0 hN hk hl hs
end
section
variable{X:Cx}{pins:List (Addr×Obj)}{σ:St}{H:Hp}{s:Shared}{a:Addr}{y v:V}{u r:Value}{A:Around}{E:Value->Shared->Prop}
theorem ZD{H':Hp}{Q:Unit->Shared->Prop}(hu:A.units+1 < cLine)(I:Inv X pins σ H s)(g:cB H a y v H')(ry:RelV y u)(rv:RelV v r)(h:∀ s',Inv X pins σ H' s'->Q () s') :
  wpAny (model X.prog X.w) A (dictSet a u r) Q E s:=by
 rcases g with ⟨kvs,k,e,ey,l,eH⟩ | ⟨kvs,k,b,e,ey,eb,l,eH⟩
 ·subst ey eH;obtain⟨z,hd,vs,rel,dd⟩:=AV I.aH e;have hz:vs.length<=sizeLine:=by rw [<- rel.length];exact z
  have hl:(putK kvs k v).length<=sizeLine:=by have:=iu kvs k v;omega
  refine wpAny_dictSet_pairs (hsz:=hz) (oK ry) dd λh' jo hs=>h _ ?_;have he:∃ q,h'.get? a=some q:=let ⟨q,_,_,hq,_⟩:=jo;⟨q,hq⟩
  exact mX I (by rw [e];exact True.intro) hs he<|AX hl hd (rel.put k rv) jo
 ·subst ey eH;cases (show u=Value.ref b from ry);obtain⟨z,hd,xs,rel,dd⟩:=Mr I.aH e;have hz:xs.length<=sizeLine:=by rw [<- Paired.length rel];exact z
  have hl:(putK kvs k v).length<=sizeLine:=by have:=iu kvs k v;omega
  have room:(tupleKind<|dh X.prog X.w).room A:=by first | exact hu | exact Nat.lt_of_succ_lt hu | exact QG (Ek _) hu
  refine wpAny_dictSet_heap (hsz:=hz) room (tM I.aH eb) dd λh' jo hs=>h _ ?_;obtain⟨q,es,ep,hq,h2,h3,h4,_,h5⟩:=jo;refine mX I (by rw [e];exact True.intro) hs ⟨q,hq⟩ ⟨hl,hd,_,(rel.put k eb rv).keeps λc ys ec=>?_,q,es,ep,hq,h2,h3,h4,h5⟩;rw [ay<|bU ec e λz=>nomatch z];exact ec
end
def l9(k v:Expr)(acc:Value)(env:Env):Sem Unit:=do
 let kv <- eval k env
 let vv <- holding [kv]<|eval v env
 match acc with
 | .ref d=>do
  standAt {k.pos with endLine:=v.pos.endLine,endCol:=v.pos.endCol}
  holding [kv,vv] (dictSet d kv vv)
 | _=>unsupported "internal:dictcomp"
def rK(k v t1 i1:Expr)(f1:List Expr)(t2 i2:Expr)(f2:List Expr)(scope:Scope)(pos:Pos)(acc:Value)(env:Env):Sem Unit:=do
 let x <- eval i2 env
 standAt i2.pos
 let x <- foldedSetIterable i2 env x
 let _ <- runOwn (.compStart (.DictComp k v [⟨t1,i1,f1,0⟩,⟨t2,i2,f2,0⟩] scope pos) 1 (<- holding [x]<|pyIter x) acc env) env
section
variable{X:Cx}{k v t1 i1 t2 i2:Expr}{f1 f2:List Expr}{scope:Scope}{pos:Pos}{σ:St}{H:Hp}{acc:Value}{env:Env}
theorem ZE:Clause (.DictComp k v [⟨t1,i1,f1,0⟩] scope pos) 0 t1 i1 f1 acc env (l9 k v acc env):=⟨rfl,λ_=>rfl,λ_ _ _=>rfl,λ_ _=>rfl,λ_ _ _=>rfl,λ_ _=>rfl,λit=>by
 unfold l9;cases acc <;> first | rfl | (simp only [bind_assoc,pure_bind];rfl)⟩
theorem ZF:Clause (.DictComp k v [⟨t1,i1,f1,0⟩,⟨t2,i2,f2,0⟩] scope pos) 0 t1 i1 f1 acc env (rK k v t1 i1 f1 t2 i2 f2 scope pos acc env):=⟨rfl,λ_=>rfl,λ_ _ _=>rfl,λ_ _=>rfl,λ_ _ _=>rfl,λ_ _=>rfl,λit=>by
 unfold rK;simp only [bind_assoc,pure_bind];rfl⟩
theorem ZG:Clause (.DictComp k v [⟨t1,i1,f1,0⟩,⟨t2,i2,f2,0⟩] scope pos) 1 t2 i2 f2 acc env (l9 k v acc env):=⟨rfl,λ_=>rfl,λ_ _ _=>rfl,λ_ _=>rfl,λ_ _ _=>rfl,λ_ _=>rfl,λit=>by
 unfold l9;cases acc <;> first | rfl | (simp only [bind_assoc,pure_bind];rfl)⟩
theorem EX{D:Addr}{Q:St->Hp->Prop}(hu:X.A.units+1 < cLine)(h:Ev X k σ H λy H1=>Ev X v σ H1 λx H2=>∃ H3,cB H2 D y x H3/\Q σ H3):iZ X (l9 k v (.ref D) X.env) σ H Q:=by
 refine⟨λpins s I=>?_⟩;unfold l9;refine BJ<|aP (h.run pins s I) λkv s1 ⟨y,H1,I1,r1,h1⟩=>?_;refine BJ<|CG<|aP (h1.run pins s1 I1) λvv s2 ⟨x,H2,I2,r2,H3,dp,q⟩=>?_;show wpAny _ _ (standAt _ >>= λ_=>holding [kv,vv]<|dictSet D kv vv) _ _ _;exact BJ<|FZ<|CG<|ZD hu I2 dp r1 r2 λs' I'=>⟨σ,H3,I',q⟩
theorem ZH{wi:TI}{Q:St->Hp->Prop}(d6:X.xe=λ_ _=>False)(hc:X.calm=true)(hi:PI X t2 i2 wi)(h:wi σ H λJ H1=>fm X t2 f2 (l9 k v acc X.env) J Q σ H1)
  (hs:∀ x,foldedSetIterable i2 X.env x=pure x:=by intro _;rfl):iZ X (rK k v t1 i1 f1 t2 i2 f2 scope pos acc X.env) σ H Q:=by
 refine⟨λpins s I=>?_⟩;unfold rK;refine BJ<|aP (hi pins s σ H _ I h) λx s1 h1=>?_;refine BJ<|FZ<|BJ<|HW (hs x)<|BJ<|CG<|CT h1 (λlh s2 h2=>?_) λ_ _ e=>e;obtain⟨it,fp,tn,J,H2,e,I2,T,eV,l7,q⟩:=h2;subst e;refine BJ<|RM (Q:=λ_ s'=>wpAny (model X.prog X.w) X.A (pure ()) (λ_ s'=>∃ σ' H',Inv X pins σ' H' s'/\Q σ' H') X.xe s') ?_;exact tW d6 hc ZG I2 T eV l7 q λσ' H' s' I' q'=>BL ⟨σ',H',I',q'⟩
theorem Ox{wi:TI}{Q:VK}(sc:Scope)(N N':List Str)(n:Nat)(hi:PI X t1 i1 wi)
  (h:wi σ H λJ H1=>∀ D,H1 D=none->∀ cl C s₀ H₀ ex,fm (eX X N' scope cl C s₀ H₀ ex) t1 f1 (l9 k v (.ref D)<|compEnvC scope cl C X.env) J (λ_ H'=>Q (.ref D) H') (σ++List.replicate n none)<|upd H1 D<|.dT [])
  (hc:X.calm=true:=by rfl) (i0:X.env.scope=sc:=by rfl) (hN:X.N=N:=by rfl) (hk:lJ sc scope N N'=true:=by decide +kernel) (hl:N'.length=N.length+n:=by rfl)
  (hs:∀ x,foldedSetIterable i1 X.env x=pure x:=by intro _;rfl):Ev X (.DictComp k v [⟨t1,i1,f1,0⟩] scope pos) σ H Q:=
 xU (e:= .DictComp k v [⟨t1,i1,f1,0⟩] scope pos) (newAcc:=newDict) (o0:={cls:= .type "dict",data:= .dict #[]}) (u0:=λ_=> .dT []) (λ_ _ _ h=>CW h) (λ_ h hb=>AZ h hb) (inner:=l9 k v) (λ_ _=>ZE) rfl rfl sc N N' n hi h hc i0 hN hk hl hs
theorem ZI{wi:TI}{Q:VK}(sc:Scope)(N N':List Str)(n:Nat)(hi:PI X t1 i1 wi)
  (h:wi σ H λJ H1=>∀ D,H1 D=none->∀ cl C s₀ H₀ ex,fm (eX X N' scope cl C s₀ H₀ ex) t1 f1 (rK k v t1 i1 f1 t2 i2 f2 scope pos (.ref D)<|compEnvC scope cl C X.env) J (λ_ H'=>Q (.ref D) H') (σ++List.replicate n none)<|upd H1 D<|.dT [])
  (hc:X.calm=true:=by rfl) (i0:X.env.scope=sc:=by rfl) (hN:X.N=N:=by rfl) (hk:lJ sc scope N N'=true:=by decide +kernel) (hl:N'.length=N.length+n:=by rfl)
  (hs:∀ x,foldedSetIterable i1 X.env x=pure x:=by intro _;rfl):Ev X (.DictComp k v [⟨t1,i1,f1,0⟩,⟨t2,i2,f2,0⟩] scope pos) σ H Q:=
 xU (e:= .DictComp k v [⟨t1,i1,f1,0⟩,⟨t2,i2,f2,0⟩] scope pos) (newAcc:=newDict) (o0:={cls:= .type "dict",data:= .dict #[]}) (u0:=λ_=> .dT []) (λ_ _ _ h=>CW h) (λ_ h hb=>AZ h hb) (inner:=rK k v t1 i1 f1 t2 i2 f2 scope pos) (λ_ _=>ZF) rfl rfl sc N N' n hi h hc i0 hN hk hl hs
end
open bA
theorem Oy{prog:Program}{w:World}{A:Around}{E:Value->Shared->Prop}{s:Shared}{a:Addr}{zs:List Str}{z:Str}{tk:Tok}{Q:Value->Shared->Prop}(S:ax prog w s.heap a zs)(hb:zs.length+1 < 1000)
  (h:∀ h',Heap.SameBut a s.heap h'->ax prog w h' a (added zs z)->Q .none {s with heap:=h',toks:=s.toks+1}) :
  wpAny (model prog w) A (call (.builtin "set.add") [.ref a,.str z tk]) Q E s:=by
 have hT:s.TypeIs (.ref a) "set":=let ⟨o,_,_,_,ho,hx,_⟩:=S;⟨o,ho,hx.1⟩
 refine DG F.slot_set_add hT F.entry_set_add ?_<|F.args_set_add_2 _ _;unfold Builtin.«set.add» Builtin.Frozenset.oneOther;simp only [Gi,bind_assoc];unfold Builtin.Frozenset.addrOf setAdd;refine BJ<|BL ?_
 try dsimp only
 refine BJ<|BL ?_
 try dsimp only
 refine BJ ?_;refine CG ?_;refine BJ ((PySem.strKind prog w).pyHash (k:=z) (v:= .str z tk) (by simp [PySem.strKind,Value.isStrOf]) ?_);refine CA (s:={s with toks:=s.toks+1}) S hb λb h' sb S'=>?_;show wpAny _ _ (ret Value.none) _ _ _;exact BL ⟨_,rfl,h h' sb S'⟩
theorem ZJ{prog:Program}{w:World}{A:Around}{E:Value->Shared->Prop}{s:Shared}{Q:Value->Shared->Prop}(k:Q (.ref s.heap.objs.size) {s with heap:=s.heap.push (gj w)}):wpAny (model prog w) A (newSet<|.type "set") Q E s:=by
 unfold newSet;refine BJ<|wp_text ?_
 dsimp only
 simp only [newObj];exact BJ<|QB<|BL k
def ul(elt:Expr)(acc:Value)(env:Env):Sem Unit:=do let v <- eval elt env;standAt elt.pos;let _ <- call (.builtin "set.add") [acc,v]
def rL(elt t1 i1:Expr)(f1:List Expr)(t2 i2:Expr)(f2:List Expr)(scope:Scope)(pos:Pos)(acc:Value)(env:Env):Sem Unit:=do
 let x <- eval i2 env
 standAt i2.pos
 let x <- foldedSetIterable i2 env x
 let _ <- runOwn (.compStart (.SetComp elt [⟨t1,i1,f1,0⟩,⟨t2,i2,f2,0⟩] scope pos) 1 (<- holding [x]<|pyIter x) acc env) env
section
variable{X:Cx}{elt t1 i1 t2 i2:Expr}{f1 f2:List Expr}{scope:Scope}{pos:Pos}{σ:St}{H:Hp}{acc:Value}{env:Env}
theorem ZK:Clause (.SetComp elt [⟨t1,i1,f1,0⟩,⟨t2,i2,f2,0⟩] scope pos) 0 t1 i1 f1 acc env (rL elt t1 i1 f1 t2 i2 f2 scope pos acc env):=⟨rfl,λ_=>rfl,λ_ _ _=>rfl,λ_ _=>rfl,λ_ _ _=>rfl,λ_ _=>rfl,λit=>by
 unfold rL;simp only [bind_assoc,pure_bind];rfl⟩
theorem ZL:Clause (.SetComp elt [⟨t1,i1,f1,0⟩,⟨t2,i2,f2,0⟩] scope pos) 1 t2 i2 f2 acc env (ul elt acc env):=⟨rfl,λ_=>rfl,λ_ _ _=>rfl,λ_ _=>rfl,λ_ _ _=>rfl,λ_ _=>rfl,λit=>by
 unfold ul
 first | rfl | (simp only [bind_assoc,pure_bind];rfl)⟩
theorem ZM{D:Addr}{Q:St->Hp->Prop} (h:Ev X elt σ H λv H1=>∃ z zs,v = .str z/\H1 D=some (bd X.prog X.w D zs)/\zs.length+1 < 1000/\Q σ (upd H1 D<|bd X.prog X.w D<|added zs z)):iZ X (ul elt (.ref D) X.env) σ H Q:=by
 refine⟨λpins s I=>?_⟩;unfold ul;refine BJ<|aP (h.run pins s I) λv s1 ⟨x,H1,I1,r1,z,zs,e,hD,hl,q⟩=>?_;subst e;obtain⟨tk,rfl⟩:=r1;refine BJ (FZ<|BJ<|Oy (I1.set hD) hl λh' sb S'=>BL ⟨σ,_,mX (t':=s1.toks+1) I1 (by rw [hD];exact True.intro) sb ?_<|rz S',q⟩);obtain⟨o,_,_,_,ho,_⟩:=S';exact⟨o,ho⟩
theorem ZN{wi:TI}{Q:St->Hp->Prop}(d6:X.xe=λ_ _=>False)(hc:X.calm=true)(hi:PI X t2 i2 wi)(h:wi σ H λJ H1=>fm X t2 f2 (ul elt acc X.env) J Q σ H1)
  (hs:∀ x,foldedSetIterable i2 X.env x=pure x:=by intro _;rfl):iZ X (rL elt t1 i1 f1 t2 i2 f2 scope pos acc X.env) σ H Q:=by
 refine⟨λpins s I=>?_⟩;unfold rL;refine BJ<|aP (hi pins s σ H _ I h) λx s1 h1=>?_;refine BJ<|FZ<|BJ<|HW (hs x)<|BJ<|CG<|CT h1 (λlh s2 h2=>?_) λ_ _ e=>e;obtain⟨it,fp,tn,J,H2,e,I2,T,eV,l7,q⟩:=h2;subst e;refine BJ<|RM (Q:=λ_ s'=>wpAny (model X.prog X.w) X.A (pure ()) (λ_ s'=>∃ σ' H',Inv X pins σ' H' s'/\Q σ' H') X.xe s') ?_;exact tW d6 hc ZL I2 T eV l7 q λσ' H' s' I' q'=>BL ⟨σ',H',I',q'⟩
theorem ZO{wi:TI}{Q:VK}(sc:Scope)(N N':List Str)(n:Nat)(hi:PI X t1 i1 wi)
  (h:wi σ H λJ H1=>∀ D,H1 D=none->∀ cl C s₀ H₀ ex,fm (eX X N' scope cl C s₀ H₀ ex) t1 f1 (rL elt t1 i1 f1 t2 i2 f2 scope pos (.ref D)<|compEnvC scope cl C X.env) J (λ_ H'=>Q (.ref D) H') (σ++List.replicate n none)<|upd H1 D<|bd X.prog X.w D [])
  (hc:X.calm=true:=by rfl) (i0:X.env.scope=sc:=by rfl) (hN:X.N=N:=by rfl) (hk:lJ sc scope N N'=true:=by decide +kernel) (hl:N'.length=N.length+n:=by rfl)
  (hs:∀ x,foldedSetIterable i1 X.env x=pure x:=by intro _;rfl):Ev X (.SetComp elt [⟨t1,i1,f1,0⟩,⟨t2,i2,f2,0⟩] scope pos) σ H Q:=
 xU (e:= .SetComp elt [⟨t1,i1,f1,0⟩,⟨t2,i2,f2,0⟩] scope pos) (newAcc:=newSet<|.type "set") (o0:=gj X.w) (u0:=λD=>bd X.prog X.w D []) (λ_ _ _ h=>ZJ h) (λ_ h _=>rz<|CU<|At _ rfl) (inner:=rL elt t1 i1 f1 t2 i2 f2 scope pos) (λ_ _=>ZK) rfl rfl sc N N' n hi h hc i0 hN hk hl hs
end
end L2
namespace L2
open PySem PySem.Builtin PySem.Builtin.Str
section
variable{X:Cx}{σ:St}{H:Hp}{Q:VK}
end
end L2
namespace PySem
def Plain(h:Heap)(d:Addr)(es:Array DictEntry)(ep:Nat):Prop:=∃ o,h.get? d=some o/\o.ExactDict/\o.data = .dict es ep
section
variable{P:Program}{w:World}{A:Around}{E:Value->Shared->Prop}{s:Shared}
theorem ZP(d:Addr)(hd:(d == sysModules)=false):MeetsIn P w (Builtin.«dict.items» ⟨[.ref d],[]⟩) (λ_ R u=>u.TypeIs (.ref d) "dict" /\
  R (.ok<|.ret<|.ref u.heap.objs.size) {u with heap:=u.heap.push {cls:= .type "dict_items",data:= .fields #[.ref d]}}):=by
 refine .of_wp λB R u ⟨hT,k⟩=>?_;unfold Builtin.«dict.items» Builtin.Dict.noArgs;refine BJ<|BJ<|wpAny_notOrdered_dict hT ?_;show wpAny _ _ (pure d) _ _ u;refine BL ?_;show wpAny _ _ (Builtin.Dict.showsAll d >>= _) _ _ u;unfold Builtin.Dict.showsAll;rw [BK<|by rw [hd];exact Av];exact BJ<|BL<|BJ<|CW<|BL ⟨_,rfl,k⟩
theorem ZQ{v d:Addr}{es:Array DictEntry}{ep:Nat}{Q:Value->Shared->Prop}(hv:s.heap.IsItemsView v d)(hm:Plain s.heap d es ep)
  (k:Q (.ref s.heap.objs.size) {s with heap:=s.heap.push {cls:= .type "dict_itemiterator",data:= .fields #[.none,.bool false,.ref d,.int 0 0,.int es.size 0,.int ep 0,.none,.none]}}) :
  wpAny (model P w) A (pyIter<|.ref v) Q E s:=by
 obtain⟨vo,e1,e2,e3⟩:=id hv;obtain⟨o,f1,f2,f3⟩:=hm;refine KJ hv.typeIs F.slot_dict_items_iter<|DG F.slot_dict_items_iter hv.typeIs F.entry_dict_items_iter ?_<|F.args_dict_items_iter_1 _;unfold Builtin.«dict_items.__iter__» Builtin.Dict_items.dictOf Builtin.Dict_items.newIterator;refine BJ<|BL<|BJ<|BJ<|JH e1 e3 (x:= .ref d) rfl (BL ?_);refine BJ<|BJ<|QV f1 f3<|BJ<|SQ f1 f3 ?_;have ow:Builtin.Dict_items.ownsTuple "dict_itemiterator" = true:=by decide
 simp only [ow,DK];refine CW (BL ⟨_,rfl,"dict_itemiterator",_,⟨_,At _ rfl,rfl⟩,F.slot_dict_itemiterator_next.lookup,?_⟩) ?_
 ·simpa [rawInt,Builtin.Dict_items.ownedTupleFields] using k
 ·simp only [sizeOk,Builtin.Dict_items.ownedTupleFields,Aw,Af,As,Eh,DX];omega
theorem ZR{it d:Addr}{i ep:Nat}{es:Array DictEntry}{en:DictEntry}{y z:Value}{Q:Option Value->Shared->Prop}(hit:IsItemIter s.heap it d i es.size ep y z)(hm:Plain s.heap d es ep)(hx:es[i]?=some en)
  (k : ∀ h', IsItemIterOut h' it d (i + 1) es.size ep en.key en.val s.heap.objs.size → h'.get? s.heap.objs.size = some { cls := .type "tuple", data := .seq #[en.key, en.val] } →
   (∀ b o,b≠it->s.heap.get? b=some o->h'.get? b=some o)->Q (some<|.ref s.heap.objs.size) {s with heap:=h'}):wpAny (model P w) A (pyNext<|.ref it) Q E s:=by
 obtain⟨hp,g,dr,tk,os⟩:=s;obtain⟨o,f1,f2,f3⟩:=hm;have ty:Shared.TypeIs ⟨hp,g,dr,tk,os⟩ (.ref it) "dict_itemiterator":=⟨_,hit,rfl⟩;have lt:i < es.size:=by
  rcases Di i es.size with h | h
  ·exact h
  ·rw [Ec h] at hx;cases hx
 have ow:Builtin.Dict_items.ownsTuple "dict_itemiterator" = true:=by decide
 unfold pyNext;refine BJ<|LK<|IW (name:=Str.ofString "__next__") ty GZ<|DG GZ ty PJ ?_<|NK _;refine BJ<|BL<|BJ<|BJ ?_
 first | refine BJ (GJ ty<|BL ?_) | refine BJ<|IV ty<|BL ?_
 refine BJ<|PN hit rfl ?_;simp only [ow,DK];show wpAny _ _ (if(Value.ref d == Value.none)=true then _ else _) _ _ _;rw [BK (show ¬((Value.ref d == Value.none)=true) from Av)];refine BJ<|BL<|BJ<|QV f1 f3 ?_;rw [BK<|by simp];refine BJ<|BL<|BJ<|SQ f1 f3 ?_;rw [BK<|by simp];refine BL ?_;have ee:es[i]=en:=Option.some.inj<|(Dj lt).symm.trans hx;simp only [show ¬((i:Int) < 0) from by omega,CV,Bo,hx];refine BJ ?_
 first | refine BJ (GJ ty<|BL ?_) | refine BJ<|IV ty<|BL ?_
 refine BJ<|KR ty ?_;show wpAny _ _ (setField (.ref it) 3 (rawInt<|(i:Int)+1) >>= _) _ _ ⟨hp,g,dr,tk,os⟩;refine BJ (JC hit (by simp) λha ea sa=>?_);replace sa:Heap.SameBut it hp ha:=sa;replace ea:IsItemIter ha it d (i+1) es.size ep y z:=by
  have e:((i+1:Nat):Int)=(i:Int)+1:=by omega
  unfold IsItemIter;rw [e]
  simpa [rawInt] using ea
 have Oz:Shared.TypeIs ⟨ha,g,dr,tk,os⟩ (.ref it) "dict_itemiterator":=⟨_,ea,rfl⟩;refine BJ<|CG<|BJ<|KR Oz<|BJ<|KR Oz ?_;show wpAny _ _ (Builtin.Dict_items.pairFromOwner (.ref it) 6 en.key en.val) _ _ ⟨ha,g,dr,tk,os⟩;unfold Builtin.Dict_items.pairFromOwner Builtin.Dict_items.ownedTupleIsFree;refine BJ<|PX ?_;have eb:IsItemIter (ha.push {cls:= .type "tuple",data:= .seq #[en.key,en.val]}) it d (i+1) es.size ep y z:=Ag _ ea;have za:ha.objs.size=hp.objs.size:=sa.1;have il:it < hp.objs.size:=Au hit;have tb:(ha.push {cls:= .type "tuple",data:= .seq #[en.key,en.val]}).get? hp.objs.size=some {cls:= .type "tuple",data:= .seq #[en.key,en.val]}:=by rw [<- za];exact At _ rfl
 have kb:∀ b u,b≠it->hp.get? b=some u->(ha.push {cls:= .type "tuple",data:= .seq #[en.key,en.val]}).get? b=some u:=λb u hb e=>Ag _<|sa.extBut b u hb e;rw [za];generalize ha.push {cls:= .type "tuple",data:= .seq #[en.key,en.val]}=hb at eb tb kb;refine BJ<|BJ<|JH (s:=⟨hb,g,dr,tk,os⟩) eb rfl (x:= .none) rfl (BL ?_);simp only [DK];refine BJ<|JH (s:=⟨hb,g,dr,tk,os⟩) eb rfl (x:=y) rfl (BJ<|JH (s:=⟨hb,g,dr,tk,os⟩) eb rfl (x:=z) rfl ?_);refine BJ (JC eb (by simp) λh3 e3 s3=>?_);replace s3:Heap.SameBut it hb h3:=s3;replace e3:IsItemIter h3 it d (i+1) es.size ep en.key z:=e3;refine BJ (JC e3 (by simp) λh4 e4 s4=>?_);replace s4:Heap.SameBut it h3 h4:=s4;replace e4:IsItemIter h4 it d (i+1) es.size ep en.key en.val:=e4;refine BJ (JC e4 (by simp) λh5 e5 s5=>?_);replace s5:Heap.SameBut it h4 h5:=s5;replace e5:IsItemIterOut h5 it d (i+1) es.size ep en.key en.val hp.objs.size:=e5;refine BJ (JC e5 (by simp) λh6 e6 s6=>?_);replace s6:Heap.SameBut it h5 h6:=s6;replace e6:IsItemIterOut h6 it d (i+1) es.size ep en.key en.val hp.objs.size:=e6;have all:=((s3.trans s4).trans s5).trans s6;exact BJ<|wpAny_letGo<|BL<|BL ⟨_,rfl,BL<|k h6 e6 (all.extBut _ _ (Cs il) tb) λb u nq e=>all.extBut b u nq<|kb b u nq e⟩
theorem ZS{it d:Addr}{i ep:Nat}{es:Array DictEntry}{y z:Value}{Q:Option Value->Shared->Prop}(hh:A.handled=none)(hit:IsItemIter s.heap it d i es.size ep y z)(hm:Plain s.heap d es ep)(hx:es.size<=i)
  (k:∀ h',Heap.ExtBut it s.heap h'->Q none {s with heap:=h'}):wpAny (model P w) A (pyNext<|.ref it) Q E s:=by
 obtain⟨o,f1,f2,f3⟩:=hm;have ty:s.TypeIs (.ref it) "dict_itemiterator":=⟨_,hit,rfl⟩;have ow:Builtin.Dict_items.ownsTuple "dict_itemiterator" = true:=by decide
 unfold pyNext;refine BJ<|LK<|IW (name:=Str.ofString "__next__") ty GZ<|DG GZ ty PJ ?_<|NK _;refine BJ<|BL<|BJ<|BJ ?_
 first | refine BJ (GJ ty<|BL ?_) | refine BJ<|IV ty<|BL ?_
 refine BJ<|PN hit rfl ?_;simp only [ow,DK];show wpAny _ _ (if(Value.ref d == Value.none)=true then _ else _) _ _ s;rw [BK (show ¬((Value.ref d == Value.none)=true) from Av)];refine BJ<|BL<|BJ<|QV f1 f3 ?_;rw [BK<|by simp];refine BJ<|BL<|BJ<|SQ f1 f3 ?_;rw [BK<|by simp];refine BL ?_;simp only [show ¬((i:Int) < 0) from by omega,CV,Bo,Ec hx];refine BJ ?_
 first | refine BJ (GJ ty<|BL ?_) | refine BJ<|IV ty<|BL ?_
 show wpAny _ _ (setField (.ref it) 2 .none >>= _) _ _ s;refine BJ (DQ hit rfl (by simp) ?_);show wpAny _ _ (newExc (.type "StopIteration") [] >>= _) _ _ _;refine BJ ?_;simp only [newExc,newTuple];refine BJ (CW ?_<|by size_fits);refine BJ (m:=firstArgMember _ _) (HW (a:=Value.none) (by first | rfl | (simp only [firstArgMember];rfl)) ?_);refine CW ?_ (by size_fits);simp only [raiseNew];refine BJ<|wpAny_handled ?_;rw [show A.in1.handled=none from hh];refine BJ<|BL<|wpAny_throw ?_;exact BJ<|JN (T:= "StopIteration") (b:=true) ⟨_,At _ rfl,rfl⟩ isSubtype_stop<|BL<|k _<|((CQ ..).extBut.push _).push _
theorem ZT:entryFor table "dict_itemiterator.__iter__" = some Builtin.«dict_keyiterator.__iter__»:=
 PL (id':= "dict_keyiterator.__iter__") (by kernel_rfl) rfl (by decide +kernel) (by kernel_rfl)
theorem ZU{it d:Addr}{i n ep:Nat}{y z:Value}{Q:Value->Shared->Prop}(e:IsItemIter s.heap it d i n ep y z)(h:Q (.ref it) s):wpAny (model P w) A (pyIter<|.ref it) Q E s:=by
 have ty:s.TypeIs (.ref it) "dict_itemiterator":=⟨_,e,rfl⟩;refine KJ ty PK<|DG PK ty ZT ?_<|F.args_dict_itemiterator_iter_1 _;show wpAny _ _ (ret<|.ref it) _ _ s;exact BL ⟨_,rfl,"dict_itemiterator",_,ty,F.slot_dict_itemiterator_next.lookup,h⟩
end
end PySem
namespace L2
open PySem PySem.Spec PyProof.Rows
section
variable{X:Cx}{pins:List (Addr×Obj)}{σ:St}{H:Hp}{s:Shared}
theorem ZV{d:Addr}{kvs:List (List Key×V)}(I:Inv X pins σ H s)(e:H d=some (.dT kvs)):∃ o,s.heap.get? d=some o/\Inv X pins σ (upd H d<|.bX o<|.dT kvs) s:=by
 obtain⟨z,hd,xs,r,o,es,ep,ho,h2,h3,h4,h5⟩:=(show aC X.prog X.w H s.heap d (.dT kvs) from I.aH d _ e);refine⟨o,ho,?_⟩;have r':KT (upd H d<|.bX o<|.dT kvs) kvs xs:=KT.keeps r λb ys q=>by
  rw [ay<|bU q e λz=>nomatch z];exact q
 exact mX (t':=s.toks) I (by rw [e];exact True.intro) ⟨rfl,λ_ _=>rfl⟩ ⟨o,ho⟩ (show aC X.prog X.w _ s.heap d (.bX o<|.dT kvs) from⟨ho,z,hd,xs,r',o,es,ep,ho,h2,h3,h4,h5⟩)
def Itm(d:Addr)(o:Obj)(kvs:List<|List Key×V):It:=
  ⟨λi H => H d = some (.bX o<|.dT kvs) ∧ i < kvs.length,
   λi H v H'=>∃ T b k x,kvs[i]?=some (k,x)/\H b=some (.tup<|k.map kV)/\H T=none/\v = .ref T/\H'=upd H T (.tup [.ref b,x]),
   λi H=>H d=some (.bX o<|.dT kvs)/\kvs.length<=i⟩
theorem OA{P:Program}{w:World}{h:Heap}{d:Addr}{o:Obj}{es:Array DictEntry}{ep:Nat}{kvs:List (List Key×V)}(aH:b6 P w H h)(e:H d=some (.bX o<|.dT kvs))(hd:o.data = .dict es ep) :
  Plain h d es ep/\∃ xs,KT H kvs xs/\es.toList=xs.map (entryOfKey<|tupleKind<|dh P w):=by
 obtain⟨ho,z,_,xs,r,o',fJ,om,fI,h2,h3,h4,h5⟩:=(show aC P w H h d (.bX o<|.dT kvs) from aH d _ e);have:o=o':=Option.some.inj<|ho.symm.trans fI;subst this;rw [hd] at h3
 injection h3 with e1 e2
 subst e1;subst e2;exact⟨⟨o,ho,h2,hd⟩,xs,r,h4⟩
theorem kt_len{H:Hp}:∀{kvs:List (List Key×V)} {xs:List (List Key×Addr×Value)},KT H kvs xs->kvs.length=xs.length:=λr=>by
 induction r with
 | nil=>rfl
 | cons _ _ ih=>simp only [As,ih]
theorem kt_at{H:Hp}:∀{kvs:List (List Key×V)} {xs:List (List Key×Addr×Value)},KT H kvs xs->∀{i:Nat} {k:List Key} {x:V},kvs[i]?=some (k,x)->∃ b u,xs[i]?=some (k,b,u)/\H b=some (.tup<|k.map kV)/\RelV x u:=λr=>by
 induction r with
 | nil=>intro i k x h;simp at h
 | @cons p q ps qs hq t ih=>
  intro i k x h;cases i with
  | zero=>
   simp only [RQ,Option.some.injEq] at h;subst h;obtain⟨a,b,c⟩:=q;obtain⟨q1,q2,q3⟩:=hq;have q1:k=a:=q1;subst q1;exact⟨b,c,rfl,q2,q3⟩
  | succ i=>exact ih<|by simpa using h
theorem ZW{P:Program}{w:World}{K:PySem.W.Frag}{elts:List Expr}{kk:Nat}{tp:Pos}(d it:Addr)(o:Obj)(es:Array DictEntry)(ep:Nat)(kvs:List<|List Key×V)(rG:o.data = .dict es ep) :
  Turn P w K (.Tuple elts kk tp) (Itm d o kvs) [it] it (λi h=>∃ y z,IsItemIter h it d i es.size ep y z) where
 mem:=by simp
 obj:=λi h st b hb=>by
  have e:b=it:=by simpa using hb
  subst e;obtain⟨y,z,e⟩:=st;exact⟨_,e,λv z=>by cases z⟩
 keep:=λi h h' st k=>let ⟨y,z,e⟩:=st;⟨y,z,k it (by simp) _ e⟩
 item:=by
  intro X hP hw hK hc i pins s σ H E I hf st hg;subst hP hw hK;obtain⟨f0,f1,f2,f3,f4,f5⟩:=hf it (by simp);obtain⟨hd,hi⟩:=hg;obtain⟨pd,xs,r,um⟩:=OA I.aH hd rG;obtain⟨y,z,st⟩:=st;have hx:kvs[i]?=some (kvs[i].1,kvs[i].2):=Ab hi;obtain⟨b,u,eS,hb,ru⟩:=kt_at r hx;have pN:=entry_at um i;rw [eS] at pN;refine ZR st pd (en:=entryOfKey (tupleKind<|dh X.prog X.w) (kvs[i].1,b,u)) pN λh' q1 q2 kp=>?_;have hT:H s.heap.objs.size=none:=I.aH.fresh<|Al _;have nT:it≠s.heap.objs.size:=Bn<|Au st;have I1:Inv X pins σ (upd H s.heap.objs.size<|.tup [.ref b,kvs[i].2]) {s with heap:=s.heap.push {cls:= .type "tuple",data:= .seq #[Value.ref b,u]}}:=
   I.laid (t':=s.toks) (λb o e=>Ag _ e) (Al _) (show aC X.prog X.w _ _ _ (.tup [.ref b,kvs[i].2]) from⟨Z2,[Value.ref b,u],.cons rfl (.cons ru .nil),⟨_,At _ rfl,rfl,_,rfl⟩⟩)
  have fp:∀ c∈[it],b7 X pins (upd H s.heap.objs.size<|.tup [.ref b,kvs[i].2]) c:=λc bj=>by
   have e:c=it:=by simpa using bj
   subst e;exact⟨by rw [ay nT];exact f0,f1,f2,f3,f4,f5⟩
  have I2:=Inv.bM (h':=h') (t':=s.toks) I1 fp λc v bj e=>by
   have nc:c≠it:=by simpa using bj
   rcases Gm e with ⟨ec,eo⟩ | e'
   ·rw [ec,eo];exact q2
   ·exact kp c v nc e'
  refine⟨_,rfl,wpAny_letOwnedTupleGo_items (s:={s with heap:=h'}) q1 λh2 b1 sb=>?_⟩;have I3:=Inv.bM (h':=h2) (t':=s.toks) I2 fp λc v bj e=>(sb.2 c<|by simpa using bj).trans e;exact⟨.ref s.heap.objs.size,_,I3,rfl,⟨_,b,kvs[i].1,kvs[i].2,hx,hb,hT,rfl,rfl⟩,⟨_,_,b1⟩,λc bj=>(fp c bj).1⟩
 done:=by
  intro X hP hw hK hc i pins s σ H E I hf st hg;subst hP hw hK;obtain⟨hd,hi⟩:=hg;obtain⟨pd,xs,r,um⟩:=OA I.aH hd rG;obtain⟨y,z,st⟩:=st;have hl:es.size=kvs.length:=by rw [kt_len r,<- Br,um,Aa]
  exact ZS (I.ok.hd hc) st pd (by omega) λh' eb=>⟨rfl,I.bM (t':=s.toks) hf λc v bj e=>eb c v (by simpa using bj) e⟩
 self:=λ_ _ _ _ _ st h=>let ⟨y,z,e⟩:=st;ZU e h
end
section
variable{X:Cx}
def ZX(to:TE):TI:=λσ H R=>to σ H λx H1=>∃ d kvs,x = .ref d/\H1 d=some (.dT kvs)/\∀ o,R (Itm d o kvs)<|upd H1 d<|.bX o<|.dT kvs
theorem OB{elts:List Expr}{kk:Nat}{tp ap cp:Pos}{l:Expr}{to:TE}(ho:PE X l to)(ci:attributeBase l "items" X.env (eval l X.env)=eval l X.env:=by rfl)(hline:(ap.endLine == cp.line)=true:=by rfl) :
  PI X (.Tuple elts kk tp) (.Call (.Attribute l "items" ap) [] [] cp) (ZX to):=by
 intro pins s σ H R I h;refine wpAny_Call_method0_late ci hline<|aP (ho pins s σ H _ I h) λv s1 ⟨x,H1,I1,r1,q1⟩=>?_;obtain⟨d,kvs,e,hd,q⟩:=q1;subst e;cases (show v=Value.ref d from r1);obtain⟨_,ZY,_,_,o,es,ep,e1,e2,e3,_⟩:=(show aC X.prog X.w H1 s1.heap d (.dT kvs) from I1.aH d _ hd);have ty:s1.TypeIs (.ref d) "dict":=⟨o,e1,e2.1⟩;refine⟨"dict","dict.items",F.plainAttrs_dict,F.slot_dict_items,F.type_dict_items,ty,λa ea=>?_,KQ rfl (PySem.evalArgs_none ?_)⟩
 ·cases ea;exact⟨o,e1,e2.2.1⟩
 refine call_meetsIn F.slot_dict_items ty F.entry_dict_items (F.args_dict_items_1 _) (ZP d ZY) ⟨ty,?_⟩;obtain⟨o',eo,I2⟩:=ZV I1 hd;have:o=o':=Option.some.inj<|e1.symm.trans eo;subst this;have I3:=I2.kept (t':=s1.toks) (h':=s1.heap.push {cls:= .type "dict_items",data:= .fields #[.ref d]}) λb u e=>Ag _ e;refine ZQ (s:={s1 with heap:=s1.heap.push {cls:= .type "dict_items",data:= .fields #[.ref d]}}) (d:=d) (es:=es) (ep:=ep) ⟨_,At _ rfl,rfl,rfl⟩ ⟨o,Ag _ e1,e2,e3⟩ ?_;refine⟨_,[(s1.heap.push {cls:= .type "dict_items",data:= .fields #[.ref d]}).objs.size],_,_,_,rfl,I3.kept (t':=s1.toks) λb u e=>Ag _ e,ZW d _ o es ep kvs e3,⟨_,_,At _ rfl⟩,λb hb=>?_,q o⟩;have e:b=(s1.heap.push {cls:= .type "dict_items",data:= .fields #[.ref d]}).objs.size:=by simpa using hb
 subst e;exact I3.iP (Al _)<|I3.aH.fresh<|Al _
end
section
variable{X:Cx}{tg:Expr}{ifs:List Expr}{inner:Sem Unit}{σ:St}{H:Hp}{d:Addr}{o:Obj}{kvs:List (List Key×V)}{after:St->Hp->Prop}
theorem OC(Pv:Nat->St->Hp->Prop)(h0:Pv 0 σ H)(hl:∀ i σ' H',i<=kvs.length->Pv i σ' H'->H' d=some (.bX o<|.dT kvs))
  (hs:∀ i k x b T σ' H',kvs[i]?=some (k,x)->Pv i σ' H'->H' b=some (.tup<|k.map kV)->H' T=none->Eg X tg (.ref T) σ' (upd H' T<|.tup [.ref b,x]) λσ2 H3=>Ei X ifs σ2 H3 λc H4=>if c=true then iZ X inner σ2 H4 (Pv<|i+1) else Pv (i+1) σ2 H4)
  (hd:∀ σ' H',Pv kvs.length σ' H'->after σ' H'):fm X tg ifs inner (Itm d o kvs) after σ H:=by
 refine⟨λi m σ' H'=>m=kvs.length - i/\i<=kvs.length/\Pv i σ' H',⟨_,rfl,Bt _,h0⟩,?_⟩;rintro i m σ' H' ⟨rfl,hi,p⟩;have q:=hl i σ' H' hi p
 by_cases aY:i < kvs.length
 ·refine .inr ⟨⟨q,aY⟩,Pv<|i+1,λσ' H' p'=>⟨kvs.length - (i+1),by omega,rfl,aY,p'⟩,λv H2 y=>?_⟩;obtain⟨T,b,k,x,hx,hb,hT,rfl,rfl⟩:=y;exact hs i k x b T σ' _ hx p hb hT
 ·have e:i=kvs.length:=by omega
  subst e;exact .inl ⟨⟨q,Al _⟩,hd σ' H' p⟩
end
open bA
def ah{α:Type}:List α->List α
 | []=>[]
 | [a]=>[a]
 | a :: _ :: r=>a :: ah r
theorem jt{α:Type}:∀(xs:List α) (k:Nat),(ah xs)[k]?=xs[2 * k]?
 | [],k=>by simp [ah]
 | [a],0=>rfl
 | [a],k+1=>by
  show([]:List α)[k]?=[a][2 * (k+1)]?;rw [Bc<|Bt _,Bc<|by show 1<=_;omega]
 | a :: b :: r,0=>rfl
 | a :: b :: r,k+1=>by
  show(ah r)[k]?=(a :: b :: r)[2 * (k+1)]?;rw [jt r k,show 2 * (k+1)=2 * k+1+1 by omega];rfl
theorem nr{α:Type}:∀(xs:List α),(ah xs).length=(xs.length+1) / 2
 | []=>by
  show 0=(0+1) / 2;omega
 | [a]=>by
  show 1=(1+1) / 2;omega
 | a :: b :: r=>by
  show(ah r).length+1=(r.length+1+1+1) / 2;rw [nr r];omega
theorem EZ{α:Type}(xs:List α):(ah xs).length<=xs.length:=by
 rw [nr];omega
theorem E1:∀{xs:List V} {us:List Value},aw xs us->aw (ah xs) (ah us)
 | [],us,r=>by
  have:=r.zero;subst this;exact .nil
 | [a],us,r=>by
  obtain⟨u,rfl,ru⟩:=r.one;exact .cons ru .nil
 | a :: b :: r,us,h=>by
  cases h with
  | cons h1 h2=>
   cases h2 with
   | cons h3 h4=>exact .cons h1<|E1 h4
theorem E2{α:Type}(g:Nat->Option α):∀(c:Nat),(∀ k,k < c->∃ v,g k=some v)->((List.range c).filterMap g).length=c/\∀ k,k < c->((List.range c).filterMap g)[k]?=g k
 | 0,_=>⟨rfl,λk h=>absurd h<|Ej _⟩
 | c+1,h=>by
  obtain⟨h1,h2⟩:=E2 g c λk hk=>h k (by omega);obtain⟨v,hv⟩:=h c (by omega);have e:(List.range<|c+1).filterMap g=(List.range c).filterMap g++[v]:=by
   rw [Dh,List.filterMap_append,Dy,hv];rfl
  rw [e];refine⟨by rw [Af,h1];rfl,λk hk=>?_⟩
  by_cases lK:k < c
  ·rw [Ar<|by omega];exact h2 k lK
  ·have:k=c:=by omega
   subst this;rw [Ay (by omega),h1,VG,hv];rfl
theorem ZZ(its:List Value):slicePick its.toArray none none (some 2)=(ah its).toArray:=by
 unfold slicePick;have hb:sliceBounds none none (some 2) its.toArray.size=(0,(its.length:Int),2):=rfl;rw [hb]
 congr 1
 show((sliceRange 0 (its.length:Int) 2).filterMap (its.toArray[·]?))=ah its;have hr:sliceRange 0 (its.length:Int) 2=(List.range<|(its.length+1) / 2).map λk=>2 * k:=by
  unfold sliceRange;have e1:(if(2:Int) > 0 then(if(0:Int) < (its.length:Int) then((its.length:Int) - 0+2 - 1) / 2 else 0) else(if(0:Int) > (its.length:Int) then(0 - (its.length:Int) - 2 - 1) / (-2) else 0)).toNat=(its.length+1) / 2:=by
   rw [BP<|by decide]
   split <;> omega
  show(List.range _).map _=_;rw [e1];exact Ao λk _=>by omega
 rw [hr,List.filterMap_map];obtain⟨h1,h2⟩:=E2 (λk=>its.toArray[2 * k]?) ((its.length+1) / 2) λk hk=>⟨its[2 * k]'(by omega),by rw [<- Bq];exact Ab (l:=its)<|by omega⟩;apply Dl;intro k;show((List.range<|(its.length+1) / 2).filterMap λk=>its.toArray[2 * k]?)[k]?=_
 by_cases hk:k < (its.length+1) / 2
 ·rw [h2 k hk,jt,<- Bq]
 ·rw [Bc (by omega),Bc<|by rw [nr];omega]
section
variable{X:Cx}{σ:St}{H:Hp}{Q:VK}
theorem Z3{e:Expr}{j:Nat}{p1 p2 pos:Pos} (h:Ev X e σ H λx H1=>∃ a xs,x = .ref a/\aq X.K H1 a xs/\∀ p,H1 p=none->Q (.ref p) (upd H1 p<|.lst<|ah xs)) :
  Ev X (.Subscript e (.Slice none none (some<|.Constant (.int 2) j p1) p2) pos) σ H Q:=by
 refine⟨λpins s I=>QX<|aP (h.run pins s I) λv s1 ⟨x,H1,I1,r1,a,xs,ex,hx,q⟩=>?_⟩;subst ex;cases (show v=Value.ref a from r1);refine wpAny_Slice ?_;rw [evalPart_none];refine BL<|BL ?_;rw [QL];refine aP ((aD (X:=X) (i:=2) (j:=j) (p:=p1) (σ:=σ) (H:=H1) (Q:=λy H2=>y = .int 2/\H2=H1) ⟨rfl,rfl⟩).run pins s1 I1) λv2 s2 ⟨y,H2,I2,r2,ey,eh⟩=>?_;subst ey eh;obtain⟨t,rfl⟩:=r2;obtain⟨its,r,pl,hz⟩:=I2.list hx;have hlen:=r.length;have I3:Inv X pins σ H2 {s2 with heap:=s2.heap.push {cls:= .type "slice",data:= .fields #[.none,.none,.int 2 t]}}:=I2.kept (t':=s2.toks) λb ob q=>Ag _ q;have uo:=pl.isList.push {cls:= .type "slice",data:= .fields #[.none,.none,.int 2 t]};show wpAny (model X.prog X.w) X.A (subscriptTail e _ (.ref a)<|.ref s2.heap.objs.size) (EP X pins σ Q) X.xe {s2 with heap:=s2.heap.push {cls:= .type "slice",data:= .fields #[.none,.none,.int 2 t]}};refine tail_any (ops:=[.ref a,.ref s2.heap.objs.size]) (T:= "list") (Heap.IsList.typeIs (s:={s2 with heap:=s2.heap.push {cls:= .type "slice",data:= .fields #[.none,.none,.int 2 t]}}) uo) slot_list_getitem.lookup ?_ (by with_unfolding_all rfl);refine JX (s:={s2 with heap:=s2.heap.push {cls:= .type "slice",data:= .fields #[.none,.none,.int 2 t]}}) uo (Heap.IsSliceOf.new ..) .none .none (.int 2 t) (by decide) ?_ (by rw [Aw];omega);rw [ZZ];exact⟨.ref _,_,I3.oJ (t':=s2.toks) (E1 r)<|By (EZ _) hz,rfl,q _ I3.fresh⟩
end
section
variable{prog:Program}{w:World}{A:Around}{E:Value->Shared->Prop}{s:Shared}
theorem Z4{Q:Value->Shared->Prop}(k:Q (.ref s.heap.objs.size) {s with heap:=s.heap.push (gj w)}):codeAny (model prog w) A (.call (.builtin "set.__new__") ⟨[.type "set"],[]⟩) (wants Q E) s:=by
 refine JT ?_;show wpAny _ A.in1 (checkBuiltinCall "set.__new__" ⟨[.type "set"],[]⟩ >>= λ_=>again<|.builtin "set.__new__" ⟨[.type "set"],[]⟩) _ _ s;refine BJ<|HW PySem.F.newCall_set_0<|BL ⟨JB UJ _,FJ PySem.F.entry_set_new ?_⟩;rw [EY UJ _];unfold Builtin.«set.__new__» Builtin.Frozenset.newClass
 dsimp only
 refine BJ<|BJ<|HW (show isType (.type "set")=pure true from rfl)<|BL ?_;simp only [Dv,Bb,CV];unfold newSet;refine BJ<|BJ<|wp_text ?_
 dsimp only
 simp only [newObj];exact BJ<|QB<|BL<|BL k
theorem Z5{Q:Value->Shared->Prop}(k:Q (.ref s.heap.objs.size) {s with heap:=s.heap.push (gj w)}):wpAny (model prog w) A (call (.type "set") []) Q E s:=by
 obtain⟨c,tl,CY⟩:=PySem.F.called_set.mro;have tY:=PySem.F.called_set.made;have lS:=PySem.F.called_set.sub;refine wpAny_call<|JT ?_;show wpAny _ _ (callAny (.type "set") _) _ _ _;refine BL ⟨Code.quiet_builtin _ (by decide +kernel),FJ PySem.F.entry_type_call ?_⟩;rw [Around.under_plain (weight_type_call_type "set" [] []) rfl];have h1:=PySem.F.called_set.notType;have h2:=PySem.F.called_set.canCreate;have h3:=PySem.F.typeCall_set_0
 repeat (any_goals (first | assumption | wp_step))
 refine JK (Z4 (E:=E) (Q:=λv u=>v = .ref s.heap.objs.size/\u={s with heap:=s.heap.push (gj w)}) ⟨rfl,rfl⟩) λr u hr=>?_;cases r with
 | error e=>exact hr
 | ok fl=>
  cases fl with
  | ret v=>
   obtain⟨rfl,rfl⟩:=hr;have hT:Shared.TypeIs {s with heap:=s.heap.push (gj w)} (.ref s.heap.objs.size) "set":=⟨_,At _ rfl,rfl⟩;have kH:=PySem.F.called_set.init.lookup;have C0:=PySem.F.called_set.init.bind<|.ref s.heap.objs.size
   repeat (any_goals (first | assumption | wp_step))
   refine JK (codeAny_call_builtin (R:=wants (λr u=>r = .none/\Q (.ref s.heap.objs.size) u) E) PySem.F.called_set.init.plain PySem.F.entry_set_init<|check_set_init hT ?_) λr2 u2 o8=>?_
   ·unfold Builtin.«set.__init__» noKeywords
    wp_walk
    exact⟨rfl,k⟩
   ·cases r2 with
    | error e=>exact o8
    | ok f2=>
     cases f2 with
     | ret r=>
      obtain⟨rfl,hq⟩:=o8
      repeat (any_goals (first | assumption | wp_step))
     | _=>exact o8.elim
  | _=>exact hr.elim
theorem Z6{a:Addr}{zs:List Str}{z:Str}{tk:Tok}{Q:Value->Shared->Prop}(S:ax prog w s.heap a zs) (h:Q (.bool<|decide (z∉zs)) {s with toks:=s.toks+1}):wpAny (model prog w) A (compareOp .NotIn (.str z tk)<|.ref a) Q E s:=by
 have hT:=S.typeIs;show wpAny _ _ (do return .bool (!(<- contains (.ref a)<|.str z tk))) Q E s;refine BJ ?_;unfold contains
 try with_reducible refine CG ?_
 refine BJ<|RZ hT PySem.F.slot_set_contains.lookup ?_;show wpAny _ _ (if(some (Value.builtin "set.__contains__") == some Value.none)=true then _ else _) _ E s;rw [BK<|by rw [beq_builtin_none];exact Av];refine BJ<|wpAny_callSpecialUnlessNone?_slot (name:=Str.ofString "__contains__") hT RD<|DG RD hT entry_set_contains ?_<|PySem.F.args_set_contains_2 _ _;unfold Builtin.«frozenset.__contains__» Builtin.Frozenset.oneOther;simp only [Gi,bind_assoc];unfold Builtin.Frozenset.addrOf Builtin.Frozenset.withSetAsKey setContains;refine BJ<|BL ?_
 try dsimp only
 refine BJ<|BL ?_
 try dsimp only
 refine BJ<|wpAny_tryCatch<|CG ?_;refine BJ<|(strKind prog w).pyHash (k:=z) (OD _ _ _ _) ?_;obtain⟨o,es,ep,t,ho,hx,hd,T⟩:=S;refine BJ<|M1 (s:={s with toks:=s.toks+1}) ho hd T (λhz=>?_) λj hj e=>?_
 ·refine BL ?_;show wpAny _ _ (ret<|Value.bool false) _ _ _;rw [BW hz] at h;exact BL ⟨_,rfl,GQ<|BL h⟩
 ·refine BL ?_;show wpAny _ _ (ret<|Value.bool true) _ _ _;have hz:z∈zs:=T.keys.mem_iff.mp (by rw [<- e];exact An.mpr ⟨_,Bu hj,rfl⟩);rw [BR<|not_not_intro hz] at h;exact BL ⟨_,rfl,GQ<|BL h⟩
end
section
variable{X:Cx}{σ:St}{H:Hp}{Q:VK}
theorem Z7{p pos:Pos}(hm:X.mg "set" = none)(h:∀ D,H D=none->Q (.ref D) (upd H D<|bd X.prog X.w D []))(hg:Gl X "set":=by rfl):Ev X (.Call (.Name "set" p) [] [] pos) σ H Q:=by
 refine⟨λpins s I=>Call_<|mU I hg hm MN<|PyProof.Rows.callWith_type0<|Z5 ?_⟩;exact⟨.ref s.heap.objs.size,_,I.laid (t':=s.toks) (λb o e=>Ag _ e) (Al _)<|rz<|CU<|At _ rfl,rfl,h _ I.fresh⟩
theorem Z8:cG X (compareOp .NotIn) (λx y H Q=>∃ z a zs,x = .str z/\y = .ref a/\H a=some (bd X.prog X.w a zs)/\Q (.bl<|decide (z∉zs)) H):=by
 intro pins s σ H x y v u Q I rx ry h;obtain⟨z,a,zs,rfl,rfl,hA,q⟩:=h;obtain⟨t,rfl⟩:=rx;cases (show u=Value.ref a from ry);exact Z6 (I.set hA) ⟨.bl _,H,I.tok _,rfl,q⟩
theorem Z9{o e:Expr}{ap cp:Pos} (h:Ev X o σ H λx H1=>∃ a,x = .ref a/\(∃ zs,H1 a=some (bd X.prog X.w a zs))/\Ev X e σ H1 λy H2=>∃ z zs,y = .str z/\H2 a=some (bd X.prog X.w a zs)/\zs.length+1 < 1000/\Q .non (upd H2 a<|bd X.prog X.w a<|added zs z))
  (ci:attributeBase o "add" X.env (eval o X.env)=eval o X.env:=by rfl)
  (cI:((backTo cp<|starEach [e] X.env).all (λx=>!x.1) && (backToKw cp<|keywordEach [] X.env).all (λx=>x.1.isSome) && decide ([e].length+([]:List Keyword).length+(if([]:List Keyword).isEmpty then 0 else 1) < 30))=true:=by rfl)
  (hline:(ap.endLine == cp.line)=true:=by rfl) (hs:starEach [e] X.env=(false,eval e X.env) :: starEach [] X.env:=by rfl) (db:isStar e=false:=by rfl):Ev X (.Call (.Attribute o "add" ap) [e] [] cp) σ H Q:=by
 refine⟨λpins s I=>wpAny_Call_method_late ci cI hline rfl (aP (h.run pins s I) λv s1 ⟨x,H1,I1,r1,a,ex,⟨zs,hA⟩,h2⟩=>?_)⟩;subst ex;cases (show v=Value.ref a from r1);have S:=I1.set hA;refine⟨"set","set.add",PySem.F.plainAttrs_set,PySem.F.slot_set_add,PySem.F.type_set_add,S.typeIs,λb eb=>?_,?_⟩
 ·cases eb;obtain⟨o,_,_,_,ho,hx,_⟩:=S;exact⟨o,ho,hx.2.1⟩
 have hE:Ea X [e] σ H1 (λys H2=>∃ z zs,ys=[.str z]/\H2 a=some (bd X.prog X.w a zs)/\zs.length+1 < 1000/\Q .non (upd H2 a<|bd X.prog X.w a<|added zs z)):=ai (h2.mono λy H2 ⟨z,zs,ey,q⟩=>az ⟨z,zs,by rw [ey],q⟩) db;have OG:=hE.run cp pins s1 I1;rw [hs] at OG ⊢;refine KQ rfl (NQ ?_);refine aP OG λus s2 ⟨vs,H2,I2,r2,z,ys,ev,OH,hl,q⟩=>?_;subst ev;obtain⟨u,rfl,ru⟩:=vals1 r2;obtain⟨tk,rfl⟩:=ru;refine Oy (I2.set OH) hl λh' sb S'=>⟨.non,_,mX (t':=s2.toks+1) I2 (by rw [OH];exact True.intro) sb ?_<|rz S',rfl,q⟩;obtain⟨o,_,_,_,ho,_⟩:=S';exact⟨o,ho⟩
end
end L2
namespace Nt
open PySem L2
def dL(c:Int)(n:Net)(e:End):End:=(e.1,(((e.2:Int)+c) % ((row n e.1).length:Int)).toNat)
theorem rM{c:Int}{n:Net}{e:End}(h:e∈ends n):(((dL c n e).2:Nat):Int)=((e.2:Int)+c) % ((row n e.1).length:Int):=by
 obtain⟨z,hz⟩:=af.mp h;have:=gM hz;exact Int.toNat_of_nonneg<|Bx _<|by omega
theorem OI{c:Int}{n:Net}{e:End}(h:e∈ends n):dL c n e∈ends n:=by
 obtain⟨z,hz⟩:=af.mp h;have h1:=gM hz;have h2:=rM (c:=c) h;have h3:((e.2:Int)+c) % ((row n e.1).length:Int) < ((row n e.1).length:Int):=Ce _ (by omega);exact af.mpr<|xq (e:=dL c n e)<|by show(dL c n e).2 < (row n e.1).length;omega
theorem pP{c:Int}{n:Net}{e:End}(h:e∈ends n):dL (-c) n (dL c n e)=e:=by
 have h2:=rM (c:=c) h;have h3:=rM (c:=-c)<|OI (c:=c) h;obtain⟨z,hz⟩:=af.mp h;have h1:=gM hz;have hr:(dL c n e).1=e.1:=rfl;rw [hr,h2] at h3;have e1:(((e.2:Int)+c) % ((row n e.1).length:Int)+-c) % ((row n e.1).length:Int)=(e.2:Int):=by
  have:(((e.2:Int)+c) % ((row n e.1).length:Int)+-c) % ((row n e.1).length:Int)=((e.2:Int)+c+-c) % ((row n e.1).length:Int):=by
   rw [Int.add_emod,Int.emod_emod,<- Int.add_emod]
  rw [this,show(e.2:Int)+c+-c=(e.2:Int) by omega];exact Int.emod_eq_of_lt (by omega)<|by omega
 rw [e1] at h3;have h4:(dL (-c) n<|dL c n e).2=e.2:=by omega
 exact HN rfl h4
theorem OL{c:Int}{n:Net}{a b:End}(ha:a∈ends n)(hb:b∈ends n)(h:dL c n a=dL c n b):a=b:=by
 rw [<- pP (c:=c) ha,<- pP (c:=c) hb,h]
theorem OM{n:Net}{e:End}(h:e∈ends n):left n e=dL 1 n e:=by
 have h2:=rM (c:=1) h;refine HN rfl ?_;show(e.2+1) % (row n e.1).length=(dL 1 n e).2;have:(((e.2+1) % (row n e.1).length:Nat):Int)=((e.2:Int)+1) % ((row n e.1).length:Int):=by simp
 omega
def go(c:Int)(n:Net)(e:End):End:=dL c n<|other n e
theorem e9{c:Int}{n:Net}(T:av n){e:End}(h:e∈ends n):go c n e∈ends n:=OI<|cX T h
theorem go_inj{c:Int}{n:Net}(T:av n){a b:End}(ha:a∈ends n)(hb:b∈ends n)(h:go c n a=go c n b):a=b:=N6 T ha hb<|OL (cX T ha) (cX T hb) h
theorem xY{n:Net}(T:av n){e:End}(h:e∈ends n):step n e=go 1 n e:=OM<|cX T h
def two(n:Net)(e:End):End:=go (-1) n<|go 1 n e
theorem kR{n:Net}(T:av n){e:End}(h:e∈ends n):two n e∈ends n:=e9 T<|e9 T h
theorem rN{n:Net}(T:av n){a b:End}(ha:a∈ends n)(hb:b∈ends n)(h:two n a=two n b):a=b:=go_inj T ha hb<|go_inj T (e9 T ha) (e9 T hb) h
def wk(n:Net)(e:End):Nat->List End
 | 0=>[]
 | k+1=>wk n e k++[it (two n) k e,go 1 n<|it (two n) k e]
theorem pQ(n:Net)(e:End):∀ k,(wk n e k).length=2 * k
 | 0=>rfl
 | k+1=>by
  show(wk n e k++_).length=_;rw [Af,pQ n e k];show 2 * k+2=_;omega
theorem pR(n:Net)(e:End):∀(k i:Nat),i < k->(wk n e k)[2 * i]?=some (it (two n) i e)
 | 0,i,h=>absurd h<|Ej _
 | k+1,i,h=>by
  show(wk n e k++[it (two n) k e,go 1 n<|it (two n) k e])[2 * i]?=_;have l:=pQ n e k
  by_cases hk:i < k
  ·rw [Ar<|by omega];exact pR n e k i hk
  ·have:i=k:=by omega
   subst this;rw [Ay (by omega),l,VG];rfl
theorem xZ(n:Net)(e:End):∀(k i:Nat),i < k->(wk n e k)[2 * i+1]?=some (go 1 n<|it (two n) i e)
 | 0,i,h=>absurd h<|Ej _
 | k+1,i,h=>by
  show(wk n e k++[it (two n) k e,go 1 n<|it (two n) k e])[2 * i+1]?=_;have l:=pQ n e k
  by_cases hk:i < k
  ·rw [Ar<|by omega];exact xZ n e k i hk
  ·have:i=k:=by omega
   subst this;rw [Ay (by omega),l,show 2 * i+1 - 2 * i=1 by omega];rfl
theorem Z'(n:Net)(e:End)(k:Nat):ah (wk n e k)=(List.range k).map λi=>it (two n) i e:=by
 apply Dl;intro i;rw [jt,Aj]
 by_cases h:i < k
 ·rw [pR n e k i h,Dz h];rfl
 ·rw [Bc (by rw [pQ];omega),Bc<|by rw [Fh];omega];rfl
theorem E3{n:Net}(T:av n){e:End}(h:e∈ends n):∀ k,∀ c∈wk n e k,c∈ends n
 | 0,c,hc=>by cases hc
 | k+1,c,hc=>by
  have hk:it (two n) k e∈ends n:=jN (λa ha=>kR T ha) h k
  rcases Am.mp hc with hc | hc
  ·exact E3 T h k c hc
  ·rcases Ai.mp hc with rfl | hc
   ·exact hk
   ·rw [Ad.mp hc];exact e9 T hk
structure i8(n:Net)(e:End)(k:Nat):Prop where
 pos:0 < k
 back:it (two n) k e=e
 first:∀ i,0 < i->i < k->it (two n) i e≠e
theorem i8.unique{n:Net}{e:End}{k l:Nat}(a:i8 n e k)(b:i8 n e l):k=l:=by
 rcases QW k l with h | h | h
 ·exact absurd a.back<|b.first k a.pos h
 ·exact h
 ·exact absurd b.back<|a.first l b.pos h
noncomputable def uq(n:Net)(e:End):Nat:=by classical exact if h:∃ k,i8 n e k then h.choose else 0
theorem ur{n:Net}{e:End}{k:Nat}(h:i8 n e k):uq n e=k:=by
 have hx:∃ k,i8 n e k:=⟨k,h⟩;unfold uq;rw [dif_pos hx];exact hx.choose_spec.unique h
noncomputable def walker(n:Net)(e:End):List End:=wk n e<|uq n e
structure jT(n:Net)(ws:List End):Prop where
 ends:∀ c∈ws,c∈Nt.ends n
 ne0:0 < ws.length
 even:ws.length % 2=0
 few:ws.length<=2 * (Nt.ends n).length
 at':∀ k,k < ws.length->∃ c,ws[k]?=some c/\ws[(k+1) % ws.length]?=some (go (1 - 2 * ((k:Int) % 2)) n c)
theorem q9f{n:Net}(T:av n){e:End}(h:e∈Nt.ends n){k:Nat}(p:i8 n e k)(hk:k<=(Nt.ends n).length):jT n (wk n e k):=by
 have l:=pQ n e k;have p0:=p.pos;refine⟨E3 T h k,by omega,by omega,by omega,λj hj=>?_⟩;rw [l] at hj ⊢
 rcases QM j with h2 | h2
 ·obtain⟨i,rfl⟩:∃ i,j=2 * i:=⟨j / 2,by omega⟩;refine⟨_,pR n e k i (by omega),?_⟩;rw [Cc (by omega),xZ n e k i<|by omega];have:(1:Int) - 2 * (((2 * i:Nat):Int) % 2)=1:=by omega
  rw [this]
 ·obtain⟨i,rfl⟩:∃ i,j=2 * i+1:=⟨j / 2,by omega⟩;refine⟨_,xZ n e k i (by omega),?_⟩;have e1:(1:Int) - 2 * (((2 * i+1:Nat):Int) % 2)=-1:=by omega
  rw [e1];show _=some (two n<|it (two n) i e)
  by_cases hl:i+1 < k
  ·rw [Cc (by omega),show 2 * i+1+1=2 * (i+1) by omega];exact pR n e k (i+1) hl
  ·have:i+1=k:=by omega
   rw [show 2 * i+1+1=2 * k by omega,Ed];have e2:two n (it (two n) i e)=it (two n) k e:=by rw [<- this];rfl
   rw [e2,p.back];exact pR n e k 0<|by omega
def aA(n:Net)(e:End):Str:=(aN n e).getD ⟨#[]⟩
theorem dj{n:Net}{e:End}{z:Str}(h:aN n e=some z):aA n e=z:=by unfold aA;rw [h];rfl
noncomputable def dM(n:Net):List End->List Str->List (List End)
 | [],_=>[]
 | e :: r,told=>if aA n e∈told then dM n r told else walker n e :: dM n r (told++(ah<|walker n e).map (aA n))
theorem rO{n:Net}(T:av n){e:End}(h:e∈ends n):∃ k,i8 n e k/\k<=(ends n).length:=by
 obtain⟨k,k0,k1,k2⟩:=xr (f:=two n) (S:=ends n) (λa ha=>kR T ha) (λa ha b hb=>rN T ha hb) h;have aux:∀ m,∀ k,k<=m->0 < k->it (two n) k e=e->∃ j,j<=k/\i8 n e j:=by
  intro m
  induction m with
  | zero=>intro k h1 h2;omega
  | succ m ih=>
   intro k h1 h2 h3
   by_cases c:∃ i,0 < i/\i < k/\it (two n) i e=e
   ·obtain⟨i,i1,i2,i3⟩:=c;obtain⟨j,j1,j2⟩:=ih i (by omega) i1 i3;exact⟨j,by omega,j2⟩
   ·exact⟨k,Al _,h2,h3,λi i1 i2 i3=>c ⟨i,i1,i2,i3⟩⟩
 obtain⟨j,j1,j2⟩:=aux k k (Al _) k0 k2;exact⟨j,j2,by omega⟩
theorem k8l{n:Net}(T:av n){e:End}(h:e∈ends n):jT n (walker n e):=by
 obtain⟨k,p,hk⟩:=rO T h;unfold walker;rw [ur p];exact q9f T h p hk
theorem jU{n:Net}(T:av n):∀(es:List End) (told:List Str),(∀ e∈es,e∈ends n)->∀ w∈dM n es told,jT n w
 | [],_,_,w,hw=>by cases hw
 | e :: r,told,h,w,hw=>by
  unfold dM at hw
  split at hw
  ·exact jU T r told (λa ha=>h a<|Ah _ ha) w hw
  ·rcases Ai.mp hw with rfl | hw
   ·exact k8l T<|h e<|Ae ..
   ·exact jU T r _ (λa ha=>h a<|Ah _ ha) w hw
theorem ut(n:Net):∀(es:List End) (told:List Str),(dM n es told).length<=es.length
 | [],_=>Al _
 | e :: r,told=>by
  unfold dM
  split
  ·have:=ut n r told;show _<=r.length+1;omega
  ·have:=ut n r<|told++(ah<|walker n e).map (aA n);show _+1<=r.length+1;omega
end Nt
namespace Nt
variable{α β:Type}
def gO(f:α->α):List α->α->α->Prop
 | [],a,b=>a=b
 | x :: l,a,b=>x=a/\gO f l (f x) b
theorem bW{f:α->α}:∀{l k:List α} {a b:α},gO f (l++k) a b↔∃ c,gO f l a c/\gO f k c b
 | [],k,a,b=>⟨λh=>⟨a,rfl,h⟩,λ⟨c,e,h⟩=>by cases e;exact h⟩
 | x :: l,k,a,b=>by
  show(x=a/\gO f (l++k) (f x) b)↔∃ c,(x=a/\gO f l (f x) c)/\gO f k c b;rw [bW];exact⟨λ⟨e,c,h1,h2⟩=>⟨c,⟨e,h1⟩,h2⟩,λ⟨c,⟨e,h1⟩,h2⟩=>⟨e,c,h1,h2⟩⟩
theorem E4{f:α->α}{f':β->β}{g:α->β}:∀{l:List α} {a b:α},(∀ x∈l,f' (g x)=g (f x))->gO f l a b->gO f' (l.map g) (g a) (g b)
 | [],_,_,_,h=>BZ g h
 | x :: l,a,b,hg,h=>⟨BZ g h.1,by rw [hg x Ae];exact E4 (λy hy=>hg y<|Ah _ hy) h.2⟩
theorem x4{f:α->α}:∀{l:List α} {x a b y:α},gO f (x :: l) a b->y∈x :: l->f y∈l\/f y=b
 | [],x,a,b,y,h,hy=>by
  rw [Ad] at hy;subst hy;exact .inr h.2
 | z :: l,x,a,b,y,h,hy=>by
  rcases Ai.mp hy with rfl | hy
  ·exact .inl<|by rw [<- h.2.1];exact Ae
  ·rcases x4 h.2 hy with q | q
   ·exact .inl<|Ah _ q
   ·exact .inr q
theorem E5{f:α->α}{l:List α}{a y:α}(h:gO f l a a)(ha:a∈l)(hy:y∈l):f y∈l:=by
 cases l with
 | nil=>cases hy
 | cons x l=>
  rcases x4 h hy with q | q
  ·exact Ah _ q
  ·rw [q];exact ha
theorem x5{f:α->α}{f':β->β}{g:α->β}{c:α}{h:β}:∀{l:List α} {x:α},(∀ y∈x :: l,f y=c->f' (g y)=h)->(∀ y∈x :: l,f y≠c->f' (g y)=g (f y))->c∉l->gO f (x :: l) x c->gO f' ((x :: l).map g) (g x) h
 | [],x,h1,_,_,p=>⟨rfl,h1 x Ae p.2⟩
 | y :: l,x,h1,h2,hc,p=>by
  have e:y=f x:=p.2.1;have ne:f x≠c:=λq=>hc (by rw [<- q,<- e];exact Ae);refine⟨rfl,?_⟩;rw [h2 x Ae ne,<- e];refine x5 (λz hz=>h1 z<|Ah _ hz) (λz hz=>h2 z<|Ah _ hz) (λq=>hc<|Ah _ q) ?_;exact⟨rfl,p.2.2⟩
structure Dec(f:α->α)(D:List α)(Ls:List<|List α):Prop where
 jV:∀ l∈Ls,∃ a,a∈l/\gO f l a a
 all:Ls.flatten.Perm D
 nd:D.Nodup
theorem Dec.sub{f:α->α}{D:List α}{Ls:List (List α)}(d:Dec f D Ls){l:List α}(hl:l∈Ls){x:α}(hx:x∈l):x∈D:=
 d.all.mem_iff.mp (Fr.mpr ⟨l,hl,hx⟩)
theorem Dec.pick{f:α->α}{D:List α}{Ls:List (List α)}(d:Dec f D Ls){c:α}(hc:c∈D):∃ l Ms,Ls.length=Ms.length+1/\Dec f D ((c :: l) :: Ms):=by
 obtain⟨l,hl,i5⟩:=Fr.mp<|d.all.mem_iff.mpr hc;obtain⟨A,B,rfl⟩:=Fy hl;obtain⟨p,q,rfl⟩:=Fy i5;obtain⟨a,ha,h⟩:=d.jV _ hl;obtain⟨m,h1,h2⟩:=bW.mp h;have e:c=m:=h2.1;subst e;refine⟨q++p,A++B,by simp [Nat.add_assoc],λk hk=>?_,?_,d.nd⟩
 ·rcases Ai.mp hk with rfl | hk
  ·exact⟨c,Ae,bW (l:=c :: q).mpr ⟨a,h2,h1⟩⟩
  ·refine d.jV k ?_
   rcases Am.mp hk with q | q
   ·exact Bd _ q
   ·exact Ax _<|Ah _ q
 ·refine List.Perm.trans ?_ d.all;simp only [Dc,Fs,Fq];have e1:(c :: (q++p)).Perm (p++c :: q):=by
   rw [<- Fq];exact Ci
  refine((e1.append_right _).trans ?_);rw [<- Aq,<- Aq];exact(Ci).append_right _
theorem Dec.apart{f:α->α}{D:List α}{l:List α}{Ms:List (List α)}(d:Dec f D<|l :: Ms):l.Nodup/\∀ m∈Ms,∀ x∈l,x∉m:=by
 have h:=d.all.nodup_iff.mpr d.nd;rw [Dc,Co] at h;exact⟨h.1,λm hm x hx E6=>h.2.2 x hx x (Fr.mpr ⟨m,hm,E6⟩) rfl⟩
theorem x6{g:α->β}:∀(Ls:List<|List α),(Ls.map<|List.map g).flatten=Ls.flatten.map g
 | []=>rfl
 | l :: Ls=>by rw [Bj,Dc,x6 Ls,Dc,Ak]
theorem Dec.rest{f:α->α}{f':β->β}{g:α->β}{D:List α}{l:List α}{Ms:List (List α)}(d:Dec f D<|l :: Ms)(ho:∀ x∈D,f x∉l->f' (g x)=g (f x)):∀ m∈Ms.map (List.map g),∃ a,a∈m/\gO f' m a a:=by
 intro m hm;obtain⟨k,hk,rfl⟩:=An.mp hm;obtain⟨a,ha,p⟩:=d.jV k<|Ah _ hk;refine⟨g a,An.mpr ⟨a,ha,rfl⟩,E4 (λx hx=>ho x (d.sub (Ah _ hk) hx) λq=>?_) p⟩;exact d.apart.2 k hk _ q<|E5 p ha hx
theorem Dec.grow{f:α->α}{f':β->β}{g:α->β}{D:List α}{c:α}{l:List α}{Ms:List (List α)}(d:Dec f D<|(c :: l) :: Ms){new:List β}{h:β}(hn:gO f' new h<|g c)(hh:∀ x∈D,f x=c->f' (g x)=h)(ho:∀ x∈D,f x≠c->f' (g x)=g (f x))(nd:(D.map g++new).Nodup) :
  Dec f' (D.map g++new) (((c :: l).map g++new) :: Ms.map (List.map g)):=by
 have ap:=d.apart;have i5:c∉l:=(Bf.mp ap.1).1;refine⟨λk hk=>?_,?_,nd⟩
 ·rcases Ai.mp hk with rfl | hk
  ·obtain⟨a,ha,p⟩:=d.jV _ Ae;have e:c=a:=p.1;subst e;exact⟨g c,Bd _ Ae,bW.mpr ⟨h,x5 (λy hy=>hh y<|d.sub Ae hy) (λy hy=>ho y<|d.sub Ae hy) i5 p,hn⟩⟩
  ·exact d.rest (λx hx q=>ho x hx λe=>q<|by rw [e];exact Ae) k hk
 ·rw [Dc,x6];have:=d.all.map g;rw [Dc,Ak] at this;refine List.Perm.trans ?_<|this.append_right new;rw [Aq,Aq];exact(Ci).append_left _
theorem Dec.split{f:α->α}{f':β->β}{g:α->β}{D:List α}{c d0:α}{l:List α}{Ms:List (List α)}(d:Dec f D<|(c :: l) :: Ms)(hd:d0∈l){e1 e2:β}(h1:f' e1=g d0)(h2:f' e2=g c)(hc:∀ x∈D,f x=c->f' (g x)=e1)(hc2:∀ x∈D,f x=d0->f' (g x)=e2)(ho:∀ x∈D,f x≠c->f x≠d0->f' (g x)=g (f x))(nd:(D.map g++[e1,e2]).Nodup) :
  ∃ Ls,Ls.length=Ms.length+2/\Dec f' (D.map g++[e1,e2]) Ls/\∃ l∈Ls,e2∈l/\e1∉l:=by
 have ap:=d.apart;obtain⟨p,q,rfl⟩:=Fy hd;have E7:=Bf.mp ap.1;have OO:=Co.mp E7.2;have ap3:=Bf.mp OO.2.1;have hdp:d0∉p:=λx=>OO.2.2 d0 x d0 Ae rfl;have hcp:c∉p:=λx=>E7.1<|Bd _ x;have hcq:c∉q:=λx=>E7.1<|Ax _<|Ah _ x;obtain⟨a,ha,pp⟩:=d.jV _ Ae;have e:c=a:=pp.1;subst e;obtain⟨m,p1,p2⟩:=(bW (l:=c :: p)).mp pp;have e:d0=m:=p2.1;subst e;have inD:∀ y∈c :: p,y∈D:=λy hy=>d.sub Ae (by
  rcases Ai.mp hy with rfl | hy
  ·exact Ae
  ·exact Ah _<|Bd _ hy)
 have uv:∀ y∈d0 :: q,y∈D:=λy hy=>d.sub Ae<|Ah _<|Ax _ hy;have E9:=Co.mp nd;have e12:e1≠e2:=λe=>by
  have:=E9.2.1;rw [e] at this;simp at this
 refine⟨((c :: p).map g++[e2]) :: ((d0 :: q).map g++[e1]) :: Ms.map (List.map g),by simp,⟨λk hk=>?_,?_,nd⟩,_,Ae,Ax _<|Ad.mpr rfl,λh=>?_⟩
 ·rcases Ai.mp hk with rfl | hk
  ·refine⟨g c,Bd _ Ae,bW.mpr ⟨e2,x5 (λy hy=>hc2 y<|inD y hy) (λy hy ne=>ho y (inD y hy) (λec=>?_) ne) hdp p1,rfl,h2⟩⟩
   rcases x4 p1 hy with z | z
   ·exact hcp<|by rw [<- ec];exact z
   ·exact ne z
  ·rcases Ai.mp hk with rfl | hk
   ·refine⟨g d0,Bd _ Ae,bW.mpr ⟨e1,x5 (λy hy=>hc y<|uv y hy) (λy hy ne=>ho y (uv y hy) ne λec=>?_) hcq p2,rfl,h1⟩⟩
    rcases x4 p2 hy with z | z
    ·exact ap3.1<|by rw [<- ec];exact z
    ·exact ne z
   ·exact d.rest (λx hx q=>ho x hx (λe=>q<|by rw [e];exact Ae) λe=>q<|by rw [e];exact Ah _<|Ax _ Ae) k hk
 ·simp only [Dc,x6];have:=d.all.map g;rw [Dc,Ak,<- Fq,Ak] at this;refine List.Perm.trans ?_<|this.append_right [e1,e2];generalize (c :: p).map g=A;generalize (d0 :: q).map g=B;generalize Ms.flatten.map g=C
  letI:DecidableEq β:=λa b=>Classical.propDecidable<|a=b
  rw [List.perm_iff_count];intro z;simp only [Ep,Cy,List.count_nil];omega
 ·rcases Am.mp h with h | h
  ·obtain⟨y,hy,e⟩:=An.mp h;exact E9.2.2 e1 (An.mpr ⟨y,inD y hy,e⟩) e1 Ae rfl
  ·exact e12<|Ad.mp h
theorem Dec.more{f:β->β}{D:List β}{Ls:List (List β)}(d:Dec f D Ls){b:β}(hb:f b=b)(nd:(D++[b]).Nodup):Dec f (D++[b]) (Ls++[[b]]):=by
 refine⟨λl hl=>?_,?_,nd⟩
 ·rcases Am.mp hl with h | h
  ·exact d.jV l h
  ·rw [Ad] at h;subst h;exact⟨b,Ae,rfl,hb⟩
 ·rw [Fs];exact d.all.append_right _
theorem Dec.carry{f:α->α}{f':β->β}{g:α->β}{D:List α}{D':List β}{Ls:List (List α)}(d:Dec f D Ls)(ho:∀ x∈D,f' (g x)=g (f x))(hD:(D.map g).Perm D')(nd:D'.Nodup):Dec f' D' (Ls.map<|List.map g):=by
 refine⟨λm hm=>?_,?_,nd⟩
 ·obtain⟨k,hk,rfl⟩:=An.mp hm;obtain⟨a,ha,p⟩:=d.jV k hk;exact⟨g a,An.mpr ⟨a,ha,rfl⟩,E4 (λx hx=>ho x<|d.sub hk hx) p⟩
 ·rw [x6];exact(d.all.map g).trans hD
open PySem
theorem uw{α:Type} [DecidableEq α]:∀{a b:List α},a.Nodup->(∀ z∈a,z∈b)->b.length<=a.length->a.Perm b
 | [],b,_,_,hl=>by
  have:b=[]:=Bi.mp<|Nat.le_zero.mp hl;rw [this]
 | x :: a,b,nd,sub,hl=>by
  have uz:=Bf.mp nd;have hx:=sub x Ae;have pb:=List.perm_cons_erase hx;refine List.Perm.trans ((uw uz.2 (λz hz=>?_) ?_).cons x) pb.symm
  ·exact(Fk λe=>uz.1<|by rw [<- e];exact hz).mpr<|sub z<|Ah _ hz
  ·have:=pb.length_eq;rw [As] at this hl;omega
theorem jW{n:Net}(T:av n){a b:End}{z:Str}(ha:aN n a=some z)(hb:aN n b=some z)(ne:a≠b):other n a=b:=by
 obtain⟨h1,_,h3⟩:=dJ T ha;obtain⟨p,q,e,_,_⟩:=nh T ha;have m1:=aG.mpr ha;have m2:=aG.mpr hb;have m3:=aG.mpr h1;rw [e] at m1 m2 m3;simp only [Ai,Bw,FP] at m1 m2 m3
 rcases m1 with rfl | rfl <;> rcases m2 with rfl | rfl <;> rcases m3 with m3 | m3 <;> first | exact m3 | exact absurd rfl ne | exact absurd m3 h3
def sh(c e:End):End:=if e.1=c.1/\c.2<=e.2 then(e.1,e.2+1) else e
theorem me(c e:End):(sh c e).1=e.1:=by unfold sh;split <;> rfl
theorem nw{c a b:End}(h:sh c a=sh c b):a=b:=by
 have h1:a.1=b.1:=by rw [<- me c a,h,me]
 have h2:=BZ Prod.snd h;unfold sh at h2;refine HN h1 ?_
 by_cases x:a.1=c.1/\c.2<=a.2
 ·rw [BP x] at h2
  by_cases y:b.1=c.1/\c.2<=b.2
  ·rw [BP y] at h2;exact Nat.succ.inj h2
  ·rw [BK y] at h2;have h2:a.2+1=b.2:=h2;exact absurd ⟨h1 ▸ x.1,by omega⟩ y
 ·rw [BK x] at h2
  by_cases y:b.1=c.1/\c.2<=b.2
  ·rw [BP y] at h2;have h2:a.2=b.2+1:=h2;exact absurd ⟨h1 ▸ y.1,by omega⟩ x
  ·rw [BK y] at h2;exact h2
theorem nB(c e:End):sh c e≠c:=by
 intro h;have h1:e.1=c.1:=by rw [<- me c e,h]
 have h2:=BZ Prod.snd h;unfold sh at h2
 by_cases x:e.1=c.1/\c.2<=e.2
 ·rw [BP x] at h2;have h2:e.2+1=c.2:=h2;omega
 ·rw [BK x] at h2;exact x ⟨h1,by omega⟩
section
variable{n:Net}{c:End}{z:Str}
theorem rP(hc:c.1 < n.length)(hp:c.2<=(row n c.1).length)(i:Nat):(row (ins n c z) i).length=if c.1=i then(row n i).length+1 else(row n i).length:=by
 rw [rE n c z i hc]
 by_cases h:c.1=i
 ·subst h;rw [BP rfl,BP rfl,Af,As,Bk,Cg];omega
 ·rw [BK h,BK h]
theorem E'(hc:c.1 < n.length)(hp:c.2<=(row n c.1).length):aN (ins n c z) c=some z:=by
 unfold aN;rw [rE n c z c.1 hc,BP rfl,Ay (by rw [Bk];omega),Bk,show c.2 - min c.2 (row n c.1).length=0 by omega];rfl
theorem rQ(hc:c.1 < n.length)(hp:c.2<=(row n c.1).length)(e:End):aN (ins n c z) (sh c e)=aN n e:=by
 unfold aN;rw [me,rE n c z e.1 hc];unfold sh
 by_cases h:c.1=e.1
 ·rw [BP h]
  by_cases k:c.2<=e.2
  ·rw [BP ⟨h.symm,k⟩,Ay (by rw [Bk];show _<=e.2+1;omega),Bk];show(z :: (row n e.1).drop c.2)[e.2+1 - min c.2 (row n e.1).length]?=_;rw [<- h,show e.2+1 - min c.2 (row n c.1).length=(e.2 - c.2)+1 by omega,Ga,De,show c.2+(e.2 - c.2)=e.2 by omega]
  ·rw [BK λq=>k q.2,Ar (by rw [Bk,<- h];omega),Do<|by omega]
 ·rw [BK h,BK λq=>h q.1.symm]
theorem nD(hc:c.1 < n.length)(hp:c.2 < (row n c.1).length):left (ins n c z) c=sh c c:=by
 unfold left sh;rw [rP hc<|Cm hp,BP rfl,BP ⟨rfl,Al _⟩,Cc<|by omega]
theorem iF(hc:c.1 < n.length)(hp:c.2 < (row n c.1).length){e:End}(he:e.2 < (row n e.1).length):left (ins n c z) (sh c e)=if left n e=c then c else sh c (left n e):=by
 by_cases h:c.1=e.1
 ·have e1:(left n e).1=e.1:=rfl;have e2:(left n e).2=(e.2+1) % (row n e.1).length:=rfl;have q:(left n e=c)↔(e.2+1) % (row n e.1).length=c.2:=⟨λx=>by rw [<- e2,x],λx=>HN h.symm x⟩;have L:(left (ins n c z) (sh c e))=(e.1,((sh c e).2+1) % ((row n e.1).length+1)):=by
   unfold left;rw [me,rP hc<|Cm hp,BP h]
  rw [L];rw [h] at hp;have S:(sh c e).2=if c.2<=e.2 then e.2+1 else e.2:=by
   unfold sh
   by_cases k:c.2<=e.2
   ·rw [BP ⟨h.symm,k⟩,BP k]
   ·rw [BK λq=>k q.2,BK k]
  have S2:sh c (left n e)=(e.1,if c.2<=(e.2+1) % (row n e.1).length then(e.2+1) % (row n e.1).length+1 else(e.2+1) % (row n e.1).length):=by
   unfold sh
   by_cases k:c.2<=(e.2+1) % (row n e.1).length
   ·rw [BP ⟨h.symm,k⟩,BP k];rfl
   ·rw [BK λq=>k q.2,BK k];rfl
  rw [S,S2];generalize (row n e.1).length=m at *
  by_cases k:e.2+1 < m
  ·rw [Cc k] at q ⊢
   by_cases j:e.2+1=c.2
   ·rw [BP<|q.mpr j,BK (by omega),Cc<|by omega];exact HN h.symm j
   ·rw [BK λx=>j<|q.mp x]
    by_cases i:c.2<=e.2
    ·rw [BP i,BP (by omega),Cc<|by omega]
    ·rw [BK i,BK (by omega),Cc<|by omega]
  ·have em:e.2+1=m:=by omega
   rw [em,Ed] at q ⊢;rw [BP (by omega),Ed]
   by_cases j:0=c.2
   ·rw [BP<|q.mpr j];exact HN h.symm j
   ·rw [BK λx=>j<|q.mp x,BK<|by omega]
 ·have ne:left n e≠c:=λx=>h (by rw [<- x];rfl);rw [BK ne];have s1:sh c e=e:=by unfold sh;rw [BK λq=>h q.1.symm]
  have s2:sh c (left n e)=left n e:=by unfold sh;rw [BK λq=>h q.1.symm]
  rw [s1,s2];unfold left;rw [rP hc<|Cm hp,BK h]
end
def Pl(n:Net):Prop:=(ag n=[]/\n.length=1)\/∃ Ls,Dec (step n) (ends n) Ls/\2 * (n.length+Ls.length)=(ag n).length+4
structure d8(n m:Net)(g:End->End)(e1 e2:End)(z:Str):Prop where
 cR:∀ e∈ends n,aN m (g e)=aN n e
 t1:aN m e1=some z
 t2:aN m e2=some z
 inj:∀ a b,g a=g b->a=b
 n1:∀ a∈ends n,g a≠e1
 n2:∀ a∈ends n,g a≠e2
 ne:e1≠e2
 len:(ag m).length=(ag n).length+2
section
variable{n m:Net}{g:End->End}{e1 e2:End}{z:Str}
theorem d8.nd(p:d8 n m g e1 e2 z):((ends n).map g++[e1,e2]).Nodup:=by
 rw [Co];refine⟨?_,?_,?_⟩
 ·exact(Er.mpr<|(rB n).imp λ{a b} h e=>h<|p.inj a b e)
 ·simp [p.ne]
 ·rintro a ha b hb rfl;obtain⟨x,hx,rfl⟩:=An.mp ha;simp only [Ai,Bw,FP] at hb
  rcases hb with h | h
  ·exact p.n1 x hx h
  ·exact p.n2 x hx h
theorem d8.perm(p:d8 n m g e1 e2 z):((ends n).map g++[e1,e2]).Perm (ends m):=by
 refine uw p.nd (λa ha=>?_)<|by rw [i7,p.len,Af,Aa,i7];exact Al _
 rcases Am.mp ha with h | h
 ·obtain⟨x,hx,rfl⟩:=An.mp h;obtain⟨y,hy⟩:=af.mp hx;exact af.mpr ⟨y,by rw [p.cR x hx];exact hy⟩
 ·simp only [Ai,Bw,FP] at h
  rcases h with rfl | rfl
  ·exact af.mpr ⟨z,p.t1⟩
  ·exact af.mpr ⟨z,p.t2⟩
theorem d8.g6(p:d8 n m g e1 e2 z)(T:av n)(T':av m){e:End}(he:e∈ends n):other m (g e)=g (other n e):=by
 obtain⟨y,hy⟩:=af.mp he;obtain⟨h1,_,h3⟩:=dJ T hy;exact jW T' (by rw [p.cR e he];exact hy) (by rw [p.cR _<|af.mpr ⟨y,h1⟩];exact h1) λh=>h3 (p.inj _ _ h).symm
theorem d8.o1(p:d8 n m g e1 e2 z)(T':av m):other m e1=e2:=jW T' p.t1 p.t2 p.ne
theorem d8.o2(p:d8 n m g e1 e2 z)(T':av m):other m e2=e1:=jW T' p.t2 p.t1 p.ne.symm
theorem Dec.perm{α:Type}{f:α->α}{D D':List α}{Ls:List (List α)}(d:Dec f D Ls)(h:D.Perm D'):Dec f D' Ls:=⟨d.jV,d.all.trans h,h.nodup_iff.mp d.nd⟩
theorem OQ{α:Type}{f:α->α}{l:List α}(h:∀ x∈l,f x∈l){a:α}(ha:a∈l):∀ k,it f k a∈l:=λk=>jN h ha k
theorem Dec.one{α:Type}{f:α->α}{D:List α}{a b:α}{l:List α}{Ms:List (List α)}(d:Dec f D<|(a :: l) :: Ms)(hb:b∈D)(h:(∃ k,it f k a=b)\/∃ k,it f k b=a)(ne:b≠a):b∈l:=by
 have cl:∀ k∈(a :: l) :: Ms,∀ x∈k,f x∈k:=λk hk x hx=>by
  obtain⟨c,hc,p⟩:=d.jV k hk;exact E5 p hc hx
 have hm:b∈a :: l:=by
  rcases h with ⟨k,rfl⟩ | ⟨k,e⟩
  ·exact OQ (cl _ Ae) Ae k
  ·obtain⟨j,hj,OS⟩:=Fr.mp<|d.all.mem_iff.mpr hb
   rcases Ai.mp hj with rfl | oX
   ·exact OS
   ·have:=OQ (cl j hj) OS k;rw [e] at this;exact absurd this<|d.apart.2 j oX a Ae
 rcases Ai.mp hm with h | h
 ·exact absurd h ne
 ·exact h
theorem q2k(p:d8 n m g e1 e2 z)(T:av n)(T':av m)(hl:m.length=n.length){k1 k2:End}(h1:k1∈ends n)(h2:k2∈ends n)(ne:k2≠k1)(same:(∃ k,it (step n) k k1=k2)\/∃ k,it (step n) k k2=k1)
  (l1:left m e1=g k1) (l2:left m e2=g k2) (lf:∀ e∈ends n,left m (g e)=if left n e=k1 then e1 else if left n e=k2 then e2 else g (left n e)) (P:Pl n):Pl m:=by
 have st:∀ x∈ends n,step m (g x)=if step n x=k1 then e1 else if step n x=k2 then e2 else g (step n x):=λx hx=>by
  unfold step;rw [p.g6 T T' hx];exact lf _<|cX T hx
 rcases P with ⟨e,_⟩ | ⟨Ls,d,eu⟩
 ·obtain⟨y,hy⟩:=af.mp h1;have:=dI hy;rw [e] at this;cases this
 ·obtain⟨l,Ms,hL,d⟩:=d.pick h1;have hk:=d.one h2 same ne;obtain⟨OT,hL',d',_⟩:=d.split (f':=step m) (g:=g) hk (e1:=e1) (e2:=e2) (by unfold step;rw [p.o1 T'];exact l2) (by unfold step;rw [p.o2 T'];exact l1)
   (λx hx e=>by rw [st x hx,BP e]) (λx hx e=>by rw [st x hx,BK (by rw [e];exact ne),BP e]) (λx hx a b=>by rw [st x hx,BK a,BK b]) p.nd
  refine .inr ⟨OT,d'.perm p.perm,?_⟩;have:=p.len;omega
theorem q54(p:d8 n m g e1 e2 z)(T:av n)(T':av m)(hl:m.length=n.length){c:End}(h1:c∈ends n)
  (l1:left m e1=g c) (l2:left m e2=e1) (lf:∀ e∈ends n,left m (g e)=if left n e=c then e2 else g (left n e)) (P:Pl n):Pl m:=by
 have st:∀ x∈ends n,step m (g x)=if step n x=c then e2 else g (step n x):=λx hx=>by
  unfold step;rw [p.g6 T T' hx];exact lf _<|cX T hx
 rcases P with ⟨e,_⟩ | ⟨Ls,d,eu⟩
 ·obtain⟨y,hy⟩:=af.mp h1;have:=dI hy;rw [e] at this;cases this
 ·obtain⟨l,Ms,hL,d⟩:=d.pick h1;have nd:=p.nd;have nE:((ends n).map g++[e2]++[e1]).Nodup:=by
   rw [Aq];exact((List.Perm.swap e1 e2 []).append_left _).nodup_iff.mpr nd
  have d1:=d.grow (f':=step m) (g:=g) (new:=[e2]) (h:=e2) ⟨rfl,by unfold step;rw [p.o2 T'];exact l1⟩ (λx hx e=>by rw [st x hx,BP e]) (λx hx e=>by rw [st x hx,BK e]) (Co.mp nE).1;have d2:=d1.more (b:=e1) (by unfold step;rw [p.o1 T'];exact l2) nE;have pm:((ends n).map g++[e2]++[e1]).Perm (ends m):=by
   refine List.Perm.trans ?_ p.perm;rw [Aq];exact(List.Perm.swap e1 e2 []).append_left _
  refine .inr ⟨_,d2.perm pm,?_⟩;have:=p.len;simp only [Af,As,Aa,Eh];omega
theorem k7q(p:d8 n m g e1 e2 z)(T:av n)(T':av m)(hl:m.length=n.length+1){c:End}(h1:c∈ends n)
  (l1:left m e1=g c) (l2:left m e2=e2) (lf:∀ e∈ends n,left m (g e)=if left n e=c then e1 else g (left n e)) (P:Pl n):Pl m:=by
 have st:∀ x∈ends n,step m (g x)=if step n x=c then e1 else g (step n x):=λx hx=>by
  unfold step;rw [p.g6 T T' hx];exact lf _<|cX T hx
 rcases P with ⟨e,_⟩ | ⟨Ls,d,eu⟩
 ·obtain⟨y,hy⟩:=af.mp h1;have:=dI hy;rw [e] at this;cases this
 ·obtain⟨l,Ms,hL,d⟩:=d.pick h1;have s1:step m e1=e2:=by unfold step;rw [p.o1 T'];exact l2
  have s2:step m e2=g c:=by unfold step;rw [p.o2 T'];exact l1
  have d1:=d.grow (f':=step m) (g:=g) (new:=[e1,e2]) (h:=e1) ⟨rfl,by rw [s1];exact⟨rfl,s2⟩⟩ (λx hx e=>by rw [st x hx,BP e]) (λx hx e=>by rw [st x hx,BK e]) p.nd;refine .inr ⟨_,d1.perm p.perm,?_⟩;have:=p.len;simp only [As,Aa];omega
end
theorem fb{n:Net}{e:End}(h:e∈ends n):e.1 < n.length/\e.2 < (row n e.1).length:=by
 obtain⟨z,hz⟩:=af.mp h;exact⟨cK hz,gM hz⟩
section
variable{n:Net}{z:Str}
theorem OU{k1 k2:End}(h1:k1.1 < n.length/\k1.2<=(row n k1.1).length)(h2:k2.1 < n.length/\k2.2<=(row n k2.1).length):d8 n (ins (ins n k1 z) k2 z) (λe=>sh k2<|sh k1 e) (sh k2 k1) k2 z:=by
 have c2:k2.1 < (ins n k1 z).length:=by rw [gN];exact h2.1
 have p2:k2.2<=(row (ins n k1 z) k2.1).length:=by
  rw [rP h1.1 h1.2]
  split
  ·have:=h2.2;omega
  ·exact h2.2
 refine⟨λe _=>?_,?_,E' c2 p2,λa b h=>nw<|nw h,λa _ h=>nB k1 a<|nw h,λa _=>nB k2 _,nB k2 k1,?_⟩
 ·show aN _ (sh k2<|sh k1 e)=_;rw [rQ c2 p2,rQ h1.1 h1.2]
 ·rw [rQ c2 p2];exact E' h1.1 h1.2
 ·rw [(kP _ k2 z c2).length_eq,As,(kP _ k1 z h1.1).length_eq,As]
theorem q9j{k1 k2:End}(T:av n)(T':av<|ins (ins n k1 z) k2 z)(h1:k1∈ends n)(h2:k2∈ends n)(ord:k2=k1\/sh k1 k2=k2)(same:(∃ k,it (step n) k k1=k2)\/∃ k,it (step n) k k2=k1)(P:Pl n):Pl (ins (ins n k1 z) k2 z):=by
 have r1:=fb h1;have r2:=fb h2;have p:=OU (z:=z) (k1:=k1) (k2:=k2) ⟨r1.1,Cm r1.2⟩ ⟨r2.1,Cm r2.2⟩;have c2:k2.1 < (ins n k1 z).length:=by rw [gN];exact r2.1
 have rl:∀ i,(row n i).length<=(row (ins n k1 z) i).length:=λi=>by
  rw [rP r1.1<|Cm r1.2]
  split <;> omega
 have p2:k2.2 < (row (ins n k1 z) k2.1).length:=Bg r2.2<|rl _;have p1:k1.2 < (row (ins n k1 z) k1.1).length:=Bg r1.2<|rl _;have hl:(ins (ins n k1 z) k2 z).length=n.length:=by rw [gN,gN]
 have sl:∀ e∈ends n,(sh k1 e).2 < (row (ins n k1 z) (sh k1 e).1).length:=λe he=>by
  obtain⟨y,hy⟩:=af.mp he;exact gM (z:=y)<|by rw [rQ r1.1<|Cm r1.2];exact hy
 have l0:left (ins n k1 z) k1=sh k1 k1:=nD r1.1 r1.2
 by_cases e:k2=k1
 ·subst e;refine q54 p T T' hl h1 ?_ (nD c2 p2) (λe he=>?_) P
  ·rw [iF c2 p2 p1,l0,BK<|nB _ _]
  ·show left _ (sh k2<|sh k2 e)=_;rw [iF c2 p2<|sl e he,iF r1.1 r1.2 (fb he).2]
   by_cases q:left n e=k2
   ·rw [BP q,BP rfl,BP q]
   ·rw [BK q,BK<|nB _ _,BK q]
 ·have hs:sh k1 k2=k2:=ord.resolve_left e;refine q2k p T T' hl h1 h2 e same ?_ ?_ (λe' he=>?_) P
  ·rw [iF c2 p2 p1,l0,BK λq=>e<|nw (c:=k1)<|by rw [hs,q]]
  ·show left _ k2=sh k2 (sh k1 k2);rw [hs];exact nD c2 p2
  ·show left _ (sh k2<|sh k1 e')=if left n e'=k1 then sh k2 k1 else if left n e'=k2 then k2 else sh k2 (sh k1<|left n e');rw [iF c2 p2<|sl e' he,iF r1.1 r1.2 (fb he).2]
   by_cases q:left n e'=k1
   ·rw [BP q,BP q,BK λx=>e x.symm]
   ·rw [BK q,BK q]
    by_cases q2:left n e'=k2
    ·rw [BP q2,q2,hs,BP rfl]
    ·rw [BK q2,BK λx=>q2<|nw (c:=k1)<|by rw [x,hs]]
theorem nF{a b:Net}{i:Nat}(h:i < a.length):row (a++b) i=row a i:=by
 unfold row;rw [Ar h]
theorem x8{a:Net}{x:Str×List Str}:row (a++[x]) a.length=x.2:=by
 unfold row;rw [Ay<|Al _];simp
theorem OV{c:End}{pt:Str}(h1:c.1 < n.length/\c.2<=(row n c.1).length):d8 n (ins n c z++[(pt,[z])]) (sh c) c (n.length,0) z:=by
 have la:∀ e:End,e.1 < n.length->aN (ins n c z++[(pt,[z])]) e=aN (ins n c z) e:=λe he=>by
  unfold aN;rw [nF<|by rw [gN];exact he]
 refine⟨λe he=>?_,?_,?_,λa b h=>nw h,λa _=>nB c a,λa ha h=>?_,λh=>?_,?_⟩
 ·rw [la _ (by rw [me];exact(fb he).1),rQ h1.1 h1.2]
 ·rw [la _ h1.1,E' h1.1 h1.2]
 ·unfold aN;have:=x8 (a:=ins n c z) (x:=(pt,[z]));rw [gN] at this;show(row _ n.length)[0]?=_;rw [this];rfl
 ·have:=(fb ha).1;rw [<- me c a,h] at this;exact absurd this<|Cz _
 ·have:=h1.1;rw [h] at this;exact absurd this<|Cz _
 ·unfold ag;rw [Du,Af];have:=(kP _ c z h1.1).length_eq;unfold ag at this;rw [this];rfl
theorem q08{c:End}{pt:Str}(T:av n)(T':av<|ins n c z++[(pt,[z])])(h1:c∈ends n)(P:Pl n):Pl (ins n c z++[(pt,[z])]):=by
 have r1:=fb h1;have p:=OV (z:=z) (c:=c) (pt:=pt) ⟨r1.1,Cm r1.2⟩;have la:∀ e:End,e.1 < n.length->left (ins n c z++[(pt,[z])]) e=left (ins n c z) e:=λe he=>by
  unfold left;rw [nF<|by rw [gN];exact he]
 refine k7q p T T' (by rw [Af,gN];rfl) h1 ?_ ?_ (λe he=>?_) P
 ·rw [la _ r1.1];exact nD r1.1 r1.2
 ·unfold left;have:=x8 (a:=ins n c z) (x:=(pt,[z]));rw [gN] at this;show(n.length,(0+1) % (row _ n.length).length)=_;rw [this];exact BZ (Prod.mk _)<|Ed 1
 ·rw [la _<|by rw [me];exact(fb he).1];exact iF r1.1 r1.2 (fb he).2
end
theorem OW{m:Net}{z:Str}{e1 e2:End}(T':av m)(hE:ends m=[e1,e2])(t1:aN m e1=some z)(t2:aN m e2=some z)(ne:e1≠e2)
  (h:(m.length=2/\left m e1=e1/\left m e2=e2)\/(m.length=1/\left m e1=e2/\left m e2=e1)):Pl m:=by
 have o1:=jW T' t1 t2 ne;have o2:=jW T' t2 t1 ne.symm;have hl:(ag m).length=2:=by rw [<- i7,hE];rfl
 have nd:[e1,e2].Nodup:=by simp [ne]
 rcases h with ⟨hm,l1,l2⟩ | ⟨hm,l1,l2⟩
 ·refine .inr ⟨[[e1,e2]],?_,by rw [hm,hl];rfl⟩;rw [hE];refine⟨λl hl=>?_,List.Perm.refl _,nd⟩;rw [Ad] at hl;subst hl;refine⟨e1,Ae,rfl,?_⟩;unfold step;rw [o1,l2];exact⟨rfl,by show left m (other m e2)=e1;rw [o2,l1]⟩
 ·refine .inr ⟨[[e1],[e2]],?_,by rw [hm,hl];rfl⟩;rw [hE];refine⟨λl hl=>?_,List.Perm.refl _,nd⟩;simp only [Ai,Bw,FP] at hl
  rcases hl with rfl | rfl
  ·exact⟨e1,Ae,rfl,by show left m (other m e1)=e1;rw [o1,l2]⟩
  ·exact⟨e2,Ae,rfl,by show left m (other m e2)=e2;rw [o2,l1]⟩
theorem k6z{nm pt z:Str}(T':av [(nm,[z]),(pt,[z])]):Pl [(nm,[z]),(pt,[z])]:=
 OW (e1:=(0,0)) (e2:=(1,0)) (z:=z) T' rfl rfl rfl (by decide) (.inl ⟨rfl,by simp [left,row],by simp [left,row]⟩)
theorem q6l{nm z:Str}(T':av [(nm,[z,z])]):Pl [(nm,[z,z])]:=
 OW (e1:=(0,0)) (e2:=(0,1)) (z:=z) T' rfl rfl rfl (by decide) (.inr ⟨rfl,by simp [left,row],by simp [left,row]⟩)
theorem q2c{n m:Net}{g:End->End}(T:av n)(T':av m)(hl:m.length=n.length)(ht:(ag m).length=(ag n).length)(cR:∀ e∈ends n,aN m (g e)=aN n e)(inj:∀ a∈ends n,∀ b∈ends n,g a=g b->a=b)
  (lf:∀ e∈ends n,left m (g e)=g (left n e)) (P:Pl n):Pl m:=by
 rcases P with ⟨e,h⟩ | ⟨Ls,d,eu⟩
 ·exact .inl ⟨Bi.mp (by rw [ht,e];rfl),by rw [hl,h]⟩
 ·have nd:((ends n).map g).Nodup:=by
   have:∀(l:List End),(∀ x∈l,x∈ends n)->l.Nodup->(l.map g).Nodup:=by
    intro l
    induction l with
    | nil=>intro _ _;exact Ch
    | cons x l ih=>
     intro hs h;have h:=Bf.mp h;rw [Bj];refine Bf.mpr ⟨λhx=>?_,ih (λy hy=>hs y<|Ah _ hy) h.2⟩;obtain⟨y,hy,e⟩:=An.mp hx;have:=inj y (hs y<|Ah _ hy) x (hs x Ae) e;exact h.1<|this ▸ hy
   exact this _ (λx hx=>hx)<|rB n
  have pm:((ends n).map g).Perm (ends m):=by
   refine uw nd (λa ha=>?_) (by rw [Aa,i7,i7,ht];exact Al _);obtain⟨x,hx,rfl⟩:=An.mp ha;obtain⟨y,hy⟩:=af.mp hx;exact af.mpr ⟨y,by rw [cR x hx];exact hy⟩
  refine .inr ⟨_,d.carry (f':=step m) (g:=g) (λx hx=>?_) pm<|rB m,by rw [Aa,hl,ht];exact eu⟩;obtain⟨y,hy⟩:=af.mp hx;obtain⟨h1,_,h3⟩:=dJ T hy;have ho:other n x∈ends n:=af.mpr ⟨y,h1⟩;have:other m (g x)=g (other n x):=jW T' (by rw [cR x hx];exact hy) (by rw [cR _ ho];exact h1) λh=>h3 (inj _ hx _ ho h).symm;unfold step;rw [this];exact lf _ ho
def nG(i len q:Nat):Nat:=if i<=q then q - i else q+len - i
def dN(N j i len:Nat)(e:End):End:=if e.1 < j then e else if e.1=j then(N - 1,nG i len e.2) else(e.1 - 1,e.2)
theorem OX{a:Net}{j:Nat}{x:Str×List Str}(hj:j < a.length)(r:Nat)(hr:r < a.length):row (a.eraseIdx j++[x]) (if r < j then r else if r=j then a.length - 1 else r - 1)=if r=j then x.2 else row a r:=by
 have le:(a.eraseIdx j).length=a.length - 1:=by rw [Cv,BP hj]
 by_cases h1:r < j
 ·rw [BP h1,BK (by omega),nF<|by rw [le];omega];unfold row;rw [Gd,BP h1]
 ·rw [BK h1]
  by_cases h2:r=j
  ·rw [BP h2,BP h2,<- le,x8]
  ·rw [BK h2,BK h2,nF<|by rw [le];omega];unfold row;rw [Gd,BK (by omega),show r - 1+1=r by omega]
theorem q0c{i len q:Nat}(hi:i < len)(hq:q < len):(nG i len q+1) % len=nG i len ((q+1) % len):=by
 unfold nG
 by_cases k:q+1 < len
 ·rw [Cc k]
  by_cases h:i<=q
  ·rw [BP h,BP (by omega),Cc<|by omega];omega
  ·rw [BK h]
   by_cases h2:q+1=i
   ·rw [BP (by omega),show q+len - i+1=len by omega,Ed];omega
   ·rw [BK (by omega),Cc<|by omega];omega
 ·have e:q+1=len:=by omega
  rw [e,Ed,BP<|by omega]
  by_cases h:i=0
  ·rw [BP (by omega),show q - i+1=len by omega,Ed];omega
  ·rw [BK (by omega),Cc<|by omega];omega
theorem q9a{l:List Str}{i q:Nat}(hi:i < l.length)(hq:q < l.length):(l.drop i++l.take i)[nG i l.length q]?=l[q]?:=by
 unfold nG
 by_cases h:i<=q
 ·rw [BP h,Ar (by rw [Cg];omega),De,show i+(q - i)=q by omega]
 ·rw [BK h,Ay (by rw [Cg];omega),Cg,Do (by omega),show q+l.length - i - (l.length - i)=q by omega]
theorem OY{a:Net}{j i:Nat}{x:Str}(hj:j < a.length)(hi:i < max 1 (row a j).length):∃ g:End->End,(∀ e∈ends a,aN (a.eraseIdx j++[(x,(row a j).drop i++(row a j).take i)]) (g e)=aN a e)/\(∀ b∈ends a,∀ c∈ends a,g b=g c->b=c) /\
  ∀ e∈ends a,left (a.eraseIdx j++[(x,(row a j).drop i++(row a j).take i)]) (g e)=g (left a e):=by
 have fst:∀ e:End,(dN a.length j i (row a j).length e).1=if e.1 < j then e.1 else if e.1=j then a.length - 1 else e.1 - 1:=λe=>by
  unfold dN
  by_cases h:e.1 < j
  ·rw [BP h,BP h]
  ·rw [BK h,BK h]
   by_cases h2:e.1=j
   ·rw [BP h2,BP h2]
   ·rw [BK h2,BK h2]
 have snd:∀ e:End,(dN a.length j i (row a j).length e).2=if e.1=j then nG i (row a j).length e.2 else e.2:=λe=>by
  unfold dN
  by_cases h:e.1 < j
  ·rw [BP h,BK<|by omega]
  ·rw [BK h]
   by_cases h2:e.1=j
   ·rw [BP h2,BP h2]
   ·rw [BK h2,BK h2]
 have OZ:∀ e:End,e.1 < a.length->row (a.eraseIdx j++[(x,(row a j).drop i++(row a j).take i)]) (dN a.length j i (row a j).length e).1=if e.1=j then(row a j).drop i++(row a j).take i else row a e.1:=λe he=>by
  rw [fst,OX hj e.1 he]
 refine⟨dN a.length j i (row a j).length,λe he=>?_,λb hb c hc h=>?_,λe he=>?_⟩
 ·have r:=fb he;unfold aN;rw [OZ e r.1,snd]
  by_cases h:e.1=j
  ·rw [BP h,BP h,<- h,q9a (by have:=hi;rw [<- h] at this;omega) r.2]
  ·rw [BK h,BK h]
 ·have rb:=fb hb;have rc:=fb hc;have h1:=BZ Prod.fst h;have h2:=BZ Prod.snd h;rw [fst,fst] at h1;rw [snd,snd] at h2
  by_cases p:b.1=j
  ·by_cases q:c.1=j
   ·rw [BP p,BP q] at h2;refine HN (by rw [p,q]) ?_;have rb:=rb.2;have rc:=rc.2;rw [p] at rb;rw [q] at rc;unfold nG at h2
    by_cases u:i<=b.2
    ·rw [BP u] at h2
     by_cases v:i<=c.2
     ·rw [BP v] at h2;omega
     ·rw [BK v] at h2;omega
    ·rw [BK u] at h2
     by_cases v:i<=c.2
     ·rw [BP v] at h2;omega
     ·rw [BK v] at h2;omega
   ·exfalso
    rw [BK (by omega),BP p] at h1;have:=rc.1
    by_cases u:c.1 < j
    ·rw [BP u] at h1;omega
    ·rw [BK u,BK q] at h1;omega
  ·by_cases q:c.1=j
   ·exfalso
    have:=rb.1;rw [BK (show ¬ c.1 < j by omega),BP q] at h1
    by_cases u:b.1 < j
    ·rw [BP u] at h1;omega
    ·rw [BK u,BK p] at h1;omega
   ·rw [BK p,BK q] at h2;refine HN ?_ h2;rw [BK p,BK q] at h1
    by_cases u:b.1 < j
    ·rw [BP u] at h1
     by_cases v:c.1 < j
     ·rw [BP v] at h1;exact h1
     ·rw [BK v] at h1;omega
    ·rw [BK u] at h1
     by_cases v:c.1 < j
     ·rw [BP v] at h1;omega
     ·rw [BK v] at h1;omega
 ·have r:=fb he;have L1:(left a e).1=e.1:=rfl;have L2:(left a e).2=(e.2+1) % (row a e.1).length:=rfl;refine HN ?_ ?_
  ·show(dN a.length j i (row a j).length e).1=(dN a.length j i (row a j).length<|left a e).1;rw [fst,fst,L1]
  ·show((dN a.length j i (row a j).length e).2+1) % (row _ (dN a.length j i (row a j).length e).1).length=(dN a.length j i (row a j).length<|left a e).2;rw [OZ e r.1,snd,snd,L1,L2]
   by_cases h:e.1=j
   ·rw [BP h,BP h,BP h,Af,Cg,Bk];have r2:=r.2;rw [h] at r2 ⊢;rw [show(row a j).length - i+min i (row a j).length=(row a j).length by omega];exact q0c (by omega) r2
   ·rw [BK h,BK h,BK h]
theorem q67{a:Net}{j i:Nat}{x:Str}(hj:j < a.length)(hi:i < max 1 (row a j).length)(T:av a) (T':av<|a.eraseIdx j++[(x,(row a j).drop i++(row a j).take i)])
  (ht:(ag<|a.eraseIdx j++[(x,(row a j).drop i++(row a j).take i)]).length=(ag a).length) (P:Pl a):Pl (a.eraseIdx j++[(x,(row a j).drop i++(row a j).take i)]):=by
 obtain⟨g,h1,h2,h3⟩:=OY (x:=x) hj hi;exact q2c (g:=g) T T' (by rw [Af,Cv,BP hj,Cu];omega) ht h1 h2 h3 P
theorem x9{n m:Net}{z:Str}(hp:(ag m).Perm<|z :: z :: ag n)(T:av n)(hz:z∉ag n):av m:=by
 intro y hy;rw [hp.count_eq,Cy,Cy]
 by_cases e:z=y
 ·subst e;rw [List.count_eq_zero.mpr hz];simp
 ·have hy:=hp.mem_iff.mp hy
  rcases Ai.mp hy with h | hy
  ·exact absurd h.symm e
  ·rcases Ai.mp hy with h | hy
   ·exact absurd h.symm e
   ·rw [T y hy];have:(z == y)=false:=by simpa using e
    rw [this];rfl
theorem rR{nm:Str}{c:End}(h:eR [(nm,[])] c):c=(0,0):=by
 obtain⟨h1,h2⟩:=h;have h1:c.1 < 1:=h1;have e:c.1=0:=by omega
 have h2:c.2 < max 1 (row [(nm,[])] c.1).length:=h2;rw [e] at h2;have h2:c.2 < 1:=h2;exact HN e<|by show c.2=0;omega
theorem ya{n:Net}(F:Full n):(∃ nm,n=[(nm,[])])\/row n 0≠[]:=by
 rcases F with h | ⟨h1,h2⟩
 ·exact .inl h
 ·exact .inr<|h2 0<|Dk.mpr h1
theorem k9l{n:Net}{c:End}{z pt:Str}(T:av n)(F:Full n)(hz:z∉ag n)(hc:eR n c) (hp:(ag<|ins n c z++[(pt,[z])]).Perm<|z :: z :: ag n) (P:Pl n):Pl (ins n c z++[(pt,[z])]):=by
 have T':=x9 hp T hz
 rcases ya F with ⟨nm,rfl⟩ | h0
 ·have:=rR hc;subst this;exact k6z T'
 ·exact q08 T T' (F.cL h0 hc) P
theorem q4w{n:Net}{k1 k2:End}{z:Str}(T:av n)(F:Full n)(hz:z∉ag n)(h1:eR n k1)(h2:eR n k2) (hp:(ag<|ins (ins n k1 z) k2 z).Perm<|z :: z :: ag n) (ord:k2=k1\/sh k1 k2=k2) (same:(∃ k,it (step n) k k1=k2)\/∃ k,it (step n) k k2=k1) (P:Pl n):Pl (ins (ins n k1 z) k2 z):=by
 have T':=x9 hp T hz
 rcases ya F with ⟨nm,rfl⟩ | h0
 ·have:=rR h1;subst this;have:=rR h2;subst this;exact q6l T'
 ·exact q9j T T' (F.cL h0 h1) (F.cL h0 h2) ord same P
theorem q0r{a b:End}(h:bC.lexLt ((a.1:Int),(a.2:Int)) ((b.1:Int),(b.2:Int))=true):sh b a=a:=by
 unfold bC.lexLt at h;unfold sh;refine BK λq=>?_;rw [BP<|by rw [q.1]] at h;have:=BX h;have q2:=q.2;omega
theorem k91{a b:End}(h:bC.lexLt ((a.1:Int),(a.2:Int)) ((b.1:Int),(b.2:Int))=false):b=a\/sh a b=b:=by
 unfold bC.lexLt at h
 by_cases e:(a.1:Int)=(b.1:Int)
 ·rw [BP e] at h;have h:=JD h
  by_cases e2:a.2=b.2
  ·exact .inl<|HN (by omega) e2.symm
  ·refine .inr<|BK λq=>?_;have q2:=q.2;have h:¬((a.2:Int) < (b.2:Int)):=h;omega
 ·exact .inr<|BK λq=>e<|by rw [q.1]
theorem O0(a b:Net):ag (a++b)=ag a++ag b:=by
 unfold ag;rw [Du]
theorem q3r{n n2 n0:Net}{j i:Nat}{x:Str}(hj:j < n.length)(hi:i < max 1 (row n j).length)(T0:av n0)(pt:(ag n++ag n2).Perm<|ag n0)
  (gu:(ag (n.eraseIdx j)++ag (n2++[(x,(row n j).drop i++(row n j).take i)])).Perm<|ag n0) (P:Pl<|n++n2):Pl (n.eraseIdx j++(n2++[(x,(row n j).drop i++(row n j).take i)])):=by
 have tw:∀ m:Net,(ag m).Perm (ag n0)->av m:=λm p y hy=>by rw [p.count_eq];exact T0 y<|p.mem_iff.mp hy
 rw [<- O0] at pt gu;have er:row (n++n2) j=row n j:=nF hj;have ee:n.eraseIdx j++(n2++[(x,(row n j).drop i++(row n j).take i)])=(n++n2).eraseIdx j++[(x,(row (n++n2) j).drop i++(row (n++n2) j).take i)]:=by
  rw [KY hj,Aq,er]
 rw [ee] at gu ⊢;exact q67 (by rw [Af];omega) (by rw [er];exact hi) (tw _ pt) (tw _ gu) (by rw [gu.length_eq,pt.length_eq]) P
end Nt
namespace Nt
theorem q4s{n:Net}{e c:End}{fs:List End}(f:fB n e fs)(h:c∈fs):∃ k,it (step n) k e=c:=by
 obtain⟨i,hi,e1⟩:=Dr.mp h;have:=f.at' i hi;rw [Ab hi,e1] at this;exact⟨i,(Option.some.inj this).symm⟩
open PySem
def aj:List Bool->Bool
 | []=>false
 | b :: l=>b ^^ aj l
theorem jX:∀(a b:List Bool),aj (a++b)=(aj a ^^ aj b)
 | [],b=>by simp [aj]
 | x :: a,b=>by
  show(x ^^ aj (a++b))=((x ^^ aj a) ^^ aj b);rw [jX a b,Bool.xor_assoc]
theorem O1{a b:List Bool}(h:a.Perm b):aj a=aj b:=by
 induction h with
 | nil=>rfl
 | cons x _ ih=>show(x ^^ _)=(x ^^ _);rw [ih]
 | swap x y l=>show(y ^^ (x ^^ aj l))=(x ^^ (y ^^ aj l));cases x <;> cases y <;> simp
 | trans _ _ h1 h2=>exact h1.trans h2
theorem gy{α:Type}(f g:α->Bool):∀ l:List α,aj (l.map λx=>f x ^^ g x)=(aj (l.map f) ^^ aj (l.map g))
 | []=>rfl
 | x :: l=>by
  show((f x ^^ g x) ^^ aj (l.map λx=>f x ^^ g x))=((f x ^^ aj (l.map f)) ^^ (g x ^^ aj (l.map g)));rw [gy f g l];cases f x <;> cases g x <;> cases aj (l.map f) <;> cases aj (l.map g) <;> rfl
def dP(n:Net)(s:Str->Bool):Prop:=∀ r,aj ((row n r).map s)=false
structure aO(n:Net)(s:Str->Bool)(χ:End->Bool):Prop where
 go:∀ e∈ends n,χ (step n e)=χ e
 cR:∀ e z,aN n e=some z->s z=(χ e ^^ χ (other n e))
def RS(n:Net):Prop:=∀ s:Str->Bool,dP n s->∃ χ,aO n s χ
theorem O2(n:Net)(r:Nat)(s:Str->Bool)(g:End->Bool)(h:∀ p z,(row n r)[p]?=some z->s z=g (r,p)):(row n r).map s=(List.range (row n r).length).map λp=>g (r,p):=by
 apply Dl;intro p;rw [Aj,Aj]
 by_cases hp:p < (row n r).length
 ·rw [Ab hp,Dz hp];exact BZ some<|h p _<|Ab hp
 ·rw [Bc (by omega),Bc<|by simp;omega];rfl
theorem FA(f:Nat->Bool)(m:Nat):aj ((List.range m).map λp=>f<|(p+1) % m)=aj ((List.range m).map f):=by
 cases m with
 | zero=>rfl
 | succ k=>
  have e:(List.range<|k+1).map (λp=>f<|(p+1) % (k+1))=((List.range k).map λp=>f<|p+1)++[f 0]:=by
   rw [Dh,Ak]
   congr 1
   ·refine Ao λp hp=>?_;have:=Bp.mp hp;show f ((p+1) % (k+1))=f (p+1);rw [Cc<|by omega]
   ·simp
  rw [e,List.range_succ_eq_map,Bj,Cb,jX];show _=(f 0 ^^ aj ((List.range k).map<|f ∘ Nat.succ));show(aj ((List.range k).map λp=>f<|p+1) ^^ (f 0 ^^ false))=(f 0 ^^ aj ((List.range k).map λp=>f<|p+1));cases f 0 <;> cases aj ((List.range k).map λp=>f<|p+1) <;> rfl
theorem aO.even{n:Net}(T:av n){s:Str->Bool}{χ:End->Bool}(h:aO n s χ):dP n s:=by
 intro r;rw [O2 n r s (λe=>χ e ^^ χ (other n e)) λp z hz=>h.cR (r,p) z hz];rw [gy (λp=>χ (r,p)) λp=>χ<|other n (r,p)];have e:((List.range (row n r).length).map λp=>χ<|other n (r,p))=(List.range (row n r).length).map λp=>χ (r,(p+1) % (row n r).length):=by
  refine Ao λp hp=>?_;have hp:=Bp.mp hp;obtain⟨z,hz⟩:=xq (n:=n) (e:=(r,p)) hp;obtain⟨h1,h2,_⟩:=dJ T hz;have:=h.go (other n (r,p))<|af.mpr ⟨z,h1⟩;rw [<- this];show χ (left n (other n<|other n (r,p)))=_;rw [h2];rfl
 rw [e,FA λp=>χ (r,p)];cases aj ((List.range (row n r).length).map λp=>χ (r,p)) <;> rfl
theorem aO.xor{n:Net}{s t:Str->Bool}{χ ψ:End->Bool}(h:aO n s χ)(g:aO n t ψ):aO n (λz=>s z ^^ t z) (λe=>χ e ^^ ψ e):=by
 refine⟨λe he=>?_,λe z hz=>?_⟩
 ·rw [h.go e he,g.go e he]
 ·show(s z ^^ t z)=((χ e ^^ ψ e) ^^ (χ (other n e) ^^ ψ (other n e)));rw [h.cR e z hz,g.cR e z hz];cases χ e <;> cases ψ e <;> cases χ (other n e) <;> cases ψ (other n e) <;> rfl
theorem dP.xor{n:Net}{s t:Str->Bool}(h:dP n s)(g:dP n t):dP n (λz=>s z ^^ t z):=λr=>by
 rw [gy s t,h r,g r];rfl
section
variable{n m:Net}{g:End->End}{e1 e2:End}{z:Str}
theorem d8.mark(p:d8 n m g e1 e2 z)(χ:End->Bool)(a:Bool):∃ χ':End->Bool,(∀ e∈ends n,χ' (g e)=χ e)/\χ' e1=a/\χ' e2=a:=by
 refine⟨λx=>if x=e1 then a else if x=e2 then a else match (ends n).find? (λe=>decide (g e=x)) with | some e=>χ e | none=>false,λe he=>?_,?_,?_⟩
 ·show(if g e=e1 then a else if g e=e2 then a else match (ends n).find? (λe'=>decide (g e'=g e)) with | some e=>χ e | none=>false)=χ e;rw [BK<|p.n1 e he,BK<|p.n2 e he];cases hf:(ends n).find? (λe'=>decide (g e'=g e)) with
  | none=>exact absurd (BW (rfl:g e=g e))<|by simpa using Fx.mp hf e he
  | some e'=>
   have h5:=Gq hf;have h5:g e'=g e:=BX h5;rw [p.inj _ _ h5]
 ·simp
 ·simp
theorem d8.jY(p:d8 n m g e1 e2 z)(T:av n)(T':av m){s:Str->Bool}{χ:End->Bool}(h:aO n s χ)(hz:s z=false){a:Bool}
  (st:∀ x∈ends n,step m (g x)=g (step n x)\/((step m (g x)=e1\/step m (g x)=e2)/\χ (step n x)=a))
  (s1:step m e1=e1\/step m e1=e2\/∃ k∈ends n,step m e1=g k/\χ k=a) (s2:step m e2=e1\/step m e2=e2\/∃ k∈ends n,step m e2=g k/\χ k=a):∃ χ',aO m s χ':=by
 obtain⟨χ',h1,h2,h3⟩:=p.mark χ a;have jZ:∀ x∈ends m,(∃ e∈ends n,x=g e)\/x=e1\/x=e2:=λx hx=>by
  have:=p.perm.mem_iff.mpr hx
  rcases Am.mp this with q | q
  ·obtain⟨e,he,rfl⟩:=An.mp q;exact .inl ⟨e,he,rfl⟩
  ·simp only [Ai,Bw,FP] at q;exact .inr q
 refine⟨χ',λx hx=>?_,λx y hy=>?_⟩
 ·rcases jZ x hx with ⟨e,he,rfl⟩ | rfl | rfl
  ·rw [h1 e he]
   rcases st e he with q | ⟨q,qa⟩
   ·rw [q,h1 _<|rC T he,h.go e he]
   ·rw [h.go e he] at qa
    rcases q with q | q
    ·rw [q,h2,qa]
    ·rw [q,h3,qa]
  ·rcases s1 with q | q | ⟨k,hk,q,qa⟩
   ·rw [q]
   ·rw [q,h2,h3]
   ·rw [q,h1 k hk,h2,qa]
  ·rcases s2 with q | q | ⟨k,hk,q,qa⟩
   ·rw [q,h2,h3]
   ·rw [q]
   ·rw [q,h1 k hk,h3,qa]
 ·rcases jZ x (af.mpr ⟨y,hy⟩) with ⟨e,he,rfl⟩ | rfl | rfl
  ·rw [p.cR e he] at hy;obtain⟨o1,_,_⟩:=dJ T hy;rw [p.g6 T T' he,h1 e he,h1 _<|af.mpr ⟨y,o1⟩];exact h.cR e y hy
  ·rw [p.t1] at hy;cases hy;rw [p.o1 T',h2,h3,hz];cases a <;> rfl
  ·rw [p.t2] at hy;cases hy;rw [p.o2 T',h2,h3,hz];cases a <;> rfl
theorem O3(T':av m){ψ:End->Bool}(hψ:∀ e∈ends m,ψ (step m e)=ψ e)(t1:aN m e1=some z)(ho:other m e1=e2)(ne:ψ e1≠ψ e2)(h0:∀ s,dP m s->s z=false->∃ χ,aO m s χ):RS m:=by
 intro s hs
 by_cases hz:s z=false
 ·exact h0 s hs hz
 ·have hz:s z=true:=by cases h:s z with | true=>rfl | false=>exact absurd h hz
  let t:Str->Bool:=λy=>match (ends m).find? (λe=>decide (aN m e=some y)) with | some e=>ψ e ^^ ψ (other m e) | none=>false
  have ht:aO m t ψ:=by
   refine⟨hψ,λe y hy=>?_⟩;show(match (ends m).find? (λe=>decide (aN m e=some y)) with | some e=>ψ e ^^ ψ (other m e) | none=>false)=_;cases hf:(ends m).find? (λe=>decide (aN m e=some y)) with
   | none=>exact absurd (BW hy)<|by simpa using Fx.mp hf e (af.mpr ⟨y,hy⟩)
   | some e'=>
    have h5:=Gq hf;have h':aN m e'=some y:=BX h5
    by_cases q:e'=e
    ·rw [q]
    ·have o1:=jW T' h' hy q;have o2:=jW T' hy h'<|CK q;show(ψ e' ^^ ψ (other m e'))=_;rw [o1,o2];cases ψ e <;> cases ψ e' <;> rfl
  have tz:t z=true:=by
   rw [ht.cR e1 z t1,ho];cases h1:ψ e1 <;> cases h2:ψ e2 <;> simp_all
  obtain⟨χ,hχ⟩:=h0 (λy=>s y ^^ t y) (hs.xor<|ht.even T') (by show(s z ^^ t z)=false;rw [hz,tz];rfl);have:=hχ.xor ht;refine⟨λe=>χ e ^^ ψ e,this.go,λe y hy=>?_⟩;rw [<- this.cR e y hy];show s y=((s y ^^ t y) ^^ t y);cases s y <;> cases t y <;> rfl
theorem FC{n:Net}{c:End}{z:Str}(hc:c.1 < n.length){s:Str->Bool}(hz:s z=false)(r:Nat):aj ((row (ins n c z) r).map s)=aj ((row n r).map s):=by
 rw [rE n c z r hc]
 by_cases h:c.1=r
 ·rw [BP h,Ak,Bj,jX];show(aj (((row n r).take c.2).map s) ^^ (s z ^^ aj (((row n r).drop c.2).map s)))=_;rw [hz,Fo,<- jX,<- Ak,Db]
 ·rw [BK h]
theorem Dec.mark{α:Type} [DecidableEq α] {f:α->α} {D:List α} {Ls:List (List α)} (d:Dec f D Ls) {l:List α} (hl:l∈Ls):∀ x∈D,(f x∈l↔x∈l):=by
 intro x hx;obtain⟨A,B,rfl⟩:=Fy hl;have d':Dec f D (l :: (A++B)):=⟨λk hk=>d.jV k (by
  rcases Ai.mp hk with rfl | hk
  ·exact hl
  ·rcases Am.mp hk with q | q
   ·exact Bd _ q
   ·exact Ax _<|Ah _ q),by
  refine List.Perm.trans ?_ d.all;rw [Dc,Fs,Fs,Dc,<- Aq,<- Aq];exact(Ci).append_right _,d.nd⟩
 have cl:∀ k∈l :: (A++B),∀ x∈k,f x∈k:=λk hk x hx=>by
  obtain⟨c,hc,p⟩:=d'.jV k hk;exact E5 p hc hx
 by_cases h:x∈l
 ·exact⟨λ_=>h,λ_=>cl l Ae x h⟩
 ·refine⟨λq=>?_,λq=>absurd q h⟩
  exfalso
  obtain⟨k,hk,O4⟩:=Fr.mp<|d'.all.mem_iff.mpr hx
  rcases Ai.mp hk with rfl | lK
  ·exact h O4
  ·exact d'.apart.2 k lK _ q<|cl k hk x O4
theorem FD{s:Str->Bool}{χ:End->Bool}(T:av n)(h:aO n s χ){a:End}(ha:a∈ends n):∀ k,χ (it (step n) k a)=χ a
 | 0=>rfl
 | k+1=>by
  show χ (step n<|it (step n) k a)=_;rw [h.go _<|jN (λx hx=>rC T hx) ha k,FD T h ha k]
theorem q16(p:d8 n m g e1 e2 z)(T:av n)(T':av m){k1 k2:End}(h1:k1∈ends n)(h2:k2∈ends n)(ne:k2≠k1)(same:(∃ k,it (step n) k k1=k2)\/∃ k,it (step n) k k2=k1)
  (l1:left m e1=g k1) (l2:left m e2=g k2) (lf:∀ e∈ends n,left m (g e)=if left n e=k1 then e1 else if left n e=k2 then e2 else g (left n e))
  {Ls:List (List End)} (d:Dec (step n) (ends n) Ls) (ev:∀ s,dP m s->s z=false->dP n s) (R:RS n):RS m:=by
 have st:∀ x∈ends n,step m (g x)=if step n x=k1 then e1 else if step n x=k2 then e2 else g (step n x):=λx hx=>by
  unfold step;rw [p.g6 T T' hx];exact lf _<|cX T hx
 have s1:step m e1=g k2:=by unfold step;rw [p.o1 T'];exact l2
 have s2:step m e2=g k1:=by unfold step;rw [p.o2 T'];exact l1
 obtain⟨l,Ms,hL,d⟩:=d.pick h1;have hk:=d.one h2 same ne;obtain⟨OT,hL',d',w,hw,w2,w1⟩:=d.split (f':=step m) (g:=g) hk (e1:=e1) (e2:=e2) s1 s2
  (λx hx e=>by rw [st x hx,BP e]) (λx hx e=>by rw [st x hx,BK (by rw [e];exact ne),BP e]) (λx hx a b=>by rw [st x hx,BK a,BK b]) p.nd
 have dm:=d'.perm p.perm;refine O3 T' (ψ:=λx=>decide (x∈w)) (λx hx=>decide_eq_decide.mpr<|dm.mark hw x hx) p.t1 (p.o1 T') (by show decide (e1∈w)≠decide (e2∈w);rw [BR w1,BW w2];decide) λs hs hz=>?_;obtain⟨χ,hχ⟩:=R s<|ev s hs hz;have ek:χ k2=χ k1:=by
  rcases same with ⟨k,e⟩ | ⟨k,e⟩
  ·rw [<- e];exact FD T hχ h1 k
  ·rw [<- e];exact(FD T hχ h2 k).symm
 refine p.jY T T' hχ hz (a:=χ k1) (λx hx=>?_) (.inr<|.inr ⟨k2,h2,s1,ek⟩)<|.inr<|.inr ⟨k1,h1,s2,rfl⟩;rw [st x hx]
 by_cases c1:step n x=k1
 ·rw [BP c1];exact .inr ⟨.inl rfl,by rw [c1]⟩
 ·rw [BK c1]
  by_cases c2:step n x=k2
  ·rw [BP c2];exact .inr ⟨.inr rfl,by rw [c2,ek]⟩
  ·rw [BK c2];exact .inl rfl
theorem q6s(p:d8 n m g e1 e2 z)(T:av n)(T':av m){c:End}(h1:c∈ends n)(l1:left m e1=g c)(l2:left m e2=e1)(lf:∀ e∈ends n,left m (g e)=if left n e=c then e2 else g (left n e))
  (ev:∀ s,dP m s->s z=false->dP n s) (R:RS n):RS m:=by
 have st:∀ x∈ends n,step m (g x)=if step n x=c then e2 else g (step n x):=λx hx=>by
  unfold step;rw [p.g6 T T' hx];exact lf _<|cX T hx
 have s1:step m e1=e1:=by unfold step;rw [p.o1 T'];exact l2
 have s2:step m e2=g c:=by unfold step;rw [p.o2 T'];exact l1
 have yb:e1∈ends m:=af.mpr ⟨z,p.t1⟩;refine O3 T' (ψ:=λx=>decide (x=e1)) (λx hx=>?_) p.t1 (p.o1 T') (by show decide (e1=e1)≠decide (e2=e1);rw [BW rfl,BR p.ne.symm];decide) λs hs hz=>?_
 ·by_cases q:x=e1
  ·rw [q,s1]
  ·show decide (step m x=e1)=decide (x=e1);rw [BR q];exact BR λe=>q<|N7 T' hx yb<|by rw [e,s1]
 obtain⟨χ,hχ⟩:=R s<|ev s hs hz;refine p.jY T T' hχ hz (a:=χ c) (λx hx=>?_) (.inl s1)<|.inr<|.inr ⟨c,h1,s2,rfl⟩;rw [st x hx]
 by_cases c1:step n x=c
 ·rw [BP c1];exact .inr ⟨.inr rfl,by rw [c1]⟩
 ·rw [BK c1];exact .inl rfl
theorem k93(p:d8 n m g e1 e2 z)(T:av n)(T':av m){c:End}(h1:c∈ends n)(l1:left m e1=g c)(l2:left m e2=e2)(lf:∀ e∈ends n,left m (g e)=if left n e=c then e1 else g (left n e))
  (hz:∀ s,dP m s->s z=false) (ev:∀ s,dP m s->s z=false->dP n s) (R:RS n):RS m:=by
 have st:∀ x∈ends n,step m (g x)=if step n x=c then e1 else g (step n x):=λx hx=>by
  unfold step;rw [p.g6 T T' hx];exact lf _<|cX T hx
 have s1:step m e1=e2:=by unfold step;rw [p.o1 T'];exact l2
 have s2:step m e2=g c:=by unfold step;rw [p.o2 T'];exact l1
 intro s hs;have hz:=hz s hs;obtain⟨χ,hχ⟩:=R s<|ev s hs hz;refine p.jY T T' hχ hz (a:=χ c) (λx hx=>?_) (.inr<|.inl s1)<|.inr<|.inr ⟨c,h1,s2,rfl⟩;rw [st x hx]
 by_cases c1:step n x=c
 ·rw [BP c1];exact .inr ⟨.inl rfl,by rw [c1]⟩
 ·rw [BK c1];exact .inl rfl
end
section
variable{n:Net}{z:Str}
theorem q9y{k1 k2:End}(T:av n)(T':av<|ins (ins n k1 z) k2 z)(h1:k1∈ends n)(h2:k2∈ends n)(ord:k2=k1\/sh k1 k2=k2)(same:(∃ k,it (step n) k k1=k2)\/∃ k,it (step n) k k2=k1)(P:Pl n)(R:RS n):RS (ins (ins n k1 z) k2 z):=by
 have r1:=fb h1;have r2:=fb h2;have p:=OU (z:=z) (k1:=k1) (k2:=k2) ⟨r1.1,Cm r1.2⟩ ⟨r2.1,Cm r2.2⟩;have c2:k2.1 < (ins n k1 z).length:=by rw [gN];exact r2.1
 have rl:∀ i,(row n i).length<=(row (ins n k1 z) i).length:=λi=>by
  rw [rP r1.1<|Cm r1.2]
  split <;> omega
 have p2:k2.2 < (row (ins n k1 z) k2.1).length:=Bg r2.2<|rl _;have p1:k1.2 < (row (ins n k1 z) k1.1).length:=Bg r1.2<|rl _;have sl:∀ e∈ends n,(sh k1 e).2 < (row (ins n k1 z) (sh k1 e).1).length:=λe he=>by
  obtain⟨y,hy⟩:=af.mp he;exact gM (z:=y)<|by rw [rQ r1.1<|Cm r1.2];exact hy
 have l0:left (ins n k1 z) k1=sh k1 k1:=nD r1.1 r1.2;have ev:∀ s,dP (ins (ins n k1 z) k2 z) s->s z=false->dP n s:=λs hs hz r=>by
  rw [<- FC r1.1 hz r,<- FC c2 hz r];exact hs r
 by_cases e:k2=k1
 ·subst e;refine q6s p T T' h1 ?_ (nD c2 p2) (λe he=>?_) ev R
  ·rw [iF c2 p2 p1,l0,BK<|nB _ _]
  ·show left _ (sh k2<|sh k2 e)=_;rw [iF c2 p2<|sl e he,iF r1.1 r1.2 (fb he).2]
   by_cases q:left n e=k2
   ·rw [BP q,BP rfl,BP q]
   ·rw [BK q,BK<|nB _ _,BK q]
 ·have hs:sh k1 k2=k2:=ord.resolve_left e
  rcases P with ⟨t0,_⟩ | ⟨Ls,d,_⟩
  ·obtain⟨y,hy⟩:=af.mp h1;have:=dI hy;rw [t0] at this;cases this
  refine q16 p T T' h1 h2 e same ?_ ?_ (λe' he=>?_) d ev R
  ·rw [iF c2 p2 p1,l0,BK λq=>e<|nw (c:=k1)<|by rw [hs,q]]
  ·show left _ k2=sh k2 (sh k1 k2);rw [hs];exact nD c2 p2
  ·show left _ (sh k2<|sh k1 e')=if left n e'=k1 then sh k2 k1 else if left n e'=k2 then k2 else sh k2 (sh k1<|left n e');rw [iF c2 p2<|sl e' he,iF r1.1 r1.2 (fb he).2]
   by_cases q:left n e'=k1
   ·rw [BP q,BP q,BK λx=>e x.symm]
   ·rw [BK q,BK q]
    by_cases q2:left n e'=k2
    ·rw [BP q2,q2,hs,BP rfl]
    ·rw [BK q2,BK λx=>q2<|nw (c:=k1)<|by rw [x,hs]]
theorem k6r{c:End}{pt:Str}(T:av n)(T':av<|ins n c z++[(pt,[z])])(h1:c∈ends n)(R:RS n):RS (ins n c z++[(pt,[z])]):=by
 have r1:=fb h1;have p:=OV (z:=z) (c:=c) (pt:=pt) ⟨r1.1,Cm r1.2⟩;have la:∀ e:End,e.1 < n.length->left (ins n c z++[(pt,[z])]) e=left (ins n c z) e:=λe he=>by
  unfold left;rw [nF<|by rw [gN];exact he]
 have j3:=x8 (a:=ins n c z) (x:=(pt,[z]));rw [gN] at j3;refine k93 p T T' h1 ?_ ?_ (λe he=>?_) (λs hs=>?_) (λs hs hz r=>?_) R
 ·rw [la _ r1.1];exact nD r1.1 r1.2
 ·unfold left;show(n.length,(0+1) % (row _ n.length).length)=_;rw [j3];exact BZ (Prod.mk _)<|Ed 1
 ·rw [la _<|by rw [me];exact(fb he).1];exact iF r1.1 r1.2 (fb he).2
 ·have:=hs n.length;rw [j3] at this;have:(s z ^^ false)=false:=this
  simpa using this
 ·by_cases h:r < n.length
  ·have:=hs r;rw [nF (by rw [gN];exact h),FC r1.1 hz r] at this;exact this
  ·have:row n r=[]:=by
    unfold row;rw [Bc<|by omega];rfl
   rw [this];rfl
end
theorem q7d{nm:Str}:RS [(nm,[])]:=λs _=>⟨λ_=>false,λe he=>rfl,λe y hy=>by
 have:=dI hy;cases this⟩
theorem k8m{nm pt z:Str}(T':av [(nm,[z]),(pt,[z])]):RS [(nm,[z]),(pt,[z])]:=λs hs=>⟨λ_=>false,λe he=>rfl,λe y hy=>by
 have h:=dI hy;have:y=z:=by simpa [ag] using h
 rw [this];have:=hs 0;have:(s z ^^ false)=false:=this
 simpa using this⟩
theorem q5a{nm z:Str}(T':av [(nm,[z,z])]):RS [(nm,[z,z])]:=λs _=>by
 have t1:aN [(nm,[z,z])] (0,0)=some z:=rfl;have t2:aN [(nm,[z,z])] (0,1)=some z:=rfl;have o1:=jW T' t1 t2 (by decide);have o2:=jW T' t2 t1 (by decide);have hE:ends [(nm,[z,z])]=[(0,0),(0,1)]:=rfl;refine⟨λe=>decide (e=(0,0)) && s z,λe he=>?_,λe y hy=>?_⟩
 ·rw [hE] at he;simp only [Ai,Bw,FP] at he
  rcases he with rfl | rfl
  ·show(decide (left [(nm,[z,z])] (other [(nm,[z,z])] (0,0))=(0,0)) && s z)=_;rw [o1];simp [left,row]
  ·show(decide (left [(nm,[z,z])] (other [(nm,[z,z])] (0,1))=(0,0)) && s z)=_;rw [o2];simp [left,row]
 ·have h:=dI hy;have e1:y=z:=by simpa [ag] using h
  have he:=af.mpr ⟨y,hy⟩;rw [hE] at he;simp only [Ai,Bw,FP] at he;rw [e1]
  rcases he with rfl | rfl
  ·rw [o1];simp
  ·rw [o2];simp
def Fl(n:Net):Prop:=Pl n/\RS n
theorem q78{nm:Str}:Fl [(nm,[])]:=⟨.inl ⟨rfl,rfl⟩,q7d⟩
theorem k7l{n:Net}{c:End}{z pt:Str}(T:av n)(F:Full n)(hz:z∉ag n)(hc:eR n c) (hp:(ag<|ins n c z++[(pt,[z])]).Perm<|z :: z :: ag n) (P:Fl n):Fl (ins n c z++[(pt,[z])]):=by
 refine⟨k9l T F hz hc hp P.1,?_⟩;have T':=x9 hp T hz
 rcases ya F with ⟨nm,rfl⟩ | h0
 ·have:=rR hc;subst this;exact k8m T'
 ·exact k6r T T' (F.cL h0 hc) P.2
theorem q5k{n:Net}{k1 k2:End}{z:Str}(T:av n)(F:Full n)(hz:z∉ag n)(h1:eR n k1)(h2:eR n k2) (hp:(ag<|ins (ins n k1 z) k2 z).Perm<|z :: z :: ag n) (ord:k2=k1\/sh k1 k2=k2) (same:(∃ k,it (step n) k k1=k2)\/∃ k,it (step n) k k2=k1) (P:Fl n):Fl (ins (ins n k1 z) k2 z):=by
 refine⟨q4w T F hz h1 h2 hp ord same P.1,?_⟩;have T':=x9 hp T hz
 rcases ya F with ⟨nm,rfl⟩ | h0
 ·have:=rR h1;subst this;have:=rR h2;subst this;exact q5a T'
 ·exact q9y T T' (F.cL h0 h1) (F.cL h0 h2) ord same P.1 P.2
theorem q2a{n m:Net}{g:End->End}(T:av n)(T':av m)(ht:(ag m).length=(ag n).length)(cR:∀ e∈ends n,aN m (g e)=aN n e)(inj:∀ a∈ends n,∀ b∈ends n,g a=g b->a=b)
  (lf:∀ e∈ends n,left m (g e)=g (left n e)) (ev:∀ s,dP m s->dP n s) (R:RS n):RS m:=by
 have uA:∀ x∈ends m,∃ e∈ends n,x=g e:=by
  have nd:((ends n).map g).Nodup:=by
   have:∀(l:List End),(∀ x∈l,x∈ends n)->l.Nodup->(l.map g).Nodup:=by
    intro l
    induction l with
    | nil=>intro _ _;exact Ch
    | cons x l ih=>
     intro hs h;have h:=Bf.mp h;rw [Bj];refine Bf.mpr ⟨λhx=>?_,ih (λy hy=>hs y<|Ah _ hy) h.2⟩;obtain⟨y,hy,e⟩:=An.mp hx;have:=inj y (hs y<|Ah _ hy) x (hs x Ae) e;exact h.1<|this ▸ hy
   exact this _ (λx hx=>hx)<|rB n
  have pm:((ends n).map g).Perm (ends m):=by
   refine uw nd (λa ha=>?_) (by rw [Aa,i7,i7,ht];exact Al _);obtain⟨x,hx,rfl⟩:=An.mp ha;obtain⟨y,hy⟩:=af.mp hx;exact af.mpr ⟨y,by rw [cR x hx];exact hy⟩
  intro x hx;obtain⟨e,he,q⟩:=An.mp<|pm.mem_iff.mpr hx;exact⟨e,he,q.symm⟩
 intro s hs;obtain⟨χ,hχ⟩:=R s<|ev s hs
 let χ':End->Bool:=λx=>match (ends n).find? (λe=>decide (g e=x)) with | some e=>χ e | none=>false
 have h1:∀ e∈ends n,χ' (g e)=χ e:=λe he=>by
  show(match (ends n).find? (λe'=>decide (g e'=g e)) with | some e=>χ e | none=>false)=χ e;cases hf:(ends n).find? (λe'=>decide (g e'=g e)) with
  | none=>exact absurd (BW (rfl:g e=g e))<|by simpa using Fx.mp hf e he
  | some e'=>
   have h5:=Gq hf;have h5:g e'=g e:=BX h5;rw [inj _ (List.mem_of_find?_eq_some hf) _ he h5]
 have g6:∀ e∈ends n,other m (g e)=g (other n e):=λe he=>by
  obtain⟨y,hy⟩:=af.mp he;obtain⟨h1,_,h3⟩:=dJ T hy;have ho:other n e∈ends n:=af.mpr ⟨y,h1⟩;exact jW T' (by rw [cR e he];exact hy) (by rw [cR _ ho];exact h1) λh=>h3 (inj _ he _ ho h).symm
 refine⟨χ',λx hx=>?_,λx y hy=>?_⟩
 ·obtain⟨e,he,rfl⟩:=uA x hx;have:step m (g e)=g (step n e):=by
   unfold step;rw [g6 e he];exact lf _<|cX T he
  rw [this,h1 _<|rC T he,h1 e he,hχ.go e he]
 ·obtain⟨e,he,rfl⟩:=uA x<|af.mpr ⟨y,hy⟩;rw [cR e he] at hy;rw [g6 e he,h1 e he,h1 _<|cX T he];exact hχ.cR e y hy
theorem q7n{a:Net}{j i:Nat}{x:Str}(hj:j < a.length)(hi:i < max 1 (row a j).length)(T:av a) (T':av<|a.eraseIdx j++[(x,(row a j).drop i++(row a j).take i)])
  (ht:(ag<|a.eraseIdx j++[(x,(row a j).drop i++(row a j).take i)]).length=(ag a).length) (R:RS a):RS (a.eraseIdx j++[(x,(row a j).drop i++(row a j).take i)]):=by
 obtain⟨g,h1,h2,h3⟩:=OY (x:=x) hj hi;refine q2a T T' ht h1 h2 h3 (λs hs r=>?_) R
 by_cases hr:r < a.length
 ·have:=hs (if r < j then r else if r=j then a.length - 1 else r - 1);rw [OX hj r hr] at this
  by_cases e:r=j
  ·rw [BP e] at this;rw [<- this,e];refine O1<|List.Perm.map s ?_;show(row a j).Perm ((row a j).drop i++(row a j).take i);refine List.Perm.trans ?_ Ci;rw [Db]
  ·rw [BK e] at this;exact this
 ·have:row a r=[]:=by
   unfold row;rw [Bc<|by omega];rfl
  rw [this];rfl
theorem q5o{n n2 n0:Net}{j i:Nat}{x:Str}(hj:j < n.length)(hi:i < max 1 (row n j).length)(T0:av n0)(pt:(ag n++ag n2).Perm<|ag n0)
  (gu:(ag (n.eraseIdx j)++ag (n2++[(x,(row n j).drop i++(row n j).take i)])).Perm<|ag n0) (P:Fl<|n++n2):Fl (n.eraseIdx j++(n2++[(x,(row n j).drop i++(row n j).take i)])):=by
 refine⟨q3r hj hi T0 pt gu P.1,?_⟩;have tw:∀ m:Net,(ag m).Perm (ag n0)->av m:=λm p y hy=>by rw [p.count_eq];exact T0 y<|p.mem_iff.mp hy
 rw [<- O0] at pt gu;have er:row (n++n2) j=row n j:=nF hj;have ee:n.eraseIdx j++(n2++[(x,(row n j).drop i++(row n j).take i)])=(n++n2).eraseIdx j++[(x,(row (n++n2) j).drop i++(row (n++n2) j).take i)]:=by
  rw [KY hj,Aq,er]
 rw [ee] at gu ⊢;exact q7n (by rw [Af];omega) (by rw [er];exact hi) (tw _ pt) (tw _ gu) (by rw [gu.length_eq,pt.length_eq]) P.2
open L2
def aE(n:Net)(r:Nat):Str:=((n[r]?).map (·.1)).getD ⟨#[]⟩
theorem nH{n:Net}{r:Nat}(h:r < n.length):aE n r=n[r].1:=by unfold aE;rw [Ab h];rfl
abbrev Lk:=Str×Str×Str
def nI(n:Net)(x:Lk):Prop:=∃ a b,pos n x.1=[a,b]/\x.2.1=aE n a.1/\x.2.2=aE n b.1
structure iG(n:Net)(done:List<|Str×End)(kM:List<|Key×V)(ls:List Lk):Prop where
 m0:∀ z,bL done z=[]->aJ kM (Sum.inr z)=none
 m1:∀ z a rest,bL done z=a :: rest->aJ kM (Sum.inr z)=some (.str<|aE n a.1)
 mem:∀ x:Lk,x∈ls↔∃ a b rest,bL done x.1=a :: b :: rest/\x.2.1=aE n a.1/\x.2.2=aE n b.1
 pS:(ls.map (·.1)).Nodup
 dQ:kM.length<=done.length
 mh:ls.length<=done.length
theorem iG.start(n:Net):iG n [] [] []:=⟨λ_ _=>rfl,λz a rest h=>(by cases h),λx=>⟨λh=>(by cases h),λ⟨a,b,rest,h,_⟩=>(by cases h)⟩,Ch,Al _,Al _⟩
theorem iG.new{n:Net}{done:List (Str×End)}{kM:List (Key×V)}{ls:List Lk}(I:iG n done kM ls){z:Str}{e:End}(h0:bL done z=[]):iG n (done++[(z,e)]) (putK kM (Sum.inr z)<|.str<|aE n e.1) ls:=by
 refine⟨λy hy=>?_,λy a rest hy=>?_,λx=>?_,I.pS,?_,?_⟩
 ·rw [df] at hy;obtain⟨h1,h2⟩:=Fb.mp hy;have bB:¬ z=y:=λq=>by rw [BP q] at h2;cases h2
  rw [eW,BK λq=>bB (Sum.inr.inj q).symm];exact I.m0 y h1
 ·rw [df] at hy
  by_cases q:z=y
  ·subst q;rw [h0,BP rfl] at hy;cases hy;rw [eW,BP rfl]
  ·rw [BK q,Be] at hy;rw [eW,BK λp=>q (Sum.inr.inj p).symm];exact I.m1 y a rest hy
 ·rw [I.mem x]
  by_cases q:z=x.1
  ·constructor
   ·rintro ⟨a,b,rest,h,_⟩;rw [<- q,h0] at h;cases h
   ·rintro ⟨a,b,rest,h,_⟩;rw [df,<- q,h0,BP rfl] at h;cases h
  ·constructor
   ·rintro ⟨a,b,rest,h,r⟩;exact⟨a,b,rest,by rw [df,BK q,Be];exact h,r⟩
   ·rintro ⟨a,b,rest,h,r⟩;rw [df,BK q,Be] at h;exact⟨a,b,rest,h,r⟩
 ·have:=iu kM (Sum.inr z)<|.str<|aE n e.1;have:=I.dQ;rw [Af,Cu];omega
 ·have:=I.mh;rw [Af,Cu];omega
theorem iG.old{n:Net}{done:List (Str×End)}{kM:List (Key×V)}{ls:List Lk}(I:iG n done kM ls){z:Str}{a e:End}(h1:bL done z=[a]):iG n (done++[(z,e)]) kM (ls++[(z,aE n a.1,aE n e.1)]):=by
 have hz:bL (done++[(z,e)]) z=[a,e]:=by rw [df,h1,BP rfl];rfl
 have hnz:z∉ls.map (·.1):=λh=>by
  obtain⟨x,hx,ex⟩:=An.mp h;obtain⟨b,c,rest,hp,_⟩:=(I.mem x).mp hx;have ex:x.1=z:=ex;rw [ex,h1] at hp;cases hp
 refine⟨λy hy=>?_,λy b rest hy=>?_,λx=>?_,?_,?_,?_⟩
 ·rw [df] at hy;exact I.m0 y (Fb.mp hy).1
 ·by_cases q:z=y
  ·subst q;rw [hz] at hy;cases hy;exact I.m1 z a [] h1
  ·rw [df,BK q,Be] at hy;exact I.m1 y b rest hy
 ·rw [Am,Ad,I.mem x]
  by_cases q:z=x.1
  ·constructor
   ·rintro (⟨b,c,rest,h,_⟩ | h)
    ·rw [<- q,h1] at h;cases h
    ·subst h;exact⟨a,e,[],hz,rfl,rfl⟩
   ·rintro ⟨b,c,rest,h,r1,r2⟩;rw [<- q,hz] at h;cases h;obtain⟨x1,x2,x3⟩:=x;have q:z=x1:=q;have r1:x2=aE n a.1:=r1;have r2:x3=aE n e.1:=r2;subst q r1 r2;exact .inr rfl
  ·constructor
   ·rintro (⟨b,c,rest,h,r⟩ | h)
    ·exact⟨b,c,rest,by rw [df,BK q,Be];exact h,r⟩
    ·subst h;exact absurd rfl q
   ·rintro ⟨b,c,rest,h,r⟩;rw [df,BK q,Be] at h;exact .inl ⟨b,c,rest,h,r⟩
 ·rw [Ak];exact oO I.pS hnz
 ·have:=I.dQ;rw [Af,Cu];omega
 ·have:=I.mh;rw [Af,Af];show _+1<=_+1;omega
theorem iG.whole{n:Net}(T:av n){kM:List (Key×V)}{ls:List Lk}(I:iG n (bh n) kM ls)(x:Lk):x∈ls↔nI n x:=by
 rw [I.mem x]
 constructor
 ·rintro ⟨a,b,rest,h,r⟩;have hp:pos n x.1=a :: b :: rest:=h;have ha:aN n a=some x.1:=aG.mp (by rw [hp];exact Ae ..);have hl:=pv n x.1;rw [hp,T x.1<|dI ha] at hl;have:rest=[]:=by
   have:rest.length+1+1=2:=hl;exact Bi.mp<|by omega
  rw [this] at hp;exact⟨a,b,hp,r⟩
 ·rintro ⟨a,b,h,r⟩;exact⟨a,b,[],h,r⟩
inductive Way (ls:List<|Str×Str×Bool) (f:Str):Str->Bool->Prop where
 | here:Way ls f f false
 | there {x y:Str} {b o:Bool}:Way ls f x b->(x,y,o)∈ls->Way ls f y (b != o)
 | back {x y:Str} {b o:Bool}:Way ls f x b->(y,x,o)∈ls->Way ls f y (b != o)
def dR(n:Net)(ss:List Str):Bool:=n.all λr=>(r.2.filter λz=>ss.contains z).length % 2 == 0
theorem j4{n:Net}(T:av n){e x:End}{z:Str}(h:aN n e=some z):aN n x=some z↔x=e\/x=other n e:=by
 obtain⟨o1,o2,o3⟩:=dJ T h;refine⟨λhx=>?_,λhx=>?_⟩
 ·obtain⟨a,b,hp,ft,he⟩:=nh T h;have mx:x∈pos n z:=aG.mpr hx;have mo:other n e∈pos n z:=aG.mpr o1;rw [hp] at mx mo;simp only [Ai,Bw,FP] at mx mo
  rcases he with he | he
  ·rcases mx with m | m
   ·exact .inl<|m.trans he.symm
   ·rcases mo with m2 | m2
    ·exact absurd (m2.trans he.symm) o3
    ·exact .inr<|m.trans m2.symm
  ·rcases mx with m | m
   ·rcases mo with m2 | m2
    ·exact .inr<|m.trans m2.symm
    ·exact absurd (m2.trans he.symm) o3
   ·exact .inl<|m.trans he.symm
 ·rcases hx with rfl | rfl
  ·exact h
  ·exact o1
abbrev Bl:=Str×Str×Bool
def x0v(ls:List Bl)(x y:Str)(o:Bool):Prop:=(x,y,o)∈ls\/(y,x,o)∈ls
open PyProof.Rows (sortedS)
def fE(n:Net):Prop:=∀ P:Str->Prop,(∃ r∈n,P r.1)->(∀ r∈n,∀ s∈n,∀ t,t∈r.2->t∈s.2->P r.1->P s.1)->∀ r∈n,P r.1
theorem O5{n m:Net}(h1:∀ r∈n,∃ s∈m,s.1=r.1/\∀ t∈r.2,t∈s.2)(h2:∀ s∈m,∃ r∈n,r.1=s.1)(h:fE n):fE m:=by
 rintro P ⟨s,hs,ps⟩ cl s' jI;obtain⟨r,hr,er⟩:=h2 s hs;obtain⟨r',pT,er'⟩:=h2 s' jI;rw [<- er'];refine h P ⟨r,hr,by rw [er];exact ps⟩ (λa ha b hb t ta tb pa=>?_) r' pT;obtain⟨a',yc,ea,sa⟩:=h1 a ha;obtain⟨b',nq,eb,sb⟩:=h1 b hb;rw [<- eb];exact cl a' yc b' nq t (sa t ta) (sb t tb)<|by rw [ea];exact pa
theorem q00(r:Str×List Str):fE [r]:=by
 rintro P ⟨s,hs,ps⟩ _ x hx;rw [Ad] at hs hx;rw [hx,<- hs];exact ps
theorem FE(n:Net)(c:End)(z:Str)(i:Nat):(ins n c z)[i]?=(n[i]?).map λr=>if c.1=i then(r.1,r.2.take c.2++z :: r.2.drop c.2) else r:=by
 unfold ins;rw [Fn]
 by_cases h:c.1=i
 ·simp [h]
 ·simp [h]
theorem FG{n:Net}{c:End}{z:Str}(h:fE n):fE (ins n c z):=by
 refine O5 (λr hr=>?_) (λs hs=>?_) h
 ·obtain⟨i,hi⟩:=Bh hr;have e:=FE n c z i;rw [hi] at e;refine⟨_,Ap e,?_,λt ht=>?_⟩
  ·split <;> rfl
  ·split
   ·show t∈r.2.take c.2++z :: r.2.drop c.2;rw [<- Db c.2 r.2] at ht
    rcases Am.mp ht with q | q
    ·exact Bd _ q
    ·exact Ax _<|Ah _ q
   ·exact ht
 ·obtain⟨i,hi⟩:=Bh hs;rw [FE,Az] at hi;obtain⟨r,hr,e⟩:=hi;refine⟨r,Ap hr,?_⟩;rw [<- e]
  split <;> rfl
theorem q3z{n:Net}{c:End}{z:Str}(hc:c.1 < n.length):∃ r∈ins n c z,z∈r.2:=by
 have e:=FE n c z c.1;rw [Ab hc] at e;refine⟨_,Ap e,?_⟩;show z∈(if c.1=c.1 then((n[c.1].1,n[c.1].2.take c.2++z :: n[c.1].2.drop c.2):Str×List Str) else n[c.1]).2;rw [BP rfl];exact Ax _<|Ae ..
theorem k9p{n:Net}{z pt:Str}(h:fE n)(hz:∃ r∈n,z∈r.2):fE (n++[(pt,[z])]):=by
 obtain⟨r,hr,zr⟩:=hz;rintro P ⟨s,hs,ps⟩ cl x hx;have mn:((pt,[z]):Str×List Str)∈n++[(pt,[z])]:=Ax _<|Ad.mpr rfl;have ml:∀{y},y∈n->y∈n++[(pt,[z])]:=λhy=>Bd _ hy;have all:∀ y∈n,P y.1:=by
  refine h P ?_ λa ha b hb t ta tb pa=>cl a (ml ha) b (ml hb) t ta tb pa
  rcases Am.mp hs with q | q
  ·exact⟨s,q,ps⟩
  ·rw [Ad] at q;subst q;exact⟨r,hr,cl _ mn r (ml hr) z (Ad.mpr rfl) zr ps⟩
 rcases Am.mp hx with q | q
 ·exact all x q
 ·rw [Ad] at q;subst q;exact cl r (ml hr) _ mn z zr (Ad.mpr rfl)<|all r hr
def bT(zs:List Str):Prop:=zs.Pairwise λa b=>a.cps.toList < b.cps.toList
theorem FH:∀{zs:List Str},sortedS zs=true->zs.Nodup->bT zs
 | [],_,_=>List.Pairwise.nil
 | z :: r,h,hn=>by
  rw [Bf] at hn;refine List.Pairwise.cons (λx hx=>?_)<|FH (bA.eJ h) hn.2;have h1:=bA.dH r z h x hx
  rcases Gn.mp h1 with q | q
  ·exact q
  ·exact absurd hx<|by rw [<- bA.fw q];exact hn.1
theorem gP{zs:List Str}(h:bT zs):zs.Nodup:=h.imp λq e=>by rw [e] at q;exact Ge _ q
theorem FI:∀{a b:List Str},bT a->bT b->(∀ x,x∈a↔x∈b)->a=b
 | [],[],_,_,_=>rfl
 | [],y :: b,_,_,h=>by have:=(h y).mpr<|Ae ..;cases this
 | x :: a,[],_,_,h=>by have:=(h x).mp<|Ae ..;cases this
 | x :: a,y :: b,ha,hb,h=>by
  unfold bT at ha hb;rw [Ct] at ha hb;have exy:x=y:=by
   rcases Ai.mp ((h x).mp<|Ae ..) with e | e
   ·exact e
   ·rcases Ai.mp ((h y).mpr<|Ae ..) with e2 | e2
    ·exact e2.symm
    ·exact absurd (Gk (ha.1 y e2)<|hb.1 x e)<|Ge _
  subst exy;have nx:∀(l:List Str),(∀ z∈l,x.cps.toList < z.cps.toList)->x∉l:=λl hl hm=>Ge _<|hl x hm;have:a=b:=FI ha.2 hb.2 λz=>by
   constructor
   ·intro hz
    rcases Ai.mp ((h z).mp<|Ah _ hz) with e | e
    ·exact absurd (e ▸ hz)<|nx a ha.1
    ·exact e
   ·intro hz
    rcases Ai.mp ((h z).mpr<|Ah _ hz) with e | e
    ·exact absurd (e ▸ hz)<|nx b hb.1
    ·exact e
  rw [this]
def dS(n:Net)(ps:List Str)(z:Str):Prop:=∃ e,aN n e=some z/\aE n e.1∈ps/\aE n (other n e).1∉ps
theorem nJ{n:Net}{ps:List Str}{z:Str}(h:dS n ps z):z∈ag n:=by
 obtain⟨e,he,_⟩:=h;exact dI he
theorem kS{n:Net}(T:av n){ps:List Str}{z:Str}{e:End}(he:aN n e=some z):dS n ps z↔(decide (aE n e.1∈ps) != decide (aE n (other n e).1∈ps))=true:=by
 have o:=dJ T he
 constructor
 ·rintro ⟨x,hx,h1,h2⟩
  rcases (j4 T he).mp hx with q | q
  ·subst q;simp [h1,h2]
  ·subst q;rw [o.2.1] at h2;simp [h1,h2]
 ·intro h
  by_cases h1:aE n e.1∈ps
  ·by_cases h2:aE n (other n e).1∈ps
   ·simp [h1,h2] at h
   ·exact⟨e,he,h1,h2⟩
  ·by_cases h2:aE n (other n e).1∈ps
   ·exact⟨other n e,o.1,h2,by rw [o.2.1];exact h1⟩
   ·simp [h1,h2] at h
theorem q1a{n:Net}(T:av n){x:Lk}(h:nI n x):∃ e,aN n e=some x.1/\x.2.1=aE n e.1/\x.2.2=aE n (other n e).1:=by
 obtain⟨a,b,hp,h1,h2⟩:=h;have ha:aN n a=some x.1:=aG.mp (by rw [hp];exact Ae ..);have hb:aN n b=some x.1:=aG.mp (by rw [hp];simp);have pU:=N5 n x.1;rw [hp] at pU;have ft:b≠a:=λq=>by rw [q] at pU;simp at pU
 rcases (j4 T ha).mp hb with q | q
 ·exact absurd q ft
 ·exact⟨a,ha,h1,by rw [h2,q]⟩
theorem q1i{n:Net}(T:av n){e:End}{z:Str}(h:aN n e=some z):nI n (z,aE n e.1,aE n (other n e).1)\/nI n (z,aE n (other n e).1,aE n e.1):=by
 obtain⟨a,b,hp,ft,hh⟩:=nh T h;have ha:aN n a=some z:=aG.mp (by rw [hp];exact Ae ..);have hb:aN n b=some z:=aG.mp<|by rw [hp];simp
 rcases hh with q | q
 ·subst q;refine .inl ⟨e,b,hp,rfl,?_⟩
  rcases (j4 T h).mp hb with q | q
  ·exact absurd q.symm ft
  ·show aE n (other n e).1=aE n b.1;rw [q]
 ·subst q;refine .inr ⟨a,e,hp,?_,rfl⟩
  rcases (j4 T h).mp ha with q | q
  ·exact absurd q ft
  ·show aE n (other n e).1=aE n a.1;rw [q]
theorem yd{n:Net}(T:av n){ps:List Str}{x:Lk}(h:nI n x):dS n ps x.1↔(decide (x.2.1∈ps) != decide (x.2.2∈ps))=true:=by
 obtain⟨e,he,h1,h2⟩:=q1a T h;rw [h1,h2];exact kS T he
def b8(n:Net):Str:=aE n 0
structure bb(n:Net)(ss sd:List Str):Prop where
 mj:bT sd
 mem:∀ x∈sd,x∈n.map (·.1)
 fst:b8 n∉sd
 cut:∀ z,z∈ss↔dS n sd z
structure Tells(n:Net)(ss:List Str)(ls:List Bl):Prop where
 to:∀ e z,aN n e=some z->x0v ls (aE n e.1) (aE n (other n e).1) (decide (z∈ss))
 fro:∀ l∈ls,∃ e z,aN n e=some z/\l=(aE n e.1,aE n (other n e).1,decide (z∈ss))
theorem ja{n:Net}{i:Nat}(h:i < n.length):aE n i∈n.map (·.1):=by
 rw [nH h];exact An.mpr ⟨_,Bu h,rfl⟩
noncomputable def dU(n:Net)(ss:List Str):List Bl:=(ends n).map λe=>(aE n e.1,aE n (other n e).1,decide ((aN n e).getD ⟨#[]⟩∈ss))
theorem O6{n:Net}{ss:List Str}:Tells n ss (dU n ss):=by
 refine⟨λe z h=> .inl (An.mpr ⟨e,af.mpr ⟨z,h⟩,by rw [h];rfl⟩),λl hl=>?_⟩;obtain⟨e,he,q⟩:=An.mp hl;obtain⟨z,hz⟩:=af.mp he;exact⟨e,z,hz,by rw [<- q,hz];rfl⟩
theorem rS{n:Net}(T:av n){e:End}{z:Str}(h:aN n e=some z):(other n e).1 < n.length:=cK (dJ T h).1
theorem k5o{n:Net}(T:av n){ps qs:List Str}(h:∀ x∈n.map (·.1),x∈qs↔x∉ps)(z:Str):dS n ps z↔dS n qs z:=by
 have k:∀{e:End},aN n e=some z->(dS n ps z↔dS n qs z):=λ{e} he=>by
  rw [kS T he,kS T he];have a1:=h _<|ja<|cK he;have a2:=h _<|ja<|rS T he
  by_cases h1:aE n e.1∈ps <;> by_cases h2:aE n (other n e).1∈ps <;> simp [a1,a2,h1,h2]
 constructor
 ·intro hc;obtain⟨e,he,_⟩:=hc;exact(k he).mp ⟨e,he,by assumption⟩
 ·intro hc;obtain⟨e,he,_⟩:=hc;exact(k he).mpr ⟨e,he,by assumption⟩
open PyProof.Rows (sortedS)
theorem O7{n:Net}(hn:(n.map (·.1)).Nodup){i j:Nat}(hi:i < n.length)(hj:j < n.length)(h:aE n i=aE n j):i=j:=by
 rw [nH hi,nH hj] at h;have:=(Cn.mp hn);rw [Bs] at this
 rcases QW i j with q | q | q
 ·exact absurd (by rw [Dq,Dq];exact h)<|this i j (by simpa using hi) (by simpa using hj) q
 ·exact q
 ·exact absurd (by rw [Dq,Dq];exact h.symm)<|this j i (by simpa using hj) (by simpa using hi) q
open PyProof.Rows (sortedS)
theorem O8(a b c:List Str)(h:∀ z,z∈c↔(if z∈a then z∉b else z∈b)):∀ zs:List Str,(zs.filter λz=>c.contains z).length % 2=((zs.filter λz=>a.contains z).length+(zs.filter λz=>b.contains z).length) % 2
 | []=>rfl
 | z :: r=>by
  have ih:=O8 a b c h r;have hz:=h z;have ca:=λ(l:List Str)=>(Bm (as:=l) (a:=z));simp only [Cp]
  by_cases ha:z∈a <;> by_cases hb:z∈b
  ·have hc:z∉c:=λq=>by have:=hz.mp q;rw [BP ha] at this;exact this hb
   rw [BP<|(ca a).mpr ha,BP<|(ca b).mpr hb,BK λq=>hc<|(ca c).mp q,As,As];omega
  ·have hc:z∈c:=hz.mpr (by rw [BP ha];exact hb);rw [BP<|(ca a).mpr ha,BK λq=>hb<|(ca b).mp q,BP<|(ca c).mpr hc,As,As];omega
  ·have hc:z∈c:=hz.mpr (by rw [BK ha];exact hb);rw [BK λq=>ha<|(ca a).mp q,BP<|(ca b).mpr hb,BP<|(ca c).mpr hc,As,As];omega
  ·have hc:z∉c:=λq=>by have:=hz.mp q;rw [BK ha] at this;exact hb this
   rw [BK λq=>ha<|(ca a).mp q,BK λq=>hb<|(ca b).mp q,BK λq=>hc<|(ca c).mp q];exact ih
theorem cS{n:Net}{ss:List Str}:dR n ss=true↔∀ r∈n,(r.2.filter λz=>ss.contains z).length % 2=0:=by
 unfold dR;rw [Ee];exact⟨λh r hr=>by simpa using h r hr,λh r hr=>by simpa using h r hr⟩
theorem q06{n:Net}{a b c:List Str}(ha:dR n a=true)(hb:dR n b=true)(h:∀ z,z∈c↔(if z∈a then z∉b else z∈b)):dR n c=true:=by
 rw [cS] at ha hb ⊢;intro r hr;have h1:=ha r hr;have h2:=hb r hr;rw [O8 a b c h];omega
theorem O9(k:Nat)(z:Str):∀(ts:List Str) (p:Nat),(bL (bq k ts p) z).length=ts.count z
 | [],p=>rfl
 | t :: r,p=>by
  have ih:=O9 k z r<|p+1;have e:bq k (t :: r) p=(t,(k,p)) :: bq k r (p+1):=by unfold bq;rfl
  rw [e];unfold bL at ih ⊢;rw [Cp,Cy]
  by_cases h:t=z
  ·rw [BP<|BW h,Bj,As,ih,BP<|by simpa using h]
  ·rw [BK λq=>h<|BX q,ih,BK<|by simpa using h];rfl
theorem k7r(a b:List<|Str×End)(z:Str):bL (a++b) z=bL a z++bL b z:=by
 unfold bL;rw [Cq,Ak]
theorem O'{k:Nat}{ts:List Str}{p:Nat}{z:Str}{e:End}(h:e∈bL (bq k ts p) z):e.1=k:=by
 unfold bL at h;obtain⟨x,hx,rfl⟩:=An.mp h;obtain⟨y,e⟩:=x;exact(bK.mp (Ba.mp hx).1).1
theorem Pa(ps:List Str)(f:Nat->Str)(z:Str):∀(m:Net) (k:Nat),(∀(i:Nat) r,m[i]?=some r->f (k+i)=r.1)->((bL (fA k m) z).filter λe=>decide (f e.1∈ps)).length=(ag<|m.filter λr=>decide (r.1∈ps)).count z
 | [],k,_=>rfl
 | r :: m,k,h=>by
  have ih:=Pa ps f z m (k+1) λi s hs=>by
   have:=h (i+1) s (by simpa using hs);rw [<- this]
   congr 1
   omega
  have e:fA k (r :: m)=bq k r.2 0++fA (k+1) m:=rfl;have hk:f k=r.1:=h 0 r rfl;rw [e,k7r,Cq,Af,ih,Cp]
  by_cases hr:r.1∈ps
  ·rw [BP<|BW hr];have:ag (r :: m.filter λr=>decide (r.1∈ps))=r.2++ag (m.filter λr=>decide (r.1∈ps)):=by unfold ag;rfl
   rw [this,Ep,List.filter_eq_self.mpr (λe he=>by rw [O' he,hk];exact BW hr),O9]
  ·rw [BK λq=>hr<|BX q];have:(bL (bq k r.2 0) z).filter (λe=>decide (f e.1∈ps))=[]:=Fc.mpr λe he q=>by
    rw [O' he,hk] at q;exact hr<|BX q
   rw [this];simp
theorem Pb{n:Net}(T:av n)(ps:List Str)(z:Str):dS n ps z↔(ag<|n.filter λr=>decide (r.1∈ps)).count z % 2=1:=by
 have e:=Pa ps (aE n) z n 0 λi r h=>by
  rw [Eb];unfold aE;rw [h];rfl
 rw [<- e];show dS n ps z↔((pos n z).filter λe=>decide (aE n e.1∈ps)).length % 2=1
 by_cases hz:z∈ag n
 ·obtain⟨a,ha⟩:∃ a,a∈pos n z:=by
   cases hp:pos n z with
   | nil=>exact absurd hp<|cm.mp hz
   | cons a r=>exact⟨a,Ae ..⟩
  obtain⟨x,y,hp,EC,hh⟩:=nh T<|aG.mp ha;have hl:nI n (z,aE n x.1,aE n y.1):=⟨x,y,hp,rfl,rfl⟩;rw [show dS n ps z↔_ from yd (ps:=ps) T hl,hp]
  by_cases h1:aE n x.1∈ps <;> by_cases h2:aE n y.1∈ps <;> simp [h1,h2]
 ·have hp:pos n z=[]:=DR λh=>hz<|cm.mpr h;rw [hp];exact⟨λh=>absurd (nJ h) hz,λh=>by cases h⟩
theorem FK{a:List Str}(hn:a.Nodup):∀ l:List Str,(l.filter λz=>a.contains z).length=(a.map λz=>l.count z).sum
 | []=>by
  have:∀ a:List Str,(a.map λz=>([]:List Str).count z).sum=0:=λa=>by
   induction a with
   | nil=>rfl
   | cons x r ih=>rw [Bj,Fu,ih];rfl
  rw [this];rfl
 | y :: l=>by
  have ih:=FK hn l;have key:∀ a:List Str,(a.map λz=>(y :: l).count z).sum=(a.map λz=>l.count z).sum+a.count y:=λa=>by
   induction a with
   | nil=>rfl
   | cons x r ih=>
    rw [Bj,Fu,ih,Bj,Fu,Cy,Cy]
    by_cases h:y=x
    ·rw [BP (by simp [h]),BP<|by simp [h]];omega
    ·rw [BK (by simpa using h),BK<|by simpa using λq=>h<|Eq.symm q];omega
  rw [key,Cp,<- ih,hn.count]
  by_cases h:y∈a
  ·rw [BP<|Bm.mpr h,BP h,As]
  ·rw [BK λq=>h<|Bm.mp q,BK h];rfl
theorem Pg{a:List Str}:∀ m:Net,(∀ r∈m,(r.2.filter λz=>a.contains z).length % 2=0)->((ag m).filter λz=>a.contains z).length % 2=0
 | [],_=>rfl
 | r :: m,h=>by
  have ih:=Pg m λs hs=>h s<|Ah _ hs;have h1:=h r<|Ae ..;have:ag (r :: m)=r.2++ag m:=by unfold ag;rfl
  rw [this,Cq,Af];omega
theorem Ph(cs:List Str)(g:Str->Nat)(h:∀ z,z∈cs↔g z % 2=1):∀ a:List Str,(a.filter λz=>cs.contains z).length % 2=(a.map g).sum % 2
 | []=>rfl
 | z :: r=>by
  have ih:=Ph cs g h r;rw [Cp,Bj,Fu]
  by_cases hz:z∈cs
  ·rw [BP<|Bm.mpr hz,As];have:=(h z).mp hz;omega
  ·rw [BK λq=>hz<|Bm.mp q];have:¬ g z % 2=1:=λq=>hz<|(h z).mpr q;omega
theorem k88{n:Net}(T:av n){a cs ps:List Str}(ha:dR n a=true)(hn:a.Nodup)(hc:∀ z,z∈cs↔dS n ps z):(a.filter λz=>cs.contains z).length % 2=0:=by
 rw [Ph cs (λz=>(ag<|n.filter λr=>decide (r.1∈ps)).count z) (λz=>(hc z).trans<|Pb T ps z) a,<- FK hn];exact Pg _ λr hr=>cS.mp ha r (Ba.mp hr).1
theorem q0t{a b:List Str}(ha:a.Nodup)(hb:b.Nodup):(a.filter λz=>b.contains z).length=(b.filter λz=>a.contains z).length:=by
 refine((Fj (ha.filter _)<|hb.filter _).mpr λz=>?_).length_eq;rw [Ba,Ba,Bm,Bm];exact⟨λh=>⟨h.2,h.1⟩,λh=>⟨h.2,h.1⟩⟩
theorem FL{n:Net}(T:av n){ss:List Str}(hn:ss.Nodup)(hm:∀ z∈ss,z∈ag n):2 * ss.length<=(ag n).length:=by
 have h:=FK hn<|ag n;have e:∀ l:List Str,(∀ z∈l,z∈ag n)->(l.map λz=>(ag n).count z).sum=2 * l.length:=λl=>by
  induction l with
  | nil=>intro _;rfl
  | cons x r ih=>
   intro hl;rw [Bj,Fu,ih λz hz=>hl z<|Ah _ hz,T x<|hl x<|Ae ..,As];omega
 rw [e ss hm] at h;rw [<- h];exact Dm _ _
structure j5(n:Net)(cs:List Str):Prop where
 mj:bT cs
 cut:∃ ps,∀ z,z∈cs↔dS n ps z
theorem q3s{n:Net}(T:av n){a b c:List Str}(ha:j5 n a)(hb:j5 n b)(hs:bT c)(h:∀ z,z∈c↔(if z∈a then z∉b else z∈b)):j5 n c:=by
 obtain⟨pa,ca⟩:=ha.cut;obtain⟨pb,cb⟩:=hb.cut;have hm:∀ x,x∈n.map (·.1)->(decide (x∈(n.map (·.1)).filter λx=>decide (x∈pa) != decide (x∈pb))=(decide (x∈pa) != decide (x∈pb))):=λx hx=>by
  rw [Ck,CJ,Ba];exact⟨λq=>q.2,λq=>⟨hx,q⟩⟩
 refine⟨hs,(n.map (·.1)).filter λx=>decide (x∈pa) != decide (x∈pb),λz=>?_⟩;rw [h z]
 by_cases hz:z∈ag n
 ·obtain⟨e,he⟩:∃ e,e∈pos n z:=by
   cases hp:pos n z with
   | nil=>exact absurd hp<|cm.mp hz
   | cons a r=>exact⟨a,Ae ..⟩
  have he:=aG.mp he;rw [kS T he,hm _<|ja<|cK he,hm _<|ja<|rS T he];have h1:=(ca z).trans<|kS T he;have h2:=(cb z).trans<|kS T he
  by_cases q1:z∈a <;> by_cases q2:z∈b
  ·have h1:=h1.mp q1;have h2:=h2.mp q2;rw [BP q1];refine⟨λq=>absurd q2 q,λq=>?_⟩
   revert h1 h2 q
   cases decide (aE n e.1∈pa) <;> cases decide (aE n e.1∈pb) <;> cases decide (aE n (other n e).1∈pa) <;> cases decide (aE n (other n e).1∈pb) <;> simp
  ·have h1:=h1.mp q1;have h2:¬ _:=λq=>q2<|h2.mpr q;rw [BP q1];refine⟨λ_=>?_,λ_=>q2⟩
   revert h1 h2
   cases decide (aE n e.1∈pa) <;> cases decide (aE n e.1∈pb) <;> cases decide (aE n (other n e).1∈pa) <;> cases decide (aE n (other n e).1∈pb) <;> simp
  ·have h1:¬ _:=λq=>q1<|h1.mpr q;have h2:=h2.mp q2;rw [BK q1];refine⟨λ_=>?_,λ_=>q2⟩
   revert h1 h2
   cases decide (aE n e.1∈pa) <;> cases decide (aE n e.1∈pb) <;> cases decide (aE n (other n e).1∈pa) <;> cases decide (aE n (other n e).1∈pb) <;> simp
  ·have h1:¬ _:=λq=>q1<|h1.mpr q;have h2:¬ _:=λq=>q2<|h2.mpr q;rw [BK q1];refine⟨λq=>absurd q q2,λq=>?_⟩
   revert h1 h2 q
   cases decide (aE n e.1∈pa) <;> cases decide (aE n e.1∈pb) <;> cases decide (aE n (other n e).1∈pa) <;> cases decide (aE n (other n e).1∈pb) <;> simp
 ·have n1:z∉a:=λq=>hz<|nJ<|(ca z).mp q;have n2:z∉b:=λq=>hz<|nJ<|(cb z).mp q;rw [BK n1];exact⟨λq=>absurd q n2,λq=>absurd (nJ q) hz⟩
theorem q83{x y:Str}(h:x≠y):x.cps.toList < y.cps.toList\/y.cps.toList < x.cps.toList:=by
 by_cases q:x.cps.toList < y.cps.toList
 ·exact .inl q
 ·rcases Gn.mp (List.not_lt.mp q) with q | q
  ·exact .inr q
  ·exact absurd (bA.fw q).symm h
theorem Pj(x:Str):∀ sd:List Str,bT sd->∃ jb,bT jb/\∀ y,y∈jb↔y=x\/y∈sd
 | [],_=>⟨[x],Gb _ _,λy=>by simp⟩
 | z :: r,h=>by
  have h:=Ct.mp h
  by_cases e:x=z
  ·subst e;exact⟨x :: r,Ct.mpr h,λy=>by simp⟩
  ·rcases q83 e with q | q
   ·refine⟨x :: z :: r,Ct.mpr ⟨λy hy=>?_,Ct.mpr h⟩,λy=>Ai⟩
    rcases Ai.mp hy with rfl | hy
    ·exact q
    ·exact Gk q<|h.1 y hy
   ·obtain⟨jb,hs,hm⟩:=Pj x r h.2;refine⟨z :: jb,Ct.mpr ⟨λy hy=>?_,hs⟩,λy=>?_⟩
    ·rcases (hm y).mp hy with rfl | hy
     ·exact q
     ·exact h.1 y hy
    ·rw [Ai,hm y,Ai];exact⟨λk=>by rcases k with k | k | k <;> simp [k],λk=>by rcases k with k | k | k <;> simp [k]⟩
theorem kU:∀ l:List Str,∃ sd,bT sd/\∀ x,x∈sd↔x∈l
 | []=>⟨[],List.Pairwise.nil,λ_=>Iff.rfl⟩
 | x :: r=>by
  obtain⟨sd,hs,hm⟩:=kU r;obtain⟨jb,jI,hm'⟩:=Pj x sd hs;exact⟨jb,jI,λy=>by rw [hm' y,hm y,Ai]⟩
theorem FO{n:Net}(T:av n)(h0:0 < n.length){cs:List Str}(h:j5 n cs):∃ sd,bb n cs sd:=by
 obtain⟨ps,hc⟩:=h.cut
 by_cases hf:b8 n∈ps
 ·obtain⟨sd,hs,hm⟩:=kU ((n.map (·.1)).filter λx=>!decide (x∈ps));have hm:∀ x,x∈sd↔x∈n.map (·.1)/\x∉ps:=λx=>by
   rw [hm x,Ba,KN,HJ]
  refine⟨sd,hs,λx hx=>((hm x).mp hx).1,λq=>((hm _).mp q).2 hf,λz=>(hc z).trans<|k5o T (λx hx=>?_) z⟩;rw [hm x];exact⟨λq=>q.2,λq=>⟨hx,q⟩⟩
 ·obtain⟨sd,hs,hm⟩:=kU ((n.map (·.1)).filter λx=>decide (x∈ps));have hm:∀ x,x∈sd↔x∈n.map (·.1)/\x∈ps:=λx=>by
   rw [hm x,Ba,CJ]
  refine⟨sd,hs,λx hx=>((hm x).mp hx).1,λq=>hf ((hm _).mp q).2,λz=>(hc z).trans ?_⟩;have k:∀{e:End},aN n e=some z->(dS n ps z↔dS n sd z):=λ{e} he=>by
   rw [kS T he,kS T he];have a1:=hm<|aE n e.1;have a2:=hm<|aE n (other n e).1;have b1:=ja<|cK he;have b2:=ja<|rS T he;have c1:decide (aE n e.1∈sd)=decide (aE n e.1∈ps):=by rw [Ck,CJ,CJ,a1];exact⟨λq=>q.2,λq=>⟨b1,q⟩⟩
   have c2:decide (aE n (other n e).1∈sd)=decide (aE n (other n e).1∈ps):=by rw [Ck,CJ,CJ,a2];exact⟨λq=>q.2,λq=>⟨b2,q⟩⟩
   rw [c1,c2]
  constructor
  ·intro q;obtain⟨e,he,_⟩:=id q;exact(k he).mp q
  ·intro q;obtain⟨e,he,_⟩:=id q;exact(k he).mpr q
def HF(n:Net):Prop:=fE n/\Fl n
theorem q75{nm:Str}:HF [(nm,[])]:=⟨q00 _,q78⟩
theorem k7u{n:Net}{c:End}{z pt:Str}(T:av n)(F:Full n)(hz:z∉ag n)(hc:eR n c) (hp:(ag<|ins n c z++[(pt,[z])]).Perm<|z :: z :: ag n) (P:HF n):HF (ins n c z++[(pt,[z])]):=
 ⟨k9p (FG P.1)<|q3z hc.1,k7l T F hz hc hp P.2⟩
theorem q5m{n:Net}{k1 k2:End}{z:Str}(T:av n)(F:Full n)(hz:z∉ag n)(h1:eR n k1)(h2:eR n k2) (hp:(ag<|ins (ins n k1 z) k2 z).Perm<|z :: z :: ag n) (ord:k2=k1\/sh k1 k2=k2) (same:(∃ k,it (step n) k k1=k2)\/∃ k,it (step n) k k2=k1) (P:HF n):HF (ins (ins n k1 z) k2 z):=
 ⟨FG<|FG P.1,q5k T F hz h1 h2 hp ord same P.2⟩
theorem q6t{n n2 n0:Net}{j i:Nat}(hj:j < n.length)(hi:i < max 1 (row n j).length)(T0:av n0)(pt:(ag n++ag n2).Perm<|ag n0)
  (gu:(ag (n.eraseIdx j)++ag (n2++[(n[j].1,(row n j).drop i++(row n j).take i)])).Perm<|ag n0) (P:HF<|n++n2):HF (n.eraseIdx j++(n2++[(n[j].1,(row n j).drop i++(row n j).take i)])):=by
 refine⟨O5 (λr hr=>?_) (λx hx=>?_) P.1,q5o hj hi T0 pt gu P.2⟩
 ·rcases Am.mp hr with hx | hx
  ·rcases (bA.bN n j hj).symm.mem_iff.mp hx |> Ai.mp with q | q
   ·refine⟨(n[j].1,(row n j).drop i++(row n j).take i),Ax _<|Ax _<|Ad.mpr rfl,by rw [q],λt ht=>?_⟩;refine(EH (row n j) i).mem_iff.mpr ?_;rw [lX hj,<- q];exact ht
   ·exact⟨r,Bd _ q,rfl,λt h=>h⟩
  ·exact⟨r,Ax _<|Bd _ hx,rfl,λt h=>h⟩
 ·rcases Am.mp hx with hx | hx
  ·exact⟨x,Bd _<|Ex hx,rfl⟩
  ·rcases Am.mp hx with hx | hx
   ·exact⟨x,Ax _ hx,rfl⟩
   ·rw [Ad] at hx;exact⟨n[j],Bd _<|Bu hj,by rw [hx]⟩
theorem rT(s:Str->Bool):∀ l:List Str,aj (l.map s)=decide ((l.filter s).length % 2=1)
 | []=>rfl
 | x :: l=>by
  show(s x ^^ aj (l.map s))=_;rw [rT s l,Cp];cases h:s x
  ·rw [BK (by decide),Fo]
  ·rw [BP rfl,As,Bool.true_xor,<- decide_not];exact decide_eq_decide.mpr<|by omega
theorem Pk{n:Net}{s:Str->Bool}{ss:List Str}(h:dP n s)(hs:∀ z∈ag n,ss.contains z=s z):dR n ss=true:=cS.mpr λr hr=>by
 obtain⟨i,hi,rfl⟩:=Dr.mp hr;have:=h i;rw [rT,lX hi] at this;have e:(n[i].2.filter λz=>ss.contains z)=n[i].2.filter s:=List.filter_congr λz hz=>hs z<|Gj.mpr ⟨n[i],hr,hz⟩;rw [e];have:=JD this;omega
theorem iH{α:Type}:∀ l:List α,aj (l.map λ_=>false)=false
 | []=>rfl
 | _ :: l=>by show(false ^^ aj _)=false;rw [iH l];rfl
theorem FR(x:Nat)(e:End):∀ m,aj ((List.range m).map λp=>decide ((x,p)=e))=decide (x=e.1/\e.2 < m)
 | 0=>by simp [aj]
 | m+1=>by
  rw [Dh,Ak,jX,FR x e m];show(decide (x=e.1/\e.2 < m) ^^ (decide ((x,m)=e) ^^ false))=_;rw [Ez];obtain⟨a,b⟩:=e
  by_cases h:x=a
  ·by_cases h2:b=m
   ·subst h;subst h2;simp
   ·have e1:((x,m)=(a,b))=False:=by simp [h];omega
    rw [BR (p:=(x,m)=(a,b)) (by rw [e1];exact id),Ez];exact decide_eq_decide.mpr ⟨λq=>⟨q.1,by have:=q.2;omega⟩,λq=>⟨q.1,by have:=q.2;show b < m;omega⟩⟩
  ·rw [BR λq=>h q.1,BR λq=>h<|BZ Prod.fst q,BR λq=>h q.1];rfl
theorem ye{n:Net}(T:av n){e:End}{t:Str}(h:aN n e=some t)(x:Nat):aj ((row n x).map λy=>decide (y=t))=(decide (x=e.1) ^^ decide (x=(other n e).1)):=by
 have o:=dJ T h;rw [O2 n x (λy=>decide (y=t)) (λa=>decide (a=e) ^^ decide (a=other n e)) λp z hz=>?_]
 ·rw [gy (λp=>decide ((x,p)=e)) λp=>decide ((x,p)=other n e),FR,FR];have l1:=gM h;have l2:=gM o.1
  congr 1
  ·exact decide_eq_decide.mpr ⟨λq=>q.1,λq=>⟨q,by rw [q];exact l1⟩⟩
  ·exact decide_eq_decide.mpr ⟨λq=>q.1,λq=>⟨q,by rw [q];exact l2⟩⟩
 ·have hz:aN n (x,p)=some z:=hz
  by_cases q:z=t
  ·subst q
   rcases (j4 T h).mp hz with k | k
   ·rw [k,BW rfl,BW rfl,BR<|CK o.2.2];rfl
   ·rw [k,BW rfl,BW rfl,BR o.2.2];rfl
  ·have h1:((x,p):End)≠e:=λk=>by rw [k,h] at hz;exact q (Option.some.inj hz).symm
   have h2:((x,p):End)≠other n e:=λk=>by rw [k,o.1] at hz;exact q (Option.some.inj hz).symm
   rw [BR q,BR h1,BR h2];rfl
end Nt
namespace E8
open PySem L2 Nt bC
def FU:Sp:=λvs H Q _=>∃(R:Addr) (as:List<|Addr×Addr) (n:Net) (b:Int) (z pt:Str),vs=[.ref R,.int b,.str z,.str pt]/\ao H R as n/\av n/\Full n/\z∉ag n/\n.length<=100/\(ag n).length<=100 /\
 ∀ i pV n' H',ao H' R pV n'->pJ H H' (R :: as.map (·.2))->(∀ a∈pV,a∈as\/H a.2=none)->(ag n').Perm (z :: z :: ag n)->(n'.map (·.1)=n.map (·.1)\/n'.map (·.1)=n.map (·.1)++[pt])->Full n'->(HF n->HF n')->Q (.int i) H'
section
variable{P:Program}{w:World}{K:PySem.W.Frag}{mg:Str->Option Value}{base:Heap}
abbrev NP:List Str:=["_law_rows","_law_big_here","_law_tie","_law_point","_law_corners","_law_r","_law_place","_law_one","_law_kind","_law_face_here","_law_other_here","_law_spot"]
theorem nK:ak NP ["_law_rows","_law_big_here","_law_tie","_law_point"] (aW pE):=⟨rfl,rfl,rfl,by decide +kernel,rfl,by decide +kernel,by decide +kernel⟩
theorem Pn{ts:List Addr}{j:Nat}{t:Addr}(h:ts[j]?=some t):dY (ts.map V.ref) (j:Int)=some (.ref t):=lr<|by rw [Aj,h];rfl
theorem q7k{f:Addr}{fd:FuncData}(F:bx K "_law_put" "_law_put" pE f fd)(T:Txt mg)
  (GS:aS P w K mg base 3 "_law_seats" ["_law_rows"] xS)
  (GF:aS P w K mg base 3 "_law_face" ["_law_rows","_law_seats_here","_law_end"] EB) :
  aF P w K mg base bJ 4 f fd ["_law_rows","_law_big_here","_law_tie","_law_point"] FU:=by
 refine F.gb nK (λvs H Q E h=>?_) λb0 H vs Q E hr h=>?_
 ·obtain⟨R,as,n,b,z,pt,rfl,_⟩:=h;rfl
 obtain⟨R,as,n,b,z,pt,rfl,hR,hT,hF,hz,hn,htn,q⟩:=h;have nd:=nK.nd;have hu:=hr.f7;have bY:=hR.len;show Run _ _ _ [some<|.ref R,some<|.int b,some<|.str z,some<|.str pt,none,none,none,none,none,none,none,none] H;refine a7 4 nd<|d3<|az ⟨Z0,λlc Pp=>?_⟩;have g0:=aT Pp<|.lst [];refine lG T.range (ce dF T.len DP<|ai<|ae 0<|az ⟨R,_,rfl,.inl<|aq.of<|g0 _ _ hR.lst,_,rfl,by omega,by rw [Aa];omega,?_⟩);rw [Aa,bY,Bo];refine lH (λr σ H3=>∃(ts:List Addr) (cs:List Nt.End) (u1 u2:Option V),au H H3/\H3 lc=some (.lst<|ts.map V.ref)/\Pd H3 ts cs/\(∀ c∈cs,eR n c)/\(0 < r->cs≠[])/\cs.length<=101 * r/\σ=[some<|.ref R,some<|.int b,some<|.str z,some<|.str pt,some<|.ref lc,u1,u2,none,none,none,none,none]) ⟨[],[],_,_,g0,aB,.nil,λc hc=>(nomatch hc),λh=>absurd h (by decide),Al _,rfl⟩ ?_ ?_
 ·rintro r σ H3 hi ⟨ts,cs,u1,u2,sH,el,ep,hc,bB,hlen,rfl⟩;rw [Dw];refine bg 5 nd ?_;obtain⟨a,ea,d7,et,ell,er⟩:=(hR.same sH).at hi;have hU:=js n r;refine lG T.range<|ce (LI rfl) T.max UL<|ai<|aD<|ai<|ce dF T.len DP<|ai<|aU bF<|aU cN<|ae 0<|ae 5 ⟨R,_,_,.ref a.1,rfl,rfl,aq.of<|sH _ _ hR.lst,d7,aD ⟨a.1,_,_,.ref a.2,rfl,rfl,aI.of et,rfl,az ⟨a.2,_,rfl,.inl<|aq.of ell,?_⟩⟩⟩;rw [Aa];have em:(if((row n r).length:Int) > 1 then((row n r).length:Int) else 1)=((max 1 (row n r).length:Nat):Int):=by
   split <;> omega
  refine az ⟨1,_,rfl,((max 1 (row n r).length:Nat):Int),by rw [em],by omega,by omega,?_⟩;rw [Bo];refine lH (λp σ H4=>∃(ts:List Addr) (cs:List Nt.End) (u2:Option V),au H H4/\H4 lc=some (.lst<|ts.map V.ref)/\Pd H4 ts cs/\(∀ c∈cs,eR n c)/\(0 < r+p->cs≠[])/\cs.length<=101 * r+p/\σ=[some<|.ref R,some<|.int b,some<|.str z,some<|.str pt,some<|.ref lc,some<|.int (r:Int),u2,none,none,none,none,none]) ⟨ts,cs,_,sH,el,ep,hc,bB,hlen,rfl⟩ ?_ ?_
  ·rintro p σ H4 hp ⟨ts,cs,u2,sH,el,ep,hc,bB,hlen,rfl⟩;rw [Dw];refine bg 6 nd ?_;refine gZ<|lV<|ae 4 ⟨lc,rfl,⟨_,el⟩,dB<|ai<|ae 5<|ai<|ae 6<|az ⟨Z2,λt ht=>?_⟩⟩;have py:lc≠t:=bu el ht;have s2:=aT ht<|Tp (r,p);have rV:=ep.length;refine⟨ts.map V.ref,by rw [ay py];exact el,by rw [Aa];exact cz (by omega),?_⟩;refine bo ⟨ts++[t],cs++[(r,p)],_,gm (sH.trans s2) Pp,by rw [aB,Ak];rfl,?_,λc h=>?_,λ_=>by simp,by rw [Af];simp;omega,rfl⟩
   ·refine Pd.append (ep.keep λx e h=>?_)<|.cons ?_ .nil
    ·rw [ay<|ua h el];exact s2 _ _ h
    ·rw [ay py.symm,aB]
   ·rcases Am.mp h with h | h
    ·exact hc c h
    ·rw [Ad] at h;subst h;exact⟨hi,hp⟩
  ·rintro σ H4 ⟨ts,cs,u2,sH,el,ep,hc,bB,hlen,rfl⟩;refine bo ⟨ts,cs,_,_,sH,el,ep,hc,λ_=>bB (by omega),by omega,rfl⟩
 rintro σ H3 ⟨ts,cs,u1,u2,sH,el,ep,hc,bB,hlen,rfl⟩;have BO:0 < n.length:=Dk.mpr hF.some;have lg:=bB BO;have fk:0 < cs.length:=Dk.mpr lg;have rV:=ep.length;have m0:0<=b % (cs.length:Int):=Bx _ (by omega);have m1:b % (cs.length:Int) < cs.length:=Ce _ (by omega);obtain⟨j,hj⟩:∃ j:Nat,b % (cs.length:Int)=j:=⟨(b % (cs.length:Int)).toNat,by omega⟩;have kQ:j < cs.length:=by omega
 have yf:cs[j]?=some cs[j]:=Ab kQ;obtain⟨t1,pW,e1⟩:=ep.at yf;have ie:eR n cs[j]:=hc _<|Bu kQ;generalize cs[j]=c1 at e1 ie;refine a7 7 nd<|aU cN<|ae 4<|a9 cY<|ae 1<|ce dF T.len DP<|ai<|ae 4<|az ⟨lc,_,rfl,.inl<|aq.of el,?_⟩;rw [Aa,rV];refine⟨_,_,rfl,rfl,by omega,lc,_,_,.ref t1,rfl,rfl,aq.of el,by rw [hj];exact Pn pW,?_⟩;refine a7 1 nd<|a9 iQ<|ae 1<|ce dF T.len DP<|ai<|ae 4<|az ⟨lc,_,rfl,.inl<|aq.of el,?_⟩;rw [Aa,rV];refine⟨_,_,rfl,rfl,⟨by omega,by omega⟩,?_⟩;show Run _ _ _ [some<|.ref R,some<|.int<|b / (cs.length:Int),some<|.str z,some<|.str pt,some<|.ref lc,u1,u2,some<|.ref t1,none,none,none,none] H3;generalize b / (cs.length:Int)=b2;refine a7 8 nd (a9 cY<|ae 1<|aD ⟨_,_,rfl,rfl,(by show(0:Int) < 3;decide),?_⟩);refine a7 1 nd (a9 iQ<|ae 1<|aD ⟨_,_,rfl,rfl,⟨by decide,by decide⟩,?_⟩);show Run _ _ _ [some<|.ref R,some<|.int<|b2 / 3,some<|.str z,some<|.str pt,some<|.ref lc,u1,u2,some<|.ref t1,some<|.int<|b2 % 3,none,none,none] H3;generalize b2 / 3=b3;have rW:=hR.same sH;obtain⟨a,ea,d7,eta,Pq,era⟩:=rW.at ie.1;have Pt:∀(m:Net),(ag m).length<=200->∀ i,(row m i).length<=200:=λm h i=>By (js m i) h;have cin:c1.2<=(row n c1.1).length:=by
  have:=ie.2;omega
 refine eY<|cE jC<|ae 8<|aD ⟨rfl,_,rfl,?_⟩;refine jF (λ_=>?_) λ_=>bo ?_
 ·
  have rl:=js n c1.1;refine gZ<|C8 FT RN RP NV<|aU bF<|aU cN<|ae 0<|aU bF<|ae 7<|aD ⟨t1,_,_,.int (c1.1:Int),rfl,rfl,aI.of e1,rfl,R,_,_,.ref a.1,rfl,rfl,aq.of rW.lst,d7,aD ⟨a.1,_,_,.ref a.2,rfl,rfl,aI.of eta,rfl,Or.inl ⟨rfl,_,aq.of Pq⟩,?_⟩⟩;refine aU bF (ae 7<|aD ⟨t1,_,_,.int (c1.2:Int),rfl,rfl,aI.of e1,rfl,ae 2 ⟨a.2,_,_,_,rfl,rfl,Pq,by omega,by rw [Bo,Aa];exact cin,by rw [Aa];exact cz (by omega),?_⟩⟩);rw [Bo,Og];have R4:=rW.ins (z:=z) ea ie.1;refine gZ<|lV<|ae 0 ⟨R,rfl,⟨_,R4.lst⟩,dB<|ai<|ae 3<|ai<|d3<|ai<|ae 2<|az ⟨Z1,λl1 gk=>?_⟩⟩;refine az ⟨Z2,λt2 kJ=>?_⟩;have s5:=aT gk<|Ls [z];have s6:=aT kJ<|.tup [.str pt,.ref l1];have R6:=(R4.same s5).same s6;refine⟨_,R6.lst,by rw [Aa];exact cz (by omega),?_⟩;have l1f:H3 l1=none:=by
   by_cases q1:l1=a.2
   ·rw [q1,aB] at gk;cases gk
   ·rwa [ay q1] at gk
  have l1n:l1∉as.map (·.2):=λhm=>by
   obtain⟨x,hx,e⟩:=An.mp hm;exact R4.fresh gk hx e.symm
  have l1R:l1≠R:=λe=>by rw [e,R4.lst] at gk;cases gk
  have R7:=R6.more (t:=t2) (l:=l1) (pt:=pt) (zs:=[z]) aB (s6 _ _ aB) l1n l1R;have tp:(ag<|ins n c1 z++[(pt,[z])]).Perm (z :: z :: ag n):=by
   unfold ag;rw [Du];show(ag (ins n c1 z)++[z]).Perm _;exact(Ci).trans<|(kP n c1 z ie.1).cons z
  refine bO<|ae 1<|q _ _ _ _ R7 (λx o hx j6=>?_) (λx hx=>?_) tp (.inr ?_) ?_ λhP=>k7u hT hF hz ie tp hP
  ·have x1:x≠R:=λe=>j6 (by rw [e];exact Ae);have x2:x≠a.2:=λe=>j6 (Ah _<|by rw [e];exact An.mpr ⟨a,Ap ea,rfl⟩);rw [ay x1];refine s6 _ _<|s5 _ _ ?_;rw [ay x2];exact sH _ _ hx
  ·rcases Am.mp hx with hx | hx
   ·exact .inl hx
   ·rw [Ad] at hx;subst hx;exact .inr<|sH.free l1f
  ·rw [Ak,ED];rfl
  ·refine .inr ⟨by simp,λi hi=>?_⟩;have hfi:=(EE (z:=z) hF ie.1 hF.either).1;rw [Af] at hi;simp at hi
   rcases Di i (ins n c1 z).length with h | h
   ·have:=hfi i h;unfold row at this ⊢;rw [Ar h];exact this
   ·unfold row;rw [Ay h,show i - (ins n c1 z).length=0 by omega];simp
 ·
  refine a7 9 nd<|d3<|ai<|ae 7<|az ⟨Z1,λlf Pu=>?_⟩;have s4:=aT Pu<|.lst [.ref t1];have sH4:=sH.trans s4;have pX:=rW.same s4;obtain⟨a0,ea0,FV,et0,Pw,er0⟩:=pX.at BO;have lf0:∀ x∈as,lf≠x.2:=λx hx=>rW.fresh Pu hx;show Run _ _ _ [some<|.ref R,some<|.int b3,some<|.str z,some<|.str pt,some<|.ref lc,u1,u2,some<|.ref t1,some<|.int<|b2 % 3,some<|.ref lf,none,none] (upd H3 lf<|.lst [.ref t1]);refine Ym (λk H'=>au (upd H3 lf<|.lst [.ref t1]) H'/\(k=true->row n 0≠[])) (λσ' H'=>∃(lf:Addr) (kN:List Addr) (fs:List Nt.End),au H3 H'/\(∀ x∈as,lf≠x.2)/\H' lf=some (.lst<|kN.map V.ref)/\Pd H' kN fs/\0 < fs.length/\fs.length<=1000/\(∀ c∈fs,eR n c/\∃ k,it (step n) k c1=c) /\
   σ'=[some<|.ref R,some<|.int b3,some<|.str z,some<|.str pt,some<|.ref lc,u1,u2,some<|.ref t1,some<|.int<|b2 % 3,some<|.ref lf,none,none]) ?_ ?_ (λH5 ⟨s5,_⟩=>bo ⟨lf,[t1],[c1],s4.trans s5,lf0,s5 _ _ aB,.cons (s5 _ _<|s4 _ _ e1) .nil,Fm,by show 1<=1000;decide,λc gQ=>by rw [Ad] at gQ;rw [gQ];exact⟨ie,0,rfl⟩,rfl⟩) ?_
  ·refine cE (xm hu)<|aU bF<|aU cN<|ae 0<|aD ⟨R,_,_,.ref a0.1,rfl,rfl,aq.of pX.lst,FV,aD ⟨a0.1,_,_,.ref a0.2,rfl,rfl,aI.of et0,rfl,d3<|az ⟨Z0,λp hp=>?_⟩⟩⟩;have s5:=aT hp<|.lst []
   by_cases h0:row n 0=[]
   ·refine⟨1,_,by decide,NA (k:=0) (xs:=[]) (ys:=[]) (λ_=>true) (aq.of<|by rw [s5 _ _ Pw,h0];rfl) (aq.of aB) rfl (λj x y hx _=>by simp at hx),_,rfl,s5,λh=>by cases h⟩
   ·refine⟨1,_,by decide,ND (k:=1) (aq.of<|s5 _ _ Pw) (aq.of (xs:=[]) aB) (by rw [Aa];intro h;exact h0<|Bi.mp h),_,rfl,s5,λ_=>h0⟩
  ·rintro H4 ⟨FX,h0⟩;have h0:=h0 rfl;have pX:=pX.same FX;have yb:=hF.cL h0 ie;have pY:=i7 n;refine a7 9 nd (bz GF hr<|ai<|ae 0<|ai<|bz GS hr<|ai<|ae 0<|az ⟨R,as,n,rfl,pX,by omega,by omega,λd ks H5 s5 n5 S5=>?_⟩);refine ai (ae 7<|az ⟨R,d,t1,as,n,ks,c1,rfl,pX.same s5,S5,hT,s5 _ _<|FX _ _<|s4 _ _ e1,yb,by omega,λl6 ts6 fs6 H6 s6 n6 e6 p6 f6=>?_⟩);exact bo ⟨l6,ts6,fs6,s4.trans<|FX.trans<|s5.trans s6,λx hx=>(pX.same s5).fresh n6 hx,e6,p6,f6.pos,by have:=f6.len;omega,λc gQ=>⟨Za<|f6.ends hT yb c gQ,q4s f6 gQ⟩,rfl⟩
  ·rintro σ' H5 ⟨lf,kN,fs,s5,lfn,FY,CD,x0B,x0C,F0,rfl⟩;have uB:=CD.length;have n0:0<=b3 % (fs.length:Int):=Bx _ (by omega);have n1:b3 % (fs.length:Int) < fs.length:=Ce _ (by omega);obtain⟨j2,fN⟩:∃ j:Nat,b3 % (fs.length:Int)=j:=⟨(b3 % (fs.length:Int)).toNat,by omega⟩;have uC:j2 < fs.length:=by omega
   have F1:fs[j2]?=some fs[j2]:=Ab uC;obtain⟨t2,pZ,e2⟩:=CD.at F1;obtain⟨p4,iI⟩:=F0 _<|Bu uC;generalize fs[j2]=c2 at e2 p4 iI;have oV:=s5 _ _ e1;refine a7 10 nd<|aU cN<|ae 9<|a9 cY<|ae 1<|ce dF T.len DP<|ai<|ae 9<|az ⟨lf,_,rfl,.inl<|aq.of FY,?_⟩;rw [Aa,uB];refine⟨_,_,rfl,rfl,by omega,lf,_,_,.ref t2,rfl,rfl,aq.of FY,by rw [fN];exact Pn pZ,?_⟩;have yg:=rW.same s5;show Run _ _ _ [some<|.ref R,some<|.int b3,some<|.str z,some<|.str pt,some<|.ref lc,u1,u2,some<|.ref t1,some<|.int<|b2 % 3,some<|.ref lf,some<|.ref t2,none] H5;refine kE<|YF T.sorted<|d3<|ai<|ae 7<|ai<|ae 10<|az ⟨Z2,λl2 kC=>?_⟩;have s6:=aT kC<|.lst [.ref t1,.ref t2];refine⟨l2,t1,t2,(c1.1:Int),(c1.2:Int),(c2.1:Int),(c2.2:Int),rfl,aB,s6 _ _ oV,s6 _ _ e2,λrr Px=>?_⟩;have rn:∀ x∈as,rr≠x.2:=λx hx=>(yg.same s6).fresh Px hx;obtain⟨x1,x2,k1,k2,eS,f1,f2,q1,q2,F3,uD⟩:∃ x1 x2 k1 k2,(if lexLt ((c1.1:Int),(c1.2:Int)) ((c2.1:Int),(c2.2:Int))=true then [V.ref t2,.ref t1] else [.ref t1,.ref t2])=[.ref x1,.ref x2]/\(upd H5 l2<|.lst [.ref t1,.ref t2]) x1=some (Tp k1)/\(upd H5 l2<|.lst [.ref t1,.ref t2]) x2=some (Tp k2)/\eR n k1/\eR n k2/\(k2=k1\/sh k1 k2=k2)/\((∃ k,it (step n) k k1=k2)\/∃ k,it (step n) k k2=k1):=by
    cases Py:lexLt ((c1.1:Int),(c1.2:Int)) ((c2.1:Int),(c2.2:Int)) with
    | true=>exact⟨t2,t1,c2,c1,rfl,s6 _ _ e2,s6 _ _ oV,p4,ie,.inr<|q0r Py,.inr iI⟩
    | false=>exact⟨t1,t2,c1,c2,rfl,s6 _ _ oV,s6 _ _ e2,ie,p4,k91 Py,.inl iI⟩
   rw [eS];have s7:=aT Px<|.lst [.ref x1,.ref x2];have f1:=s7 _ _ f1;have f2:=s7 _ _ f2;have s6:=s6.trans s7;have fr:=aB (H:=upd H5 l2<|.lst [.ref t1,.ref t2]) (a:=rr) (o:= .lst [.ref x1,.ref x2]);generalize upd (upd H5 l2<|.lst [.ref t1,.ref t2]) rr (.lst [.ref x1,.ref x2])=H6 at f1 f2 s6 fr ⊢;have uE:au H H6:=sH.trans<|s5.trans s6;have yh:=yg.same s6;have uF:pJ H H6 (R :: as.map (·.2)):=λx o hx _=>uE _ _ hx;refine⟨rr,rfl,⟨_,aq.of fr⟩,kF (xs:=[.ref x1,.ref x2]) (λi σ H7=>∃(m:Net) (u:Option V),ao H7 R as m/\pJ H H7 (R :: as.map (·.2))/\H7 rr=some (.lst [.ref x1,.ref x2])/\H7 lf=some (.lst<|kN.map V.ref)/\H7 x1=some (Tp k1)/\H7 x2=some (Tp k2) /\
    ((i=0/\m=n)\/(i=1/\m=ins n k1 z)\/(i=2/\m=ins (ins n k1 z) k2 z))/\σ=[some<|.ref R,some<|.int b3,some<|.str z,some<|.str pt,some<|.ref lc,u1,u2,some<|.ref t1,some<|.int<|b2 % 3,some<|.ref lf,some<|.ref t2,u]) ⟨n,_,yh,uF,fr,s6 _ _ FY,f1,f2,.inl ⟨rfl,rfl⟩,rfl⟩ ?_ ?_ ?_⟩
   ·rintro i σ H7 _ ⟨m,u,_,_,yi,_⟩;exact aq.of yi
   ·rintro i v σ H7 hv ⟨m,u,nN,uG,yi,F4,g1,g2,hm,rfl⟩;have ti1:=(kP n k1 z q1.1).length_eq;rw [As] at ti1;obtain⟨y,k,rfl,hy,hk,iJ,hml⟩:∃ y k,v = .ref y/\H7 y=some (Tp k)/\eR m k/\((i+1=0/\ins m k z=n)\/(i+1=1/\ins m k z=ins n k1 z)\/(i+1=2/\ins m k z=ins (ins n k1 z) k2 z))/\(ag m).length<=200:=by
     rcases hm with ⟨rfl,rfl⟩ | ⟨rfl,rfl⟩ | ⟨rfl,rfl⟩
     ·cases hv;exact⟨x1,k1,rfl,g1,q1,.inr<|.inl ⟨rfl,rfl⟩,by omega⟩
     ·cases hv;exact⟨x2,k2,rfl,g2,xT q2 q1.1,.inr<|.inr ⟨rfl,rfl⟩,by omega⟩
     ·simp at hv
    refine bg 11 nd ?_;obtain⟨a',Pz,F5,F6,mr,x0D⟩:=nN.at hk.1;have rl:=js m k.1;have qN:k.2<=(row m k.1).length:=by
     have:=hk.2;omega
    refine gZ<|C8 FT RN RP NV<|aU bF<|aU cN<|ae 0<|aU bF<|ae 11<|aD ⟨y,_,_,.int (k.1:Int),rfl,rfl,aI.of hy,rfl,R,_,_,.ref a'.1,rfl,rfl,aq.of nN.lst,F5,aD ⟨a'.1,_,_,.ref a'.2,rfl,rfl,aI.of F6,rfl,Or.inl ⟨rfl,_,aq.of mr⟩,?_⟩⟩;refine aU bF (ae 11<|aD ⟨y,_,_,.int (k.2:Int),rfl,rfl,aI.of hy,rfl,ae 2 ⟨a'.2,_,_,_,rfl,rfl,mr,by omega,by rw [Bo,Aa];exact qN,by rw [Aa];exact cz (by omega),?_⟩⟩);rw [Bo,Og];have am:a'∈as:=Ap Pz;refine bo ⟨ins m k z,_,nN.ins Pz hk.1,λx o hx j6=>?_,by rw [ay<|rn a' am];exact yi,by rw [ay<|lfn a' am];exact F4,by rw [ay<|ua g1 mr];exact g1,by rw [ay<|ua g2 mr];exact g2,iJ,rfl⟩;have x2:x≠a'.2:=λe=>j6 (Ah _<|by rw [e];exact An.mpr ⟨a',am,rfl⟩);rw [ay x2];exact uG x o hx j6
   ·rintro σ H7 ⟨m,u,nN,uG,yi,F4,g1,g2,hm,rfl⟩;have em:m=ins (ins n k1 z) k2 z:=by
     rcases hm with ⟨h,_⟩ | ⟨h,_⟩ | ⟨_,h⟩
     ·exact absurd h<|by show ¬(2=0);decide
     ·exact absurd h<|by show ¬(2=1);decide
     ·exact h
    refine bO<|a9 iQ<|ae 1<|ce dF T.len DP<|ai<|ae 9<|az ⟨lf,_,rfl,.inl<|aq.of F4,?_⟩;rw [Aa,uB];refine⟨_,_,rfl,rfl,⟨by omega,by omega⟩,?_⟩;have fi:=EE (z:=z) hF q1.1 hF.either;have F2:Full (ins n k1 z):= .inr ⟨fi.2,fi.1⟩;have PD:=EE (z:=z) F2 (xT (z:=z) q2 q1.1).1 F2.either;subst em;exact q _ as _ H7 nN uG (λx hx=> .inl hx) ((kP _ k2 z (xT (z:=z) q2 q1.1).1).trans<|(kP n k1 z q1.1).cons z) (.inl<|by rw [ED,ED]) (.inr ⟨PD.2,PD.1⟩) λhP=>q5m hT hF hz q1 q2 ((kP _ k2 z (xT (z:=z) q2 q1.1).1).trans<|(kP n k1 z q1.1).cons z) F3 uD hP
def F7:Sp:=λvs H Q _=>∃(b m sm:Int),vs=[.int b,.int m,.int sm]/\0<=m/\m<=35 /\
 ∀ L as n H',au H H'->H L=none->ao H' L as n->av n->(n.map (·.1)).Nodup->Full n->HF n->(ag n).length<=2 * m.toNat->n.length<=m.toNat+1->(∀ a∈as,H a.2=none)->Q (.ref L) H'
abbrev NB:List Str:=["_law_big_here","_law_most","_law_stem","_law_many","_law_ties","_law_points","_law_rows","_law_k","_law_told","_law_row","_law_size"]
theorem nO:ak NB ["_law_big_here","_law_most","_law_stem"] (aW pF):=⟨rfl,rfl,rfl,by decide +kernel,rfl,by decide +kernel,by decide +kernel⟩
theorem q8x{H:Hp}{d:Addr}{xs:List V}(h:H d=some (.lst xs)):oH K "list" (.ref d) H:=Or.inl ⟨rfl,xs,aq.of h⟩
theorem ja{b:Int}{m i:Nat}(h:i < m):dY ((namesOf b m).map V.str) (i:Int)=some (.str<|aQ b i):=xt<|YT h
theorem q7r{f:Addr}{fd:FuncData}(F:bx K "_law_net_by" "_law_net_by" pF f fd)(T:Txt mg)
  (GN:aS P w K mg base 4 "_law_names" ["_law_stem","_law_many"] D8)
  (GP:aS P w K mg base 4 "_law_put" ["_law_rows","_law_big_here","_law_tie","_law_point"] FU) :
  aF P w K mg base bJ 5 f fd ["_law_big_here","_law_most","_law_stem"] F7:=by
 refine F.gb nO (λvs H Q E h=>?_) λb0 H vs Q E hr h=>?_
 ·obtain⟨b,m,sm,rfl,_⟩:=h;rfl
 obtain⟨b,m,sm,rfl,m0,m35,q⟩:=h;have nd:=nO.nd;have hu:=hr.f7;have k0:0<=b % (m+1):=Bx _ (by omega);have k1:b % (m+1) < m+1:=Ce _ (by omega);obtain⟨mn,hmn⟩:∃ k:Nat,b % (m+1)=k:=⟨(b % (m+1)).toNat,by omega⟩;have hmm:mn<=m.toNat:=by omega
 show Run _ _ _ [some<|.int b,some<|.int m,some<|.int sm,none,none,none,none,none,none,none,none] H;refine a7 3 nd<|a9 cY<|ae 0<|a9 gG<|ae 1<|aD ⟨_,_,rfl,rfl,?_⟩;refine⟨_,_,rfl,rfl,(by show 0 < m+1;omega),?_⟩;refine a7 0 nd<|a9 iQ<|ae 0<|a9 gG<|ae 1<|aD ⟨_,_,rfl,rfl,?_⟩;refine⟨_,_,rfl,rfl,(by show sY b (m+1);exact⟨by omega,by omega⟩),?_⟩;show Run _ _ _ [some<|.int<|b / (m+1),some<|.int m,some<|.int sm,some<|.int<|b % (m+1),none,none,none,none,none,none,none] H;rw [hmn];generalize b / (m+1)=b1;refine a7 4 nd (bz GN hr<|ai<|ae 2<|ai<|ae 3<|az ⟨sm,(mn:Int),rfl,by omega,by omega,λlt H1 s1 n1 e1=>?_⟩);rw [Bo] at e1;refine a7 5 nd (bz GN hr<|ai<|aU cN<|d3<|ai<|a9 gG<|a9 iQ<|ae 2<|aD ⟨_,_,rfl,rfl,⟨by decide,by decide⟩,aD ⟨_,_,rfl,rfl,ai<|ae 2<|az ⟨Z2,λp hp=>?_⟩⟩⟩);refine mY NX T.pG MK (ai<|tR jC<|a9 cY<|ae 2<|aD ⟨_,_,rfl,rfl,(by show(0:Int) < 4;decide),aD ⟨rfl,az ⟨_,rfl,?_⟩⟩⟩);have s2:=aT hp<|.lst [.int<|sm / 3+1,.int sm];obtain⟨ju,ex⟩:∃ ju:Int,dY [V.int<|sm / 3+1,.int sm] (if decide (V.int (sm % 4)=V.int 1)=true then 1 else 0)=some (.int ju):=by
  cases decide (V.int (sm % 4)=V.int 1) with
  | true=>exact⟨sm,rfl⟩
  | false=>exact⟨sm / 3+1,rfl⟩
 refine⟨p,_,_,.int ju,rfl,rfl,aq.of aB,ex,?_⟩;refine ai (a9 gG<|ae 3<|aD ⟨_,_,rfl,rfl,az ⟨ju,(mn:Int)+1,rfl,by omega,by omega,λlp H2 s3 n3 e3=>?_⟩⟩);have em:((mn:Int)+1).toNat=mn+1:=by omega
 rw [em] at e3;have F8:au H H2:=s1.trans<|s2.trans s3;have e1:H2 lt=some (Ls<|namesOf sm mn):=s3 _ _<|s2 _ _ e1;show Run _ _ _ [some<|.int b1,some<|.int m,some<|.int sm,some<|.int (mn:Int),some<|.ref lt,some<|.ref lp,none,none,none,none,none] H2;refine a7 6 nd<|d3<|ai<|dB<|ai<|aU cN<|ae 5<|aD ⟨lp,_,_,.str<|aQ ju 0,rfl,rfl,aq.of e3,ja<|Gc _,ai<|d3<|az ⟨Z0,λl1 gk=>?_⟩⟩;refine az ⟨Z2,λt1 ht1=>az ⟨Z1,λR PF=>?_⟩⟩;have s4:=aT gk<|Ls [];have s5:=aT ht1<|.tup [.str<|aQ ju 0,.ref l1];have s6:=aT PF<|.lst [.ref t1];have hR0:ao (upd (upd (upd H2 l1<|.lst []) t1<|.tup [.str<|aQ ju 0,.ref l1]) R<|.lst [.ref t1]) R [(t1,l1)] [(aQ ju 0,[])]:=by
  refine⟨rfl,aB,λi a r h1 h2=>?_,by simp⟩;cases i with
  | zero=>
   cases h1;cases h2;exact⟨s6 _ _ aB,s6 _ _<|s5 _ _ aB⟩
  | succ i=>simp at h1
 have fR:H2 R=none:=s4.free<|s5.free PF;show Run _ _ _ [some<|.int b1,some<|.int m,some<|.int sm,some<|.int (mn:Int),some<|.ref lt,some<|.ref lp,some<|.ref R,none,none,none,none] (upd (upd (upd H2 l1<|.lst []) t1<|.tup [.str<|aQ ju 0,.ref l1]) R<|.lst [.ref t1]);refine lG T.range (ae 3 ⟨(mn:Int),rfl,by omega,by omega,?_⟩);rw [Bo];refine lH (λk σ H3=>∃(as:List<|Addr×Addr) (n:Net) (b:Int) (u:Option V),ao H3 R as n/\au H2 H3/\(∀ a∈as,H2 a.2=none)/\Full n/\HF n/\(ag n).Perm (dbl<|namesOf sm k)/\n.map (·.1)=namesOf ju n.length/\n.length<=k+1 /\
  σ=[some<|.int b,some<|.int m,some<|.int sm,some<|.int (mn:Int),some<|.ref lt,some<|.ref lp,some<|.ref R,u,none,none,none]) ⟨_,_,b1,_,hR0,s4.trans<|s5.trans s6,λa ha=>by rw [Ad] at ha;rw [ha];exact gk,.inl ⟨_,rfl⟩,q75,List.Perm.refl _,rfl,Al _,rfl⟩ ?_ ?_
 ·rintro k σ H3 hk ⟨as,n,b,u,hR,sH,jq,hF,yj,hp,yk,hlen,rfl⟩;rw [Dw];refine bg 7 nd ?_;have bY:=hR.len;have tl:=hp.length_eq;rw [EG,DE] at tl;have nz:aQ sm k∉ag n:=λh=>by
   have h1:=iD.mp<|hp.mem_iff.mp h;have h2:=xB (b:=sm) (m:=k+1) (by omega);rw [xC,Co] at h2;exact h2.2.2 _ h1 _ (Ad.mpr rfl) rfl
  have n0:0 < n.length:=Dk.mpr hF.some;refine a7 0 nd<|bz GP hr<|ai<|ae 6<|ai<|ae 0<|ai<|aU cN<|ae 4<|ae 7 ⟨lt,_,_,.str<|aQ sm k,rfl,rfl,aq.of<|sH _ _ e1,ja hk,?_⟩;refine ai<|aU cN<|ae 5<|ce dF T.len DP<|ai<|ae 6<|az ⟨R,_,rfl,.inl<|aq.of hR.lst,?_⟩;rw [Aa,bY];refine⟨lp,_,_,.str<|aQ ju n.length,rfl,rfl,aq.of<|sH _ _ e3,ja (by omega),?_⟩;refine az ⟨R,as,n,b,aQ sm k,aQ ju n.length,rfl,hR,Oh (xB<|by omega) hp,hF,nz,by omega,by omega,λi pV n' H' hR' kp F9 rX uH hF' F'=>?_⟩;have sH':au H2 H':=λx o hx=>by
   refine kp x o (sH _ _ hx) λhm=>?_
   rcases Ai.mp hm with h | h
   ·rw [h,fR] at hx;cases hx
   ·obtain⟨y,hy,e⟩:=An.mp h;rw [<- e,jq y hy] at hx;cases hx
  refine bo ⟨pV,n',i,_,hR',sH',λy hy=>?_,hF',F' yj,?_,?_,?_,rfl⟩
  ·rcases F9 y hy with h | h
   ·exact jq y h
   ·exact sH.free h
  ·refine rX.trans ?_;rw [xC,Zc];refine List.Perm.trans ?_ Ci;exact((hp.cons _).cons _)
  ·rcases uH with h | h
   ·have hl:=BZ List.length h;rw [Aa,Aa] at hl;rw [h,hl];exact yk
   ·have hl:=BZ List.length h;rw [Aa,Af,Aa] at hl;have m8:n'.length=n.length+1:=hl;rw [h,m8,xC,yk]
  ·rcases uH with h | h
   ·have hl:=BZ List.length h;rw [Aa,Aa] at hl;omega
   ·have hl:=BZ List.length h;rw [Aa,Af,Aa] at hl;have m8:n'.length=n.length+1:=hl;omega
 rintro σ H3 ⟨as0,n0,b,u,hR,sH,jq,hF,Gx,hp,yk,hlen,rfl⟩;have tl:=hp.length_eq;rw [EG,DE] at tl;have PH:av n0:=Oh (xB<|by omega) hp;have hN0:(n0.map (·.1)).Nodup:=by rw [yk];exact xB<|by omega
 refine a7 8 nd<|d3<|az ⟨Z0,λL hL=>?_⟩;have s7:=aT hL<|.lst [];have PQ:R≠L:=bu hR.lst hL;have fL:H2 L=none:=sH.free hL;have yl:ao (upd H3 L<|.lst []) L [] []:=⟨rfl,aB,λi a r h1=>by simp at h1,by simp⟩;refine C9 (λk σ H4=>∃(as nP:List<|Addr×Addr) (n n2:Net) (b:Int) (u9 PR:Option V),k=n.length/\ao H4 R as n/\ao H4 L nP n2/\au H2 H4/\(∀ a∈as,a.2≠L)/\(∀ a∈nP,a.2≠R)/\(∀ a∈nP,H2 a.2=none)/\n.length+n2.length=n0.length /\
   (ag n++ag n2).Perm (ag n0)/\(n.map (·.1)++n2.map (·.1)).Perm (n0.map (·.1))/\(NE n0->NE n/\NE n2)/\HF (n++n2) /\
   σ=[some<|.int b,some<|.int m,some<|.int sm,some<|.int (mn:Int),some<|.ref lt,some<|.ref lp,some<|.ref R,u,some<|.ref L,u9,PR])
  (m0:=n0.length) ⟨as0,[],n0,[],b,_,_,rfl,hR.same s7,yl,sH.trans s7,λa ha=>(hR.fresh hL ha).symm,λa ha=>(nomatch ha),λa ha=>(nomatch ha),rfl,by simp [ag],by simp,λh=>⟨h,λr hr=>(nomatch hr)⟩,by rw [Be];exact Gx,rfl⟩ ?_
 rintro k σ H4 ⟨as,nP,n,n2,b,u9,PR,rfl,hR,rY,sH,aL,aR,PU,uI,pt,pn,bB,yj,rfl⟩;have bY:=hR.len;have Gy:=rY.len;have x0E:(ag n).length<=70:=by
  have:=pt.length_eq;rw [Af] at this;omega
 refine cE (xm hu)<|ae 6<|d3<|az ⟨Z0,λp iV=>?_⟩;have s8:=aT iV<|.lst []
 by_cases h0:n=[]
 ·subst h0;have ea:as=[]:=Bi.mp (by simpa using bY);subst ea;refine⟨1,_,by decide,NA (k:=0) (xs:=[]) (ys:=[]) (λ_=>true) (aq.of<|s8 _ _ hR.lst) (aq.of aB) rfl (λj x y hx _=>by simp at hx),_,rfl,bG<|bO<|ae 8 ?_⟩;have gu:(ag n2).Perm (ag n0):=pt;have pn':(n2.map (·.1)).Perm (n0.map (·.1)):=pn;have l2:n2.length=n0.length:=by simpa using uI
  refine q L nP n2 _ (F8.trans<|sH.trans s8) (F8.free fL) (rY.same s8) (λz hz=>?_) (pn'.nodup_iff.mpr hN0) ?_ yj (by rw [gu.length_eq];omega) (by omega) λa ha=>F8.free<|PU a ha
  ·rw [gu.count_eq];exact PH z<|gu.mem_iff.mp hz
  ·rcases hF.ne with ⟨nm,h⟩ | h
   ·subst h;have t0:ag n2=[]:=List.Perm.eq_nil gu
    match n2,l2,t0 with
    | [(nm2,zs)],_,t0=>
     have:zs=[]:=by simpa [ag] using t0
     subst this;exact .inl ⟨_,rfl⟩
   ·refine Zd (bB h).2 λe=>?_;rw [e] at l2;exact hF.some<|Bi.mp l2.symm
 ·have np:0 < n.length:=Dk.mpr h0;refine⟨1,_,by decide,ND (k:=1) (aq.of<|s8 _ _ hR.lst) (aq.of (xs:=[]) aB) (by rw [Aa,bY];exact Cs np),_,rfl,cA ?_⟩;have hR:=hR.same s8;have rY:=rY.same s8;have sH:=sH.trans s8;generalize upd H4 p (.lst [])=H5 at hR rY sH ⊢;have r0:0<=b % (n.length:Int):=Bx _ (by omega);have r1:b % (n.length:Int) < n.length:=Ce _ (by omega);obtain⟨j,hj⟩:∃ k:Nat,b % (n.length:Int)=k:=⟨(b % (n.length:Int)).toNat,by omega⟩;have p5:j < n.length:=by omega
  obtain⟨a,ea,d7,et,el,er⟩:=hR.at p5;refine a7 9 nd<|C7 FT PySem.F.slot_list_pop PySem.F.type_list_pop V6<|ae 6 ⟨q8x hR.lst,a9 cY<|ae 0<|ce dF T.len DP<|ai<|ae 6<|az ⟨R,_,rfl,.inl<|aq.of hR.lst,?_⟩⟩;rw [Aa,bY];refine⟨_,_,rfl,rfl,by omega,R,_,_,j,.ref a.1,rfl,rfl,hR.lst,by rw [hj];omega,by rw [hj];omega,?_,?_,?_⟩
  ·rw [hj,Aa,bY];unfold seqIndex?;have c1:¬((j:Int) < 0):=by omega
   simp only [c1,CV];have c2:(decide (0<=(j:Int)) && decide ((j:Int) < (n.length:Int)))=true:=by
    rw [Bv,DN,DN];omega
   rw [BP c2,Bo]
  ·rw [Aj,ea];rfl
  have R6:=hR.erase p5;have am:a∈as:=Ap ea;have Gz:∀ x∈as,x.2≠R:=λx hx e=>by
   obtain⟨zs,e2⟩:=hR.lists hx;have h3:=hR.lst;rw [<- e,e2] at h3;have h4:=HO.lst.inj<|Option.some.inj h3;cases as with
   | nil=>cases hx
   | cons b' bs=>
    cases zs with
    | nil=>simp at h4
    | cons y r=>simp at h4
  have L6:=rY.upd (o:= .lst<|(as.map λa=>V.ref a.1).eraseIdx j) hR.lst PQ.symm aR;have uJ:(upd H5 R<|.lst<|(as.map λa=>V.ref a.1).eraseIdx j) a.1=some (.tup [.str n[j].1,.ref a.2]):=by rw [ay<|bU et hR.lst λe=>nomatch e];exact et
  have ym:(upd H5 R<|.lst<|(as.map λa=>V.ref a.1).eraseIdx j) a.2=some (Ls<|row n j):=by rw [ay<|Gz a am];exact el
  have uE:au H2 (upd H5 R<|.lst<|(as.map λa=>V.ref a.1).eraseIdx j):=gm sH fR;generalize upd H5 R (.lst<|(as.map λa=>V.ref a.1).eraseIdx j)=H6 at R6 L6 uJ ym uE ⊢;have le6:=R6.len;have p7:(n.eraseIdx j).length=n.length - 1:=by rw [Cv,BP p5]
  refine a7 0 nd<|a9 iQ<|ae 0<|a9 gG<|ce dF T.len DP<|ai<|ae 6<|az ⟨R,_,rfl,.inl<|aq.of R6.lst,aD ⟨_,_,rfl,rfl,?_⟩⟩;rw [Aa,le6,p7];refine⟨_,_,rfl,rfl,⟨by omega,by omega⟩,?_⟩;have x0F:=js n j;refine a7 10 nd<|ce (LI rfl) T.max UL<|ai<|aD<|ai<|ce dF T.len DP<|ai<|aU bF<|ae 9<|aD ⟨a.1,_,_,.ref a.2,rfl,rfl,aI.of uJ,rfl,az ⟨a.2,_,rfl,.inl<|aq.of ym,?_⟩⟩;rw [Aa];refine az ⟨1,_,rfl,?_⟩;have emx:(if((row n j).length:Int) > 1 then((row n j).length:Int) else 1)=((max 1 (row n j).length:Nat):Int):=by
   split <;> omega
  rw [emx];show Run _ _ _ [some<|.int<|b / ((n.length - 1:Nat)+1:Int),some<|.int m,some<|.int sm,some<|.int (mn:Int),some<|.ref lt,some<|.ref lp,some<|.ref R,u,some<|.ref L,some<|.ref a.1,some<|.int ((max 1 (row n j).length:Nat):Int)] H6;generalize b / ((n.length - 1:Nat)+1:Int)=b2;have z0:0<=b2 % ((max 1 (row n j).length:Nat):Int):=Bx _ (by omega);obtain⟨i,hi⟩:∃ k:Nat,b2 % ((max 1 (row n j).length:Nat):Int)=k:=⟨(b2 % ((max 1 (row n j).length:Nat):Int)).toNat,by omega⟩;refine gZ<|lV<|ae 8 ⟨L,rfl,⟨_,L6.lst⟩,dB<|ai<|aU bF<|ae 9<|aD ⟨a.1,_,_,.str n[j].1,rfl,rfl,aI.of uJ,rfl,?_⟩⟩;refine ai (a9 V7<|MB L5<|aU bF<|ae 9<|aD ⟨a.1,_,_,.ref a.2,rfl,rfl,aI.of uJ,rfl,MD<|a9 cY<|ae 0<|ae 10 ⟨b2,((max 1 (row n j).length:Nat):Int),rfl,rfl,by omega,_,rfl,MC ⟨a.2,_,rfl,aq.of ym,λp1 GH=>?_⟩⟩⟩);rw [hi,Zg];have t1:=aT GH<|Ls<|(row n j).drop i;refine MB L5 (aU bF<|ae 9<|aD ⟨a.1,_,_,.ref a.2,rfl,rfl,aI.of<|t1 _ _ uJ,rfl,MC<|MD<|a9 cY<|ae 0<|ae 10 ⟨b2,((max 1 (row n j).length:Nat):Int),rfl,rfl,by omega,_,rfl,a.2,_,rfl,aq.of<|t1 _ _ ym,λp2 iV=>?_⟩⟩);rw [hi,Zh];have t2:=aT iV<|Ls<|(row n j).take i;refine⟨p1,p2,_,_,rfl,rfl,t2 _ _ aB,aB,?_,λp3 p8=>?_⟩
  ·rw [Aa,Aa,Cg,Bk];exact small<|by omega
  rw [<- Ak];have t3:=aT p8<|Ls<|(row n j).drop i++(row n j).take i;refine az ⟨Z2,λt4 ht4=>?_⟩;have s4:=aT ht4<|.tup [.str n[j].1,.ref p3];have p9:=t1.trans<|t2.trans<|t3.trans s4;have L7:=L6.same p9;have R7:=R6.same p9;have p3L:p3≠L:=λe=>by rw [e,(t1.trans t2) _ _ L6.lst] at p8;cases p8
  have p3R:p3≠R:=λe=>by rw [e,(t1.trans t2) _ _ R6.lst] at p8;cases p8
  have p3n:p3∉nP.map (·.2):=λhm=>by
   obtain⟨y,hy,e⟩:=An.mp hm;exact(L6.same<|t1.trans t2).fresh p8 hy e.symm
  have L8:=L7.more (t:=t4) (l:=p3) (pt:=n[j].1) (zs:=(row n j).drop i++(row n j).take i) aB (s4 _ _ aB) p3n p3L;refine⟨_,L7.lst,by rw [Aa,Gy];exact cz (by omega),?_⟩;have PV:∀ x∈as.eraseIdx j,x.2≠L:=λx hx=>aL x<|Ex hx;have R8:=R7.upd (o:= .lst<|nP.map (λa=>V.ref a.1)++[.ref t4]) L7.lst PQ PV;refine a7 0 nd (a9 iQ<|ae 0<|ae 10 ⟨b2,((max 1 (row n j).length:Nat):Int),rfl,rfl,⟨by omega,by omega⟩,?_⟩);have pe:=Oi n j p5;have ne:=Zf n j p5;have PY:(ag (n.eraseIdx j)++ag (n2++[(n[j].1,(row n j).drop i++(row n j).take i)])).Perm (ag n0):=by
   refine List.Perm.trans ?_ pt;unfold ag;rw [Du];show(ag (n.eraseIdx j)++(ag n2++(((row n j).drop i++(row n j).take i)++[]))).Perm _;rw [Be,er];have w1:(n[j].2.drop i++n[j].2.take i).Perm n[j].2:=EH _ _;refine((w1.append_left _).append_left _).trans ?_;have w2:(ag n++ag n2).Perm ((n[j].2++ag (n.eraseIdx j))++ag n2):=pe.append_right _;refine List.Perm.trans ?_ w2.symm;rw [Aq];refine List.Perm.trans ?_<|Ci (l₁:=ag (n.eraseIdx j)++ag n2);rw [Aq]
  refine bo ⟨n.length - 1,by omega,as.eraseIdx j,nP++[(t4,p3)],n.eraseIdx j,n2++[(n[j].1,(row n j).drop i++(row n j).take i)],_,_,_,p7.symm,R8,L8,gm (uE.trans p9) fL,PV,λx hx=>?_,λx hx=>?_,?_,PY,?_,λh=>⟨λr hr=>?_,λr hr=>?_⟩,q6t p5 (by have:=Ce b2 (show(0:Int) < ((max 1 (row n j).length:Nat):Int) by omega);rw [hi] at this;exact Int.ofNat_lt.mp this) PH pt PY yj,rfl⟩
  ·rcases Am.mp hx with hx | hx
   ·exact aR x hx
   ·rw [Ad] at hx;rw [hx];exact p3R
  ·rcases Am.mp hx with hx | hx
   ·exact PU x hx
   ·rw [Ad] at hx;rw [hx];exact uE.free<|t1.free<|t2.free p8
  ·rw [Af,p7];simp;omega
  ·refine List.Perm.trans ?_ pn;rw [Ak];show((n.eraseIdx j).map (·.1)++(n2.map (·.1)++[n[j].1])).Perm _;refine List.Perm.trans ?_ (ne.append_right _).symm;rw [<- Aq];exact Ci
  ·exact(bB h).1 r<|Ex hr
  ·rcases Am.mp hr with hr | hr
   ·exact(bB h).2 r hr
   ·rw [Ad] at hr;rw [hr];intro e;have w1:=(EH (row n j) i).length_eq;have e':(row n j).drop i++(row n j).take i=[]:=e;rw [e'] at w1;have:=(bB h).1 n[j]<|Bu p5;rw [er] at w1;exact this<|Bi.mp w1.symm
def GI:Sp:=λvs H Q _=>∃(R:Addr) (as:List<|Addr×Addr) (n:Net),vs=[.ref R]/\ao H R as n/\n.length<=1000/\∀ L pV H',au H H'->H L=none->(∀ a∈pV,H a.1=none/\H a.2=none)->ao H' L pV n->Q (.ref L) H'
theorem hV{H H':Hp}{l:Addr}(s:au H H')(h:H' l=none):H l=none:=by
 cases e:H l with
 | none=>rfl
 | some v=>rw [s _ _ e] at h;cases h
abbrev NC:List Str:=["_law_rows"]
abbrev PZ:List Str:=["_law_rows","_law_row"]
theorem j7:ak NC ["_law_rows"] (aW xO):=⟨rfl,rfl,rfl,by decide +kernel,rfl,by decide +kernel,by decide +kernel⟩
theorem GU:PZ.Nodup:=by decide +kernel
theorem q6i{f:Addr}{fd:FuncData}(F:bx K "_law_copy" "_law_copy" xO f fd)(T:Txt mg):aF P w K mg base bJ 1 f fd ["_law_rows"] GI:=by
 refine F.gb j7 (λvs H Q E h=>?_) λb0 H vs Q E hr h=>?_
 ·obtain⟨R,as,n,rfl,_⟩:=h;rfl
 obtain⟨R,as,n,rfl,hR,hn,q⟩:=h;have nd:=j7.nd;have bY:=hR.len;show Run _ _ _ [some<|.ref R] H;refine bO<|jH (aW xO) NC PZ 1 (fQ bH)<|ae 0 ⟨R,rfl,⟨_,aq.of hR.lst⟩,λD hD=>?_⟩;refine nn (xs:=as.map λa=>V.ref a.1) (λi σ' H'=>(∃ v,σ'=[some<|.ref R]++[v])/\∃ bs:List<|Addr×Addr,bs.length=i/\H' D=some (.lst<|bs.map λa=> .ref a.1) /\
  (∀(j:Nat) a r,bs[j]?=some a->n[j]?=some r->H' a.1=some (.tup [.str r.1,.ref a.2])/\H' a.2=some (Ls r.2))/\(bs.map (·.2)).Nodup/\(∀ a∈bs,a.2≠D/\H a.1=none/\H a.2=none/\∃ zs,H' a.2=some (Ls zs))/\au H H')
  ⟨⟨none,rfl⟩,[],rfl,aB,λj a r h=>by simp at h,Ch,λa h=>by simp at h,aT hD _⟩ ?_ ?_ ?_
 ·rintro i σ' H' _ ⟨_,bs,_,_,_,_,_,sm⟩;exact aq.of<|sm _ _ hR.lst
 ·rintro i x σ' H' hx ⟨⟨v,rfl⟩,bs,rq,lR,GV,qb,rZ,sm⟩;have hi:i < n.length:=by
   have:=(Ac.mp hx).1;rw [Aa] at this;omega
  obtain⟨a,ea,d7,et,el,er⟩:=(hR.same sm).at hi;rw [Aj,ea] at hx;cases hx;intro cl C' s₀ H₀ ex;refine bg 1 GU ?_;intro cl C' s₀ H₀ ex;refine gI ?_;rw [BP rfl];intro cl C' s₀ H₀ ex;refine dB<|ai<|aU bF<|ae 1<|aD ⟨a.1,_,_,.str n[i].1,rfl,rfl,aI.of et,rfl,?_⟩;refine ai<|mY VY T.jP KZ<|ai<|aU bF<|ae 1<|aD ⟨a.1,_,_,.ref a.2,rfl,rfl,aI.of et,rfl,?_⟩;refine az ⟨a.2,_,rfl,.inl<|aq.of el,λl hl=>az ⟨Z2,λt ht=>?_⟩⟩;have lP:=hV sm hl;have G0:t≠l:=λe=>by rw [e,aB] at ht;cases ht
  have fG:H' t=none:=by rw [ay G0] at ht;exact ht
  have P2:=hV sm fG;have se:l≠D:=λe=>by rw [e] at hl;rw [hl] at lR;cases lR
  have P4:t≠D:=λe=>by rw [e] at fG;rw [fG] at lR;cases lR
  refine⟨bs.map λa=> .ref a.1,?_,?_,⟨_,rfl⟩,bs++[(t,l)],by rw [Af,rq];rfl,?_,?_,?_,?_,?_⟩
  ·rw [ay<|CK P4,ay<|CK se];exact lR
  ·rw [Aa];exact cz<|by omega
  ·rw [aB,Ak];rfl
  ·intro j b r hb pT
   by_cases hj:j < bs.length
   ·rw [Ar hj] at hb;obtain⟨q1,q2⟩:=GV j b r hb pT;have hbD:=(rZ b<|Ap hb).1;have n1:b.1≠D:=bU q1 lR λz=>nomatch z;refine⟨?_,?_⟩
    ·rw [ay n1,ay<|bu q1 fG,ay<|bu q1 hl];exact q1
    ·rw [ay hbD,ay<|bu q2 fG,ay<|bu q2 hl];exact q2
   ·rw [Ay<|by omega] at hb;have fN:j - bs.length=0:=by
     have:=(Ac.mp hb).1;simp at this;omega
    have qd:j=i:=by omega
    rw [fN] at hb;cases hb;rw [qd,Ab hi] at pT;cases pT;refine⟨?_,?_⟩
    ·rw [ay P4,aB]
    ·rw [ay se,ay<|CK G0,aB,er]
  ·rw [Ak];refine oO qb λhm=>?_;obtain⟨b,hb,e⟩:=An.mp hm;obtain⟨_,_,_,zs,q⟩:=rZ b hb;have e':b.2=l:=e;rw [e',hl] at q;cases q
  ·intro b hb
   rcases Am.mp hb with hb | hb
   ·obtain⟨q1,q2,q3,zs,q4⟩:=rZ b hb;refine⟨q1,q2,q3,zs,?_⟩;rw [ay q1,ay<|bu q4 fG,ay<|bu q4 hl];exact q4
   ·rw [Ad.mp hb];refine⟨se,P2,lP,row n i,?_⟩;rw [ay se,ay<|CK G0,aB]
  ·intro c o hc;rw [ay<|bu hc hD,ay<|bu hc P2,ay<|bu hc lP];exact sm _ _ hc
 ·rintro σ' H' ⟨_,bs,rq,lR,GV,qb,rZ,sm⟩;rw [Aa] at rq;exact q D bs H' sm hD (λa ha=>⟨(rZ a ha).2.1,(rZ a ha).2.2.1⟩) ⟨by omega,lR,GV,qb⟩
end
abbrev Tn(p:Str)(j:Int):HO:= .tup [.str p,.int j]
def uK:Sp:=λvs H Q _=>∃(t l:Addr) (p:Str) (zs:List Str),vs=[.ref t]/\H t=some (.tup [.str p,.ref l])/\H l=some (Ls zs)/\zs.length<=1000 /\
 ∀(L:Addr) (ts:List Addr) (H':Hp),au H H'->H L=none->H' L=some (.lst<|ts.map V.ref)->ts.length=zs.length->(∀(j:Nat) t,ts[j]?=some t->H' t=some (Tn p j))->Q (.ref L) H'
section
variable{X:Cx}{elt tg:Expr}{ifs:List Expr}{scope:Scope}{σ:St}{H:Hp}{N':List Str}{A:Addr}{after:Hp->Prop}
theorem k2b{lo:Int}{n:Nat}(Pv:Nat->St->Hp->Prop)(h0:Pv 0 σ H)
  (hs : ∀ i σ' H', i < n → Pv i σ' H' → BE X N' scope tg (.int<|lo + i) σ' H' λσ2 H3 => BF X N' scope ifs σ2 H3 λb H4 =>
   if b=true then BD X N' scope elt σ2 H4 λv H5=>∃ ys,H5 A=some (.lst ys)/\ys.length < sizeLine/\Pv (i+1) σ2 (upd H5 A<|.lst<|ys++[v]) else Pv (i+1) σ2 H4)
  (hd:∀ σ' H',Pv n σ' H'->after H'):ra X N' scope tg ifs elt (qS lo n) A after σ H:=by
 refine⟨λi m σ' H'=>m=n - i/\i<=n/\Pv i σ' H',⟨_,rfl,Bt _,h0⟩,?_⟩;rintro i m σ' H' ⟨rfl,hi,p⟩
 by_cases aY:i < n
 ·refine .inr ⟨aY,Pv<|i+1,λσ' H' p'=>⟨n - (i+1),by omega,rfl,aY,p'⟩,λx H2 y=>?_⟩;obtain⟨e,y⟩:=y;subst e y;exact hs i σ' _ aY p
 ·have e:i=n:=by omega
  subst e;exact .inl ⟨Al _,hd σ' H' p⟩
end
section
variable{P:Program}{w:World}{K:PySem.W.Frag}{mg:Str->Option Value}{base:Heap}
abbrev P5:List Str:=["row","point","ties"]
abbrev P6:List Str:=["row","point","ties","place"]
theorem j8:ak P5 ["row"] (aW xD):=⟨rfl,rfl,rfl,by decide +kernel,rfl,by decide +kernel,by decide +kernel⟩
theorem x0g:P6.Nodup:=by decide +kernel
theorem q32{f:Addr}{fd:FuncData}(F:bx K "ends_round" "ends_round" xD f fd)(T:Txt mg):aF P w K mg base bJ 1 f fd ["row"] uK:=by
 refine F.gb j8 (λvs H Q E h=>?_) λb0 H vs Q E hr h=>?_
 ·obtain⟨t,l,p,zs,rfl,_⟩:=h;rfl
 obtain⟨t,l,p,zs,rfl,ht,hl,hz,q⟩:=h;have nd:=j8.nd;show Run _ _ _ [some<|.ref t,none,none] H;refine w6<|ae 0<|iE rfl (aI.of ht) (bg 1 nd<|bg 2 nd ?_);show Run _ _ _ [some<|.ref t,some<|.str p,some<|.ref l] H;refine bO<|jH (aW xD) P5 P6 1 (Ln rfl T.range (ta:=tO _ _) iw (oP _ [] _ rfl)) ?_;show Ea _ _ _ _ _;refine ai (ce dF T.len DP<|ai<|ae 2<|az ⟨l,_,rfl,.inl<|aq.of hl,az ⟨_,rfl,by omega,by rw [Aa];omega,λD hD=>?_⟩⟩);rw [Aa,Bo];refine k2b (λi σ' H'=>(∃ v,σ'=[some<|.ref t,some<|.str p,some<|.ref l]++[v])/\∃ ts:List Addr,ts.length=i/\H' D=some (.lst<|ts.map V.ref)/\(∀(j:Nat) t,ts[j]?=some t->H' t=some (Tn p j))/\au H H')
  ⟨⟨none,rfl⟩,[],rfl,aB,λj t h=>by simp at h,aT hD _⟩ ?_ ?_
 ·rintro i σ' H' hi ⟨⟨v,rfl⟩,ts,gk,eD,G',sm⟩;rw [Dw];intro cl C' s₀ H₀ ex;refine bg 3 x0g ?_;intro cl C' s₀ H₀ ex;refine gI ?_;rw [BP rfl];intro cl C' s₀ H₀ ex;refine dB<|ai<|ae 1<|ai<|ae 3<|az ⟨Z2,λu hu=>?_⟩;have nu:u≠D:=λe=>by rw [e,eD] at hu;cases hu
  have hu0:=hV sm hu;refine⟨ts.map V.ref,by rw [ay<|CK nu];exact eD,by rw [Aa];exact cz (by omega),⟨_,rfl⟩,ts++[u],by rw [Af,gk];rfl,by rw [aB,Ak];rfl,?_,?_⟩
  ·intro j t' fG
   by_cases hj:j < ts.length
   ·rw [Ar hj] at fG;have e:=G' j t' fG;have n1:t'≠D:=bU e eD λz=>nomatch z;rw [ay n1,ay<|bu e hu];exact e
   ·rw [Ay<|by omega] at fG;have fN:j - ts.length=0:=by
     have:=(Ac.mp fG).1;simp at this;omega
    rw [fN] at fG;cases fG;have:j=i:=by omega
    rw [this,ay nu,aB]
  ·intro c o hc;rw [ay<|bu hc hD,ay<|bu hc hu0];exact sm _ _ hc
 ·rintro σ' H' ⟨_,ts,gk,eD,G',sm⟩;exact q D ts H' sm hD eD gk G'
def jc(g:Int->Int):Sp:=λvs H Q _=>∃(e:Addr) (p:Str) (j m:Int),vs=[.ref e,.int m]/\H e=some (Tn p j)/\0 < m/\∀ t H',au H H'->H' t=some (Tn p<|g j % m)->Q (.ref t) H'
abbrev P7:List Str:=["end","many","point","place"]
theorem j9:ak P7 ["end","many"] (aW DF):=⟨rfl,rfl,rfl,by decide +kernel,rfl,by decide +kernel,by decide +kernel⟩
theorem gA:ak P7 ["end","many"] (aW DH):=⟨rfl,rfl,rfl,by decide +kernel,rfl,by decide +kernel,by decide +kernel⟩
theorem q30{f:Addr}{fd:FuncData}(F:bx K "turned_left" "turned_left" DF f fd)(T:Txt mg):aF P w K mg base bJ 1 f fd ["end","many"] (jc λj=>j+1):=by
 refine F.gb j9 (λvs H Q E h=>?_) λb0 H vs Q E hr h=>?_
 ·obtain⟨e,p,j,m,rfl,_⟩:=h;rfl
 obtain⟨e,p,j,m,rfl,he,hm,q⟩:=h;have nd:=j9.nd;show Run _ _ _ [some<|.ref e,some<|.int m,none,none] H;refine w6<|ae 0<|iE rfl (aI.of he) (bg 2 nd<|bg 3 nd ?_);refine bO (dB<|ai<|ae 2<|ai<|a9 cY<|a9 gG<|ae 3<|aD ⟨_,_,rfl,rfl,ae 1 ⟨_,_,rfl,rfl,(by show 0 < m;exact hm),az ⟨Z2,λt ht=>?_⟩⟩⟩);exact q t _ (aT ht _) aB
theorem k7v{f:Addr}{fd:FuncData}(F:bx K "turned_right" "turned_right" DH f fd)(T:Txt mg):aF P w K mg base bJ 1 f fd ["end","many"] (jc λj=>j - 1):=by
 refine F.gb gA (λvs H Q E h=>?_) λb0 H vs Q E hr h=>?_
 ·obtain⟨e,p,j,m,rfl,_⟩:=h;rfl
 obtain⟨e,p,j,m,rfl,he,hm,q⟩:=h;have nd:=gA.nd;show Run _ _ _ [some<|.ref e,some<|.int m,none,none] H;refine w6<|ae 0<|iE rfl (aI.of he) (bg 2 nd<|bg 3 nd ?_);refine bO (dB<|ai<|ae 2<|ai<|a9 cY<|a9 Vf<|ae 3<|aD ⟨_,_,rfl,rfl,ae 1 ⟨_,_,rfl,rfl,(by show 0 < m;exact hm),az ⟨Z2,λt ht=>?_⟩⟩⟩);exact q t _ (aT ht _) aB
theorem P8{kvs:List (Key×V)}:∀{acc:List (Key×V)},((acc++kvs).map (·.1)).Nodup->kvs.foldl (λa p=>putK a p.1 p.2) acc=acc++kvs:=by
 induction kvs with
 | nil=>intro acc _;simp
 | cons p r ih=>
  intro acc h;have hn:aJ acc p.1=none:=by
   cases e:aJ acc p.1 with
   | none=>rfl
   | some v=>
    have hm:=A0 e;rw [Ak,Bj] at h;exact absurd rfl ((Co.mp h).2.2 _ hm _ Ae)
  rw [Dg,Mm _ hn,ih (by rw [Aq];exact h),Aq];rfl
theorem Hc:∀{kvs:List (Key×V)} {i:Nat} {p:Key×V},(kvs.map (·.1)).Nodup->kvs[i]?=some p->aJ kvs p.1=some p.2
 | [],_,_,_,h=>by simp at h
 | q :: r,0,p,_,h=>by
  cases h;exact iT rfl
 | q :: r,i+1,p,hn,h=>by
  rw [Bj,Bf] at hn;have hm:r[i]?=some p:=by simpa using h
  rw [iU λe=>hn.1<|by rw [e];exact An.mpr ⟨p,Ap hm,rfl⟩];exact Hc hn.2 hm
def dg(n:Net)(as:List<|Addr×Addr):List (Key×V):=List.zipWith (λr a=>(Sum.inr r.1,V.ref a.2)) n as
theorem He:∀(n:Net) (as:List<|Addr×Addr),as.length=n.length->(dg n as).map (·.1)=(n.map (·.1)).map Sum.inr
 | [],[],_=>rfl
 | [],_ :: _,h=>by simp at h
 | _ :: _,[],h=>by simp at h
 | r :: n,a :: as,h=>by
  have:=He n as (by simpa using h);show Sum.inr r.1 :: (dg n as).map (·.1)=_;rw [this];rfl
theorem yn{n:Net}{as:List (Addr×Addr)}{i:Nat}{r:Str×List Str}{a:Addr×Addr}(h1:n[i]?=some r)(h2:as[i]?=some a):(dg n as)[i]?=some (Sum.inr r.1,.ref a.2):=by
 unfold dg;rw [List.getElem?_zipWith,h1,h2]
theorem P9{l:List Str}(h:l.Nodup):(l.map (Sum.inr:Str->Key)).Nodup:=by
 rw [Cn,Er];exact(Cn.mp h).imp λh q=>h<|Sum.inr.inj q
end
def nameAt(n:Net)(r:Nat):Str:=((n[r]?).map (·.1)).getD ⟨#[]⟩
def key(n:Net)(e:Nt.End):List Key:=[Sum.inr<|nameAt n e.1,Sum.inl (e.2:Int)]
abbrev TN(n:Net)(e:Nt.End):HO:=Tn (nameAt n e.1) (e.2:Int)
theorem nQ{n:Net}{r:Nat}(h:r < n.length):nameAt n r=n[r].1:=by unfold nameAt;rw [Ab h];rfl
theorem qe{n:Net}(hN:(n.map (·.1)).Nodup){a b:Nt.End}(ha:a.1 < n.length)(hb:b.1 < n.length)(h:key n a=key n b):a=b:=by
 unfold key at h
 injection h with h1 h2
 injection h2 with h2 _
 have e1:=Sum.inr.inj h1;have e2:=Sum.inl.inj h2;rw [nQ ha,nQ hb] at e1;have e3:a.1=b.1:=by
  have la:a.1 < (n.map (·.1)).length:=by rw [Aa];exact ha
  have lb:b.1 < (n.map (·.1)).length:=by rw [Aa];exact hb
  refine(Gg (i:=a.1) (j:=b.1) (h₀:=la) (h₁:=lb) hN).mp ?_;rw [Dq,Dq];exact e1
 exact HN e3<|by omega
theorem uL{n:Net}{r p:Nat}{z:Str}(hr:r < n.length)(hz:(row n r)[p]?=some z):∃ rest,bh n=(bh (n.take r)++bq r ((row n r).take p) 0)++(z,(r,p)) :: rest:=by
 have e1:bh n=bh (n.take<|r+1)++fA (0+(n.take<|r+1).length) (n.drop<|r+1):=by
  have:=DB (n.take<|r+1) (n.drop<|r+1) 0;rw [Db] at this;exact this
 have e2:bq r (row n r) 0=bq r ((row n r).take<|p+1) 0++bq r ((row n r).drop<|p+1) (0+((row n r).take<|p+1).length):=by
  unfold bq;rw [<- Ak,<- List.zipIdx_append,Db]
 rw [e1,rD hr,e2,pA hz];refine⟨bq r ((row n r).drop<|p+1) (0+((row n r).take<|p+1).length)++fA (0+(n.take<|r+1).length) (n.drop<|r+1),?_⟩;simp only [Aq,Fq,Fe]
theorem P'{κ:Type} [DecidableEq κ] (kvs:List<|κ×V) (k:κ) (v:V):(putK kvs k v).map (·.1)=if k∈kvs.map (·.1) then kvs.map (·.1) else kvs.map (·.1)++[k]:=by
 have e:(kvs.any λkv=>decide (kv.1=k))=decide (k∈kvs.map (·.1)):=by
  rw [Ck,List.any_eq_true,CJ,An];exact⟨λ⟨p,h1,h2⟩=>⟨p,h1,BX h2⟩,λ⟨p,h1,h2⟩=>⟨p,h1,BW h2⟩⟩
 unfold putK;rw [e]
 by_cases h:k∈kvs.map (·.1)
 ·rw [BP<|BW h,BP h,Cb];refine Ao λp _=>?_;show(if p.1=k then(p.1,v) else p).1=p.1
  split <;> rfl
 ·rw [BK (by simpa using h),BK h,Ak];rfl
theorem gB{κ:Type} [DecidableEq κ] {kvs:List (κ×V)} {k j:κ} {v:V}:j∈(putK kvs k v).map (·.1)↔j∈kvs.map (·.1)\/j=k:=by
 rw [P']
 split
 ·exact⟨.inl,λh=>h.elim id λe=>by rw [e];assumption⟩
 ·rw [Am,Ad]
theorem Qa{κ:Type} [DecidableEq κ] {kvs:List (κ×V)} {k:κ} {v:V} (h:(kvs.map (·.1)).Nodup):((putK kvs k v).map (·.1)).Nodup:=by
 rw [P']
 split
 ·exact h
 ·rename_i hn;exact oO h hn
structure jd(n:Net)(done:List<|Str×Nt.End)(H:Hp)(kM:List<|Key×V)(kO:List<|List Key×V):Prop where
 m0:∀ z,bL done z=[]->aJ kM (Sum.inr z)=none
 m1:∀ z a rest,bL done z=a :: rest->∃ t,aJ kM (Sum.inr z)=some (.ref t)/\H t=some (TN n a)
 o:∀ z a b rest,bL done z=a :: b :: rest->(∃ u,aJ kO (key n a)=some (.ref u)/\H u=some (TN n b))/\∃ u,aJ kO (key n b)=some (.ref u)/\H u=some (TN n a)
 sub:∀ p∈done,aN n p.2=some p.1
 dQ:kM.length<=done.length
 fH:kO.length<=2 * done.length
 ks:∀ k∈kO.map (·.1),∃ p∈done,k=key n p.2
 nd:(kO.map (·.1)).Nodup
theorem jd.keep{n:Net}{done:List (Str×Nt.End)}{H H':Hp}{kM:List (Key×V)}{kO:List (List Key×V)}(I:jd n done H kM kO)(k:∀ t p j,H t=some (Tn p j)->H' t=some (Tn p j)):jd n done H' kM kO where
 m0:=I.m0
 m1:=λz a rest h=>let ⟨t,e1,e2⟩:=I.m1 z a rest h;⟨t,e1,k _ _ _ e2⟩
 o:=λz a b rest h=>let ⟨⟨u,e1,e2⟩,⟨v,e3,e4⟩⟩:=I.o z a b rest h;⟨⟨u,e1,k _ _ _ e2⟩,⟨v,e3,k _ _ _ e4⟩⟩
 sub:=I.sub
 dQ:=I.dQ
 fH:=I.fH
 ks:=I.ks
 nd:=I.nd
theorem uM{done:List (Str×Nt.End)}{z:Str}{a:Nt.End}(h:a∈bL done z):(z,a)∈done:=by
 unfold bL at h;obtain⟨⟨y,b⟩,hm,rfl⟩:=An.mp h;obtain⟨h1,h2⟩:=Ba.mp hm;have:y=z:=BX h2;subst this;exact h1
theorem jd.new{n:Net}{done:List (Str×Nt.End)}{H:Hp}{kM:List (Key×V)}{kO:List (List Key×V)}(I:jd n done H kM kO){z:Str}{e:Nt.End}{t:Addr}(ht:H t=some (TN n e))(hz:aN n e=some z)(h0:bL done z=[]) :
  jd n (done++[(z,e)]) H (putK kM (Sum.inr z)<|.ref t) kO where
 m0:=λy hy=>by
  rw [df] at hy;obtain⟨h1,h2⟩:=Fb.mp hy;have bB:¬ z=y:=λq=>by rw [BP q] at h2;cases h2
  rw [eW,BK λq=>bB (Sum.inr.inj q).symm];exact I.m0 y h1
 m1:=λy a rest hy=>by
  rw [df] at hy
  by_cases q:z=y
  ·subst q;rw [h0,BP rfl] at hy;cases hy;exact⟨t,by rw [eW,BP rfl],ht⟩
  ·rw [BK q,Be] at hy;obtain⟨u,e1,e2⟩:=I.m1 y a rest hy;exact⟨u,by rw [eW,BK λp=>q (Sum.inr.inj p).symm];exact e1,e2⟩
 o:=λy a b rest hy=>by
  rw [df] at hy
  by_cases q:z=y
  ·subst q;rw [h0,BP rfl] at hy;cases hy
  ·rw [BK q,Be] at hy;exact I.o y a b rest hy
 sub:=λp hp=>by
  rcases Am.mp hp with h | h
  ·exact I.sub p h
  ·rw [Ad.mp h];exact hz
 dQ:=by
  have:=iu kM (Sum.inr z)<|.ref t;have:=I.dQ;rw [Af,Cu];omega
 fH:=by
  have:=I.fH;rw [Af,Cu];omega
 ks:=λk hk=>let ⟨p,hp,e⟩:=I.ks k hk;⟨p,Bd _ hp,e⟩
 nd:=I.nd
theorem jd.old{n:Net}(hN:(n.map (·.1)).Nodup){done:List (Str×Nt.End)}{H:Hp}{kM:List (Key×V)}{kO:List (List Key×V)}(I:jd n done H kM kO){z:Str}{e a:Nt.End}{te tm:Addr}(ht:H te=some (TN n e))(hm:H tm=some (TN n a))(hz:aN n e=some z)(h1:bL done z=[a])(hae:a≠e) :
  jd n (done++[(z,e)]) H kM (putK (putK kO (key n e)<|.ref tm) (key n a)<|.ref te) where
 m0:=λy hy=>by
  rw [df] at hy;exact I.m0 y (Fb.mp hy).1
 m1:=λy c rest hy=>by
  rw [df] at hy
  by_cases q:z=y
  ·subst q;rw [h1,BP rfl] at hy;cases hy;exact I.m1 z a [] h1
  ·rw [BK q,Be] at hy;exact I.m1 y c rest hy
 o:=λy c b rest hy=>by
  rw [df] at hy;have ta:aN n a=some z:=I.sub (z,a)<|uM<|by rw [h1];exact Ad.mpr rfl
  by_cases q:z=y
  ·subst q;rw [h1,BP rfl] at hy;cases hy;refine⟨⟨te,by rw [eW,BP rfl],ht⟩,⟨tm,?_,hm⟩⟩;rw [eW,BK λp=>hae (qe hN (cK hz) (cK ta) p).symm,eW,BP rfl]
  ·rw [BK q,Be] at hy;have tc:aN n c=some y:=I.sub (y,c) (uM<|by rw [hy];exact Ae);have tb:aN n b=some y:=I.sub (y,b) (uM<|by rw [hy];exact Ah _ Ae);have ne:∀ x:Nt.End,aN n x=some y->¬ key n x=key n a/\¬ key n x=key n e:=λx hx=>by
    refine⟨λp=>?_,λp=>?_⟩
    ·have:=qe hN (cK hx) (cK ta) p;rw [this,ta] at hx;exact q<|Option.some.inj hx
    ·have:=qe hN (cK hx) (cK hz) p;rw [this,hz] at hx;exact q<|Option.some.inj hx
   obtain⟨⟨u,e1,e2⟩,⟨v,e3,e4⟩⟩:=I.o y c b rest hy;refine⟨⟨u,?_,e2⟩,⟨v,?_,e4⟩⟩
   ·rw [eW,BK (ne c tc).1,eW,BK (ne c tc).2];exact e1
   ·rw [eW,BK (ne b tb).1,eW,BK (ne b tb).2];exact e3
 sub:=λp hp=>by
  rcases Am.mp hp with h | h
  ·exact I.sub p h
  ·rw [Ad.mp h];exact hz
 dQ:=by
  have:=I.dQ;rw [Af,Cu];omega
 fH:=by
  have h1:=iu (putK kO (key n e)<|.ref tm) (key n a)<|.ref te;have h2:=iu kO (key n e)<|.ref tm;have:=I.fH;rw [Af,Cu];omega
 ks:=λk hk=>by
  rcases gB.mp hk with hk | rfl
  ·rcases gB.mp hk with hk | rfl
   ·obtain⟨p,hp,e⟩:=I.ks k hk;exact⟨p,Bd _ hp,e⟩
   ·exact⟨(z,e),Ax _<|Ad.mpr rfl,rfl⟩
  ·exact⟨(z,a),Bd _ (uM<|by rw [h1];exact Ad.mpr rfl),rfl⟩
 nd:=Qa<|Qa I.nd
theorem jd.whole{n:Net}(T:av n){H:Hp}{kM:List (Key×V)}{kO:List (List Key×V)}(I:jd n (bh n) H kM kO){e:Nt.End}(he:e∈ends n):∃ u,aJ kO (key n e)=some (.ref u)/\H u=some (TN n<|other n e):=by
 obtain⟨z,hz⟩:=af.mp he;obtain⟨a,b,hp,ft,rp⟩:=nh T hz;have rX:bL (bh n) z=a :: b :: []:=hp;have ta:aN n a=some z:=aG.mp (by rw [hp];simp);have tb:aN n b=some z:=aG.mp (by rw [hp];simp);obtain⟨o1,o2⟩:=I.o z a b [] rX
 rcases rp with rfl | rfl
 ·have:b=other n e:=((j4 T hz).mp tb).resolve_left<|CK ft;rw [<- this];exact o1
 ·have:a=other n e:=((j4 T hz).mp ta).resolve_left ft;rw [<- this];exact o2
def mv:Sp:=λvs H Q _=>∃(R:Addr) (as:List<|Addr×Addr) (n:Net),vs=[.ref R]/\ao H R as n/\(n.map (·.1)).Nodup/\av n/\n.length<=1000/\(ag n).length<=1000 /\
 ∀(d:Addr) (kvs:List<|List Key×V) (H':Hp),au H H'->H d=none->H' d=some (.dT kvs)->(∀ e∈ends n,∃ u,aJ kvs (key n e)=some (.ref u)/\H' u=some (TN n<|other n e))->(kvs.map (·.1)).Nodup->(∀ k∈kvs.map (·.1),∃ e∈ends n,k=key n e)->kvs.length<=2000->Q (.ref d) H'
section
variable{X:Cx}{D:Ends}{σ:St}{H:Hp}{body:List Stmt}
theorem q2m{tg:Expr}{a b:Addr}{xs ys:List V}{after:St->Hp->Prop}(hlen:xs.length=ys.length)(Pv:Nat->St->Hp->Prop)(h0:Pv 0 σ H)(hl:∀ i σ H,i<=xs.length->Pv i σ H->aq X.K H a xs/\aq X.K H b ys)
  (hs:∀ i x y T σ H,xs[i]?=some x->ys[i]?=some y->Pv i σ H->H T=none->Eg X tg (.ref T) σ (upd H T<|.tup [x,y]) λσ2 H2=>Run X body {D with nx:=Pv<|i+1,ct:=Pv<|i+1,bk:=after} σ2 H2) (hd:∀ σ H,Pv xs.length σ H->after σ H):Loop X tg body (xV X.K a b) D after σ H:=by
 refine⟨λi m σ H=>m=xs.length - i/\i<=xs.length/\Pv i σ H,⟨xs.length,by simp,Bt _,h0⟩,?_⟩;rintro i m σ H ⟨rfl,hi,p⟩;obtain⟨q1,q2⟩:=hl i σ H hi p
 by_cases aY:i < xs.length
 ·refine .inr ⟨⟨xs,ys,xs[i],ys[i],q1,q2,Ab aY,Ab<|by omega⟩,Pv<|i+1,λσ' H' p'=>⟨xs.length - (i+1),by omega,rfl,aY,p'⟩,λv H' y=>?_⟩;obtain⟨T,x,y,hT,rfl,rfl,y1,y2⟩:=y;exact hs i x y T σ _ (y1 xs q1) (y2 ys q2) p hT
 ·have e:i=xs.length:=by omega
  subst e;exact .inl ⟨⟨xs,ys,q1,q2,.inl<|Al _⟩,hd σ H p⟩
end
section
variable{P:Program}{w:World}{K:PySem.W.Frag}{mg:Str->Option Value}{base:Heap}
abbrev NOE:List Str:=["rows","met","others","row","end","tie"]
theorem uN:ak NOE ["rows"] (aW DI):=⟨rfl,rfl,rfl,by decide +kernel,rfl,by decide +kernel,by decide +kernel⟩
theorem Qb{H:Hp}{t d:Addr}{xs:List V}{kvs:List (Key×V)}(h:H t=some (.tup xs))(g:H d=some (.dK kvs)):t≠d:=bU h g λz=>nomatch z
theorem kW{H:Hp}{t d:Addr}{xs:List V}{kvs:List (List Key×V)}(h:H t=some (.tup xs))(g:H d=some (.dT kvs)):t≠d:=bU h g λz=>nomatch z
theorem x0x{f:Addr}{fd:FuncData}(F:bx K "other_ends" "other_ends" DI f fd)(T:Txt mg)
  (GE:aS P w K mg base 1 "ends_round" ["row"] uK) :
  aF P w K mg base bJ 2 f fd ["rows"] mv:=by
 refine F.gb uN (λvs H Q E h=>?_) λb0 H vs Q E hr h=>?_
 ·obtain⟨R,as,n,rfl,_⟩:=h;rfl
 obtain⟨R,as,n,rfl,hR,hN,hT,hn,ht,q⟩:=h;have nd:=uN.nd;have bY:=hR.len;have hu:=hr.u1;show Run _ _ _ [some<|.ref R,none,none,none,none,none] H;refine a7 1 nd<|Dt λdm uO=>?_;refine a7 2 nd<|Yn λdO yo=>?_;show Run _ _ _ [some<|.ref R,some<|.ref dm,some<|.ref dO,none,none,none] (upd (upd H dm<|.dK []) dO<|.dT []);have uP:dO≠dm:=λe=>by rw [e,aB] at yo;cases yo
 have qf:H dO=none:=by rw [ay uP] at yo;exact yo
 have em:(upd (upd H dm<|.dK []) dO<|.dT []) dm=some (.dK []):=by rw [ay<|CK uP,aB]
 have eo:(upd (upd H dm<|.dK []) dO<|.dT []) dO=some (.dT []):=aB;have s0:au H (upd (upd H dm<|.dK []) dO<|.dT []):=λb o h=>by rw [ay<|bu h qf,ay<|bu h uO];exact h
 generalize upd (upd H dm<|.dK []) dO (.dT [])=H1 at em eo s0 ⊢;refine kE<|ae 0 ⟨R,rfl,⟨_,aq.of<|s0 _ _ hR.lst⟩,kF (xs:=as.map λa=>V.ref a.1) (λr σ H'=>∃ kM kO u1 u2 u3,au H H'/\H' dm=some (.dK kM)/\H' dO=some (.dT kO)/\jd n (bh<|n.take r) H' kM kO/\σ=[some<|.ref R,some<|.ref dm,some<|.ref dO,u1,u2,u3])
  ⟨[],[],_,_,_,s0,em,eo,⟨λ_ _=>rfl,λz a rest h=>(by cases h),λz a b rest h=>(by cases h),λp h=>(by cases h),Bt _,Bt _,λk h=>(by cases h),Ch⟩,rfl⟩ ?_ ?_ ?_⟩
 ·rintro r σ H' _ ⟨kM,kO,u1,u2,u3,sm,_⟩;exact aq.of<|sm _ _ hR.lst
 ·rintro r x σ H' hx ⟨kM,kO,u1,u2,u3,sm,Qc,Hf,I,rfl⟩;have hi:r < n.length:=by
   have:=(Ac.mp hx).1;rw [Aa] at this;omega
  obtain⟨a,ea,d7,et,el,er⟩:=(hR.same sm).at hi;rw [Aj,ea] at hx;cases hx;have hU:(row n r).length<=1000:=By (js n r) ht;have enm:nameAt n r=n[r].1:=nQ hi;refine bg 3 nd ?_;refine BA (Ow rfl T.zip (ta:=tO _ _) iw) ?_;show Ea _ _ _ _ _;refine ai<|bz GE hr<|ai<|ae 3<|az ⟨a.1,a.2,n[r].1,row n r,rfl,et,el,hU,λL ts H5 s5 n5 e5 l5 t5=>?_⟩;refine ai<|aU bF<|ae 3<|aD ⟨a.1,_,_,.ref a.2,rfl,rfl,aI.of<|s5 _ _ et,rfl,az ⟨L,a.2,rfl,⟨_,aq.of e5⟩,⟨_,aq.of<|s5 _ _ el⟩,?_⟩⟩;have yp:=s5 _ _ Qc;have yq:=s5 _ _ Hf;have sf:=s5 _ _ el;refine q2m (xs:=ts.map V.ref) (ys:=(row n r).map V.str) (by rw [Aa,Aa,l5]) (λp σ' bD=>∃ kM kO u2 u3,(∀ b o,b≠dm->b≠dO->H5 b=some o->bD b=some o)/\bD dm=some (.dK kM)/\bD dO=some (.dT kO)/\jd n (bh (n.take r)++bq r ((row n r).take p) 0) bD kM kO/\σ'=[some<|.ref R,some<|.ref dm,some<|.ref dO,some<|.ref a.1,u2,u3])
   ⟨kM,kO,_,_,λb o _ _ h=>h,yp,yq,?_,rfl⟩ ?_ ?_ ?_
  ·have:bq r ((row n r).take 0) 0=[]:=by simp [bq]
   rw [this,Be];exact I.keep λt p j h=>s5 _ _ h
  ·rintro p σ' bD _ ⟨kM,kO,u2,u3,kb,_,_,_,rfl⟩;exact⟨aq.of (kb _ _ (bU e5 yp λz=>nomatch z) (bU e5 yq λz=>nomatch z) e5),aq.of<|kb _ _ (bU sf yp λz=>nomatch z) (bU sf yq λz=>nomatch z) sf⟩
  ·rintro p x y Tt σ' bD hx hy ⟨kM,kO,u2,u3,kb,yr,yt,I6,rfl⟩ je;rw [Aj,Az] at hx hy;obtain⟨te,ka,rfl⟩:=hx;obtain⟨z,hz,rfl⟩:=hy;have mw:=t5 p te ka;have uQ:bD te=some (Tn n[r].1 p):=kb _ _ (Qb mw yp) (kW mw yq) mw;have my:aN n (r,p)=some z:=hz;obtain⟨rest,dX⟩:=uL hi hz;have hlen:(bh (n.take r)++bq r ((row n r).take p) 0).length < 1000:=by
    have h1:(bh n).length=(ag n).length:=by
     have:=BZ List.length<|kL n 0;rw [Aa] at this;exact this
    have h2:=BZ List.length dX;rw [Af,As] at h2;omega
   have iJ:bh (n.take r)++bq r ((row n r).take<|p+1) 0=(bh (n.take r)++bq r ((row n r).take p) 0)++[(z,(r,p))]:=by
    rw [pA hz,Aq]
   have kc:∀ b,b∈bL (bh (n.take r)++bq r ((row n r).take p) 0) z->b≠(r,p):=λb hb e=>by
    have hm:=uM hb;have pU:=rB n;unfold ends at pU;rw [dX,Ak,Bj] at pU;exact(Co.mp pU).2.2 _ (An.mpr ⟨_,hm,rfl⟩) _ Ae e
   have uR:(bL (bh (n.take r)++bq r ((row n r).take p) 0) z).length<=1:=by
    have h1:(pos n z).length=2:=by rw [pv];exact hT z<|dI my
    have h2:pos n z=bL (bh (n.take r)++bq r ((row n r).take p) 0) z++bL ((z,(r,p)) :: rest) z:=by
     show bL (bh n) z=_;rw [dX];unfold bL;rw [Cq,Ak]
    have h3:1<=(bL ((z,(r,p)) :: rest) z).length:=by
     unfold bL;rw [Cp,BP<|by simp];simp
    rw [h2,Af] at h1;omega
   generalize bh (n.take r)++bq r ((row n r).take p) 0=done at I6 hlen iJ kc uR;rw [iJ];have hTm:Tt≠dm:=λe=>by rw [e,yr] at je;cases je
   have hTo:Tt≠dO:=λe=>by rw [e,yt] at je;cases je
   have s7:=aT je<|.tup [.ref te,.str z];have Hg:∀ b o,b≠dm->b≠dO->H5 b=some o->(upd bD Tt<|.tup [.ref te,.str z]) b=some o:=λb o h1 h2 h=>s7 _ _<|kb b o h1 h2 h;have sg:=s7 _ _ yr;have si:=s7 _ _ yt;have I7:=I6.keep (H':=upd bD Tt<|.tup [.ref te,.str z]) λt p j h=>s7 _ _ h;have mB:=s7 _ _ uQ;refine iE rfl (aI.of aB) (bg 4 nd<|bg 5 nd ?_);show Run _ _ _ [some<|.ref R,some<|.ref dm,some<|.ref dO,some<|.ref a.1,some<|.ref te,some<|.str z] _;generalize upd bD Tt (.tup [.ref te,.str z])=H7 at Hg sg si I7 mB;have qg:H7 te=some (TN n (r,p)):=by
    show H7 te=some (Tn (nameAt n r) p);rw [enm];exact mB
   have hM:kM.length < sizeLine:=cz (by have:=I7.dQ;omega);have hO:kO.length < sizeLine:=cz (by have:=I7.fH;omega);refine eY<|NY hu<|ae 5<|ae 1 ⟨dm,_,rfl,bn.k (k:=Sum.inr z) sg,?_⟩
   match jv:bL done z with
   | []=>
    rw [I7.m0 z jv];show if false=true then _ else _;rw [BK Av];refine xn hu<|ae 4<|ae 1<|ae 5 ⟨dm,_,rfl,cB.k (k:=Sum.inr z) sg hM,bo<|bo ⟨_,kO,_,_,λb o h1 h2 h=>?_,aB,?_,?_,rfl⟩⟩
    ·rw [ay h1];exact Hg b o h1 h2 h
    ·rw [ay uP];exact si
    ·exact(I7.new qg my jv).keep λt p j h=>by rw [ay<|Qb h sg];exact h
   | b :: more=>
    have uS:more=[]:=by
     rw [jv,As] at uR;exact Bi.mp<|by omega
    subst uS;obtain⟨tm,vm,sj⟩:=I7.m1 z b [] jv;rw [vm];show if true=true then _ else _;rw [BP rfl];have k6:b≠(r,p):=kc b (by rw [jv];exact Ad.mpr rfl);refine xn hu (g8 hu<|ae 1<|ae 5 ⟨dm,.ref tm,rfl,by rw [<- vm];exact bn.k (k:=Sum.inr z) sg,ae 2<|ae 4 ⟨dO,_,rfl,cB.t (k:=key n (r,p)) si qg hO,?_⟩⟩);have hO2:=iu kO (key n (r,p))<|.ref tm;have hO3:=I7.fH;have Qd:(upd H7 dO<|.dT<|putK kO (key n (r,p))<|.ref tm) dm=some (.dK kM):=by rw [ay<|CK uP];exact sg
    have Hh:(upd H7 dO<|.dT<|putK kO (key n (r,p))<|.ref tm) tm=some (TN n b):=by rw [ay<|kW sj si];exact sj
    refine xn hu<|ae 4<|ae 2<|g8 hu<|ae 1<|ae 5 ⟨dm,.ref tm,rfl,by rw [<- vm];exact bn.k (k:=Sum.inr z) Qd,dO,_,rfl,cB.t (k:=key n b) aB Hh (cz<|by omega),bo<|bo ⟨kM,_,_,_,λb o h1 h2 h=>?_,?_,aB,?_,rfl⟩⟩
    ·rw [ay h2,ay h2];exact Hg b o h1 h2 h
    ·rw [ay<|CK uP];exact Qd
    ·exact(I7.old hN qg sj my jv k6).keep λt p j h=>by rw [ay<|kW h si,ay<|kW h si];exact h
  ·rintro σ' bD ⟨kM,kO,u2,u3,kb,yr,yt,I6,rfl⟩;refine bo ⟨kM,kO,_,_,_,λb o h=>?_,yr,yt,?_,rfl⟩
   ·exact kb b o (bu h uO) (bu h qf)<|s5 _ _<|sm _ _ h
   ·rw [Aa,l5,Ca] at I6;rw [rD hi];exact I6
 ·rintro σ H' ⟨kM,kO,u1,u2,u3,sm,Qc,Hf,I,rfl⟩;rw [Aa,bY,Ca] at I;have lO:=I.fH;have ls:(bh n).length=(ag n).length:=by rw [<- kL n 0,Aa];rfl
  exact bO<|ae 2<|q dO kO H' sm qf Hf (λe he=>I.whole hT he) I.nd (λk hk=>let ⟨p,hp,e⟩:=I.ks k hk;⟨p.2,An.mpr ⟨p,hp,rfl⟩,e⟩)<|by omega
end
def mD(n:Net)(H:Hp)(us:List Addr)(done:List<|Str×Nt.End):Prop:=us.length=done.length/\∀(j:Nat) u p,us[j]?=some u->done[j]?=some p->H u=some (TN n p.2)
theorem mD.keep{n:Net}{H H':Hp}{us:List Addr}{done:List (Str×Nt.End)}(h:mD n H us done)(k:∀ t p j,H t=some (Tn p j)->H' t=some (Tn p j)):mD n H' us done:=⟨h.1,λj u p h1 h2=>k _ _ _<|h.2 j u p h1 h2⟩
theorem mD.snoc{n:Net}{H H':Hp}{us:List Addr}{done:List (Str×Nt.End)}{u:Addr}{p:Str×Nt.End}(h:mD n H us done)(k:∀ t p j,H t=some (Tn p j)->H' t=some (Tn p j))(hu:H' u=some (TN n p.2)):mD n H' (us++[u]) (done++[p]):=by
 obtain⟨hl,ha⟩:=h;refine⟨by rw [Af,Af,hl];rfl,λj v x hv hx=>?_⟩
 by_cases hj:j < us.length
 ·rw [Ar hj] at hv;rw [Ar<|by omega] at hx;exact k _ _ _<|ha j v x hv hx
 ·rw [Ay<|by omega] at hv hx;have fN:j - us.length=0:=by
   have:=(Ac.mp hv).1;simp at this;omega
  have hj3:j - done.length=0:=by omega
  rw [fN] at hv;rw [hj3] at hx;cases hv;cases hx;exact hu
section
variable{X:Cx}{tg:Expr}{ifs:List Expr}{inner:Sem Unit}{σ:St}{H:Hp}{a b:Addr}{xs ys:List V}{after:St->Hp->Prop}
theorem sk(Pv:Nat->St->Hp->Prop)(h0:Pv 0 σ H)(hl:∀ i σ' H',i<=xs.length->Pv i σ' H'->aq X.K H' a xs)
  (hs:∀ i x σ' H',xs[i]?=some x->Pv i σ' H'->Eg X tg x σ' H' λσ2 H3=>Ei X ifs σ2 H3 λb H4=>if b=true then iZ X inner σ2 H4 (Pv<|i+1) else Pv (i+1) σ2 H4)
  (hd:∀ σ' H',Pv xs.length σ' H'->after σ' H'):fm X tg ifs inner (ou X.K a) after σ H:=by
 refine⟨λi m σ' H'=>m=xs.length - i/\i<=xs.length/\Pv i σ' H',⟨_,rfl,Bt _,h0⟩,?_⟩;rintro i m σ' H' ⟨rfl,hi,p⟩;have q:=hl i σ' H' hi p
 by_cases aY:i < xs.length
 ·refine .inr ⟨⟨xs,xs[i],q,by simp [aY]⟩,Pv<|i+1,λσ' H' p'=>⟨xs.length - (i+1),by omega,rfl,aY,p'⟩,λx H2 y=>?_⟩;obtain⟨e,y⟩:=y;subst e;exact hs i x σ' _ (y xs q) p
 ·have e:i=xs.length:=by omega
  subst e;exact .inl ⟨⟨xs,q,Al _⟩,hd σ' H' p⟩
theorem k2c(hlen:xs.length=ys.length)(Pv:Nat->St->Hp->Prop)(h0:Pv 0 σ H)(hl:∀ i σ' H',i<=xs.length->Pv i σ' H'->aq X.K H' a xs/\aq X.K H' b ys)
  (hs:∀ i x y T σ' H',xs[i]?=some x->ys[i]?=some y->Pv i σ' H'->H' T=none->Eg X tg (.ref T) σ' (upd H' T<|.tup [x,y]) λσ2 H3=>Ei X ifs σ2 H3 λb H4=>if b=true then iZ X inner σ2 H4 (Pv<|i+1) else Pv (i+1) σ2 H4)
  (hd:∀ σ' H',Pv xs.length σ' H'->after σ' H'):fm X tg ifs inner (xV X.K a b) after σ H:=by
 refine⟨λi m σ' H'=>m=xs.length - i/\i<=xs.length/\Pv i σ' H',⟨_,rfl,Bt _,h0⟩,?_⟩;rintro i m σ' H' ⟨rfl,hi,p⟩;obtain⟨q1,q2⟩:=hl i σ' H' hi p
 by_cases aY:i < xs.length
 ·refine .inr ⟨⟨xs,ys,xs[i],ys[i],q1,q2,Ab aY,Ab<|by omega⟩,Pv<|i+1,λσ' H' p'=>⟨xs.length - (i+1),by omega,rfl,aY,p'⟩,λv H2 y=>?_⟩;obtain⟨T,x,y,hT,rfl,rfl,y1,y2⟩:=y;exact hs i x y T σ' _ (y1 xs q1) (y2 ys q2) p hT
 ·have e:i=xs.length:=by omega
  subst e;exact .inl ⟨⟨xs,ys,q1,q2,.inl<|Al _⟩,hd σ' H' p⟩
end
def Hi:Sp:=λvs H Q _=>∃(R:Addr) (as:List<|Addr×Addr) (n:Net),vs=[.ref R]/\ao H R as n/\n.length<=1000/\(ag n).length<=1000 /\
 ∀(L:Addr) (ts:List Addr) (H':Hp),au H H'->H L=none->H' L=some (.lst<|ts.map V.ref)->mD n H' ts (bh n)->Q (.ref L) H'
section
variable{P:Program}{w:World}{K:PySem.W.Frag}{mg:Str->Option Value}{base:Heap}
abbrev Qe:List Str:=["rows"]
abbrev Qf:List Str:=["rows","row","end"]
theorem iK:ak Qe ["rows"] (aW xE):=⟨rfl,rfl,rfl,by decide +kernel,rfl,by decide +kernel,by decide +kernel⟩
theorem Qg:Qf.Nodup:=by decide +kernel
theorem q19{f:Addr}{fd:FuncData}(F:bx K "ends_in_order" "ends_in_order" xE f fd)(T:Txt mg)
  (GE:aS P w K mg base 1 "ends_round" ["row"] uK) :
  aF P w K mg base bJ 2 f fd ["rows"] Hi:=by
 refine F.gb iK (λvs H Q E h=>?_) λb0 H vs Q E hr h=>?_
 ·obtain⟨R,as,n,rfl,_⟩:=h;rfl
 obtain⟨R,as,n,rfl,hR,hn,ht,q⟩:=h;have nd:=iK.nd;have bY:=hR.len;show Run _ _ _ [some<|.ref R] H;refine bO<|ZC (aW xE) Qe Qf 2 (fQ bH)<|ae 0 ⟨R,rfl,⟨_,aq.of hR.lst⟩,λD hD cl C s₀ H₀ ex=>?_⟩;refine sk (xs:=as.map λa=>V.ref a.1) (λr σ' H'=>(∃ v1 v2,σ'=[some<|.ref R]++[v1,v2])/\∃ ts:List Addr,au H H'/\H' D=some (.lst<|ts.map V.ref)/\mD n H' ts (bh<|n.take r)) ⟨⟨none,none,rfl⟩,[],aT hD _,aB,⟨rfl,λj u p h=>(by cases h)⟩⟩ ?_ ?_ ?_
 ·rintro r σ' H' _ ⟨_,ts,sm,_⟩;exact aq.of<|sm _ _ hR.lst
 ·rintro r x σ' H' hx ⟨⟨v1,v2,rfl⟩,ts,sm,eD,AN⟩;have hi:r < n.length:=by
   have:=(Ac.mp hx).1;rw [Aa] at this;omega
  obtain⟨a,ea,d7,et,el,er⟩:=(hR.same sm).at hi;rw [Aj,ea] at hx;cases hx;have hU:(row n r).length<=1000:=By (js n r) ht;refine bg 1 Qg ?_;refine gI ?_;rw [BP rfl];refine ZA rfl rfl (fQ bH) (bz GE hr<|ai<|ae 1<|az ⟨a.1,a.2,n[r].1,row n r,rfl,et,el,hU,λL us H5 s5 n5 e5 l5 t5=>⟨L,rfl,⟨_,aq.of e5⟩,?_⟩⟩);have Hj:L≠D:=λe=>by rw [e,eD] at n5;cases n5
  refine sk (xs:=us.map V.ref) (λp σ' bD=>(∃ v2,σ'=[some<|.ref R]++[some<|.ref a.1,v2])/\∃ ts:List Addr,(∀ b o,b≠D->H5 b=some o->bD b=some o)/\bD D=some (.lst<|ts.map V.ref)/\mD n bD ts (bh (n.take r)++bq r ((row n r).take p) 0))
   ⟨⟨_,rfl⟩,ts,λb o _ h=>h,s5 _ _ eD,by simpa [bq] using AN.keep (H':=H5) λt p j h=>s5 _ _ h⟩ ?_ ?_ ?_
  ·rintro p σ' bD _ ⟨_,ts,kb,_⟩;exact aq.of<|kb _ _ Hj e5
  ·rintro p x σ' bD hx ⟨⟨v2,rfl⟩,ts,kb,ia,uT⟩;rw [Aj,Az] at hx;obtain⟨te,ka,rfl⟩:=hx;have hp:p < (row n r).length:=by have:=(Ac.mp ka).1;omega
   have hz:(row n r)[p]?=some (row n r)[p]:=Ab hp;generalize (row n r)[p]=z at hz;have mw:=t5 p te ka;have yu:te≠D:=bU mw (s5 _ _ eD) λz=>nomatch z;have uQ:=kb _ _ yu mw;obtain⟨rest,dX⟩:=uL hi hz;have hlen:ts.length < 1000:=by
    have h1:(bh n).length=(ag n).length:=by
     have:=BZ List.length<|kL n 0;rw [Aa] at this;exact this
    have h2:=BZ List.length dX;rw [Af,As] at h2;have:=uT.1;omega
   refine bg 2 Qg ?_;refine gI ?_;rw [BP rfl];refine B4 (ae 2 ⟨ts.map V.ref,ia,by rw [Aa];exact cz (by omega),⟨_,rfl⟩,ts++[te],λb o hb h=>by rw [ay hb];exact kb b o hb h,by rw [aB,Ak];rfl,?_⟩);rw [pA hz,<- Aq];refine uT.snoc (λt p j h=>by rw [ay<|bU h ia λz=>nomatch z];exact h) ?_;rw [ay yu];show bD te=some (Tn (nameAt n r) p);rw [nQ hi];exact uQ
  ·rintro σ' bD ⟨⟨v2,rfl⟩,ts,kb,ia,uT⟩;refine⟨⟨_,_,rfl⟩,ts,λb o h=>kb b o (bu h hD)<|s5 _ _<|sm _ _ h,ia,?_⟩;rw [Aa,l5,Ca,<- rD hi] at uT;exact uT
 ·rintro σ' H' ⟨_,ts,sm,eD,AN⟩;rw [Aa,bY,Ca] at AN;exact q D ts H' sm hD eD AN
end
section
variable{X:Cx}{H:Hp}
theorem Qh{p p':Str}{j j':Int}:∀(i:Nat) (u v:V),[V.str p,.int j][i]?=some u->[V.str p',.int j'][i]?=some v->i6 X H 0 u v (if i=0 then cH (.str p) (.str p') else cH (.int j) (.int j'))
 | 0,u,v,h1,h2=>by
  cases h1;cases h2;exact xl rfl rfl
 | 1,u,v,h1,h2=>by
  cases h1;cases h2;exact xl rfl rfl
 | i+2,u,v,h1,h2=>by simp at h1
theorem Qi(p p':Str)(j j':Int):(cH (.str p) (.str p') && cH (.int j) (.int j'))=decide (p=p'/\j=j'):=by
 show((p == p') && (j == j'))=_
 by_cases h:p=p' <;> by_cases h2:j=j' <;> simp [h,h2]
theorem Qj{s t:Addr}{p p':Str}{j j':Int}(hs:H s=some (Tn p j))(ht:H t=some (Tn p' j')):pj X H 1 (.ref s) (.ref t) (decide (p=p'/\j=j')):=by
 have:=NI (X:=X) (k:=0) (λi=>if i=0 then cH (.str p) (.str p') else cH (.int j) (.int j')) (aI.of hs) (aI.of ht) rfl Qh;rw [show([V.str p,.int j].length)=2 from rfl,all2] at this;have e:=Qi p p' j j';simp only [DK] at this;rw [BK (by decide),e] at this;exact this
theorem q7y{s t:Addr}{p p':Str}{j j':Int}(hs:H s=some (Tn p j))(ht:H t=some (Tn p' j')):rA X H 1 (.ref s) (.ref t) (decide (p=p'/\j=j')):=by
 have:=NU (X:=X) (k:=0) (λi=>if i=0 then cH (.str p) (.str p') else cH (.int j) (.int j')) (aI.of hs) (aI.of ht) rfl Qh;rw [show([V.str p,.int j].length)=2 from rfl,all2] at this;have e:=Qi p p' j j';simp only [DK] at this;rw [BK (by decide),e] at this;exact this
end
def kd:Sp:=λvs H Q _=>∃(R:Addr) (as:List<|Addr×Addr) (n:Net),vs=[.ref R]/\ao H R as n/\(n.map (·.1)).Nodup/\n.length<=1000/\(ag n).length<=1000 /\
 ∀(d:Addr) (kvs:List<|List Key×V) (H':Hp),au H H'->H d=none->H' d=some (.dT kvs)->(∀ e z,aN n e=some z->aJ kvs (key n e)=some (.str z))->Q (.ref d) H'
section
variable{P:Program}{w:World}{K:PySem.W.Frag}{mg:Str->Option Value}{base:Heap}
abbrev Qk:List Str:=["rows"]
abbrev Ql:List Str:=["rows","row","end","tie"]
theorem Hk:ak Qk ["rows"] (aW xF):=⟨rfl,rfl,rfl,by decide +kernel,rfl,by decide +kernel,by decide +kernel⟩
theorem Hl:Ql.Nodup:=by decide +kernel
theorem x0b{f:Addr}{fd:FuncData}(F:bx K "ties_by_end" "ties_by_end" xF f fd)(T:Txt mg)
  (GE:aS P w K mg base 1 "ends_round" ["row"] uK) :
  aF P w K mg base bJ 2 f fd ["rows"] kd:=by
 refine F.gb Hk (λvs H Q E h=>?_) λb0 H vs Q E hr h=>?_
 ·obtain⟨R,as,n,rfl,_⟩:=h;rfl
 obtain⟨R,as,n,rfl,hR,hN,hn,ht,q⟩:=h;have bY:=hR.len;have hu:=hr.u1;show Run _ _ _ [some<|.ref R] H;refine bO<|ZI (aW xF) Qk Ql 3 (fQ bH)<|ae 0 ⟨R,rfl,⟨_,aq.of hR.lst⟩,λD hD cl C s₀ H₀ ex=>?_⟩;refine sk (xs:=as.map λa=>V.ref a.1) (λr σ' H'=>(∃ v1 v2 v3,σ'=[some<|.ref R]++[v1,v2,v3])/\∃ kvs:List<|List Key×V,au H H'/\H' D=some (.dT kvs)/\kvs.length<=(bh<|n.take r).length/\∀ p∈bh (n.take r),aN n p.2=some p.1/\aJ kvs (key n p.2)=some (.str p.1)) ⟨⟨none,none,none,rfl⟩,[],aT hD _,aB,Bt _,λp h=>(by cases h)⟩ ?_ ?_ ?_
 ·rintro r σ' H' _ ⟨_,kvs,sm,_⟩;exact aq.of<|sm _ _ hR.lst
 ·rintro r x σ' H' hx ⟨⟨v1,v2,v3,rfl⟩,kvs,sm,eD,Qm,yv⟩;have hi:r < n.length:=by
   have:=(Ac.mp hx).1;rw [Aa] at this;omega
  obtain⟨a,ea,d7,et,el,er⟩:=(hR.same sm).at hi;rw [Aj,ea] at hx;cases hx;have hU:(row n r).length<=1000:=By (js n r) ht;refine bg 1 Hl ?_;refine gI ?_;rw [BP rfl];refine ZH rfl rfl (Ow rfl T.zip (ta:=tO _ _) iw) ?_;show Ea _ _ _ _ _;refine ai<|bz GE hr<|ai<|ae 1<|az ⟨a.1,a.2,n[r].1,row n r,rfl,et,el,hU,λL us H5 s5 n5 e5 l5 t5=>?_⟩;refine ai<|aU bF<|ae 1<|aD ⟨a.1,_,_,.ref a.2,rfl,rfl,aI.of<|s5 _ _ et,rfl,az ⟨L,a.2,rfl,⟨_,aq.of e5⟩,⟨_,aq.of<|s5 _ _ el⟩,?_⟩⟩;have kX:=s5 _ _ eD;have sf:=s5 _ _ el;refine k2c (xs:=us.map V.ref) (ys:=(row n r).map V.str) (by rw [Aa,Aa,l5]) (λp σ' bD=>(∃ v2 v3,σ'=[some<|.ref R]++[some<|.ref a.1,v2,v3])/\∃ kvs:List<|List Key×V,(∀ b o,b≠D->H5 b=some o->bD b=some o)/\bD D=some (.dT kvs)/\kvs.length<=(bh (n.take r)++bq r ((row n r).take p) 0).length/\∀ x∈bh (n.take r)++bq r ((row n r).take p) 0,aN n x.2=some x.1/\aJ kvs (key n x.2)=some (.str x.1))
   ⟨⟨_,_,rfl⟩,kvs,λb o _ h=>h,kX,by simpa [bq] using Qm,by simpa [bq] using yv⟩ ?_ ?_ ?_
  ·rintro p σ' bD _ ⟨_,kvs,kb,_⟩;exact⟨aq.of (kb _ _ (bU e5 kX λz=>nomatch z) e5),aq.of<|kb _ _ (bU sf kX λz=>nomatch z) sf⟩
  ·rintro p x y Tt σ' bD hx hy ⟨⟨v2,v3,rfl⟩,kvs,kb,ia,qh,mE⟩ je;rw [Aj,Az] at hx hy;obtain⟨te,ka,rfl⟩:=hx;obtain⟨z,hz,rfl⟩:=hy;have mw:=t5 p te ka;have yu:te≠D:=bU mw kX λz=>nomatch z;have uQ:=kb _ _ yu mw;have my:aN n (r,p)=some z:=hz;obtain⟨rest,dX⟩:=uL hi hz;have hlen:(bh (n.take r)++bq r ((row n r).take p) 0).length < 1000:=by
    have h1:(bh n).length=(ag n).length:=by
     have:=BZ List.length<|kL n 0;rw [Aa] at this;exact this
    have h2:=BZ List.length dX;rw [Af,As] at h2;omega
   have nTD:Tt≠D:=λe=>by rw [e,ia] at je;cases je
   have s7:=aT je<|.tup [.ref te,.str z];refine iE rfl (aI.of aB) (bg 2 Hl<|bg 3 Hl ?_);refine gI ?_;rw [BP rfl];have mB:(upd bD Tt<|.tup [.ref te,.str z]) te=some (.tup<|(key n (r,p)).map kV):=by
    rw [s7 _ _ uQ];show some (Tn n[r].1 (p:Int))=some (Tn (nameAt n r) (p:Int));rw [nQ hi]
   refine EX hu<|ae 2<|ae 3 ⟨_,cB.t (k:=key n (r,p)) (s7 _ _ ia) mB (cz<|by omega),⟨_,_,rfl⟩,_,λb o hb h=>?_,aB,?_,?_⟩
   ·rw [ay hb];exact s7 _ _<|kb b o hb h
   ·rw [pA hz,<- Aq,Af];have:=iu kvs (key n (r,p))<|.str z;show _<=_+1;omega
   ·rw [pA hz,<- Aq];intro x hx
    rcases Am.mp hx with h | h
    ·obtain⟨q1,q2⟩:=mE x h;refine⟨q1,?_⟩;rw [eW]
     by_cases hk:key n x.2=key n (r,p)
     ·rw [BP hk];have:=qe hN (cK q1) (cK my) hk;rw [this,my] at q1;rw [Option.some.inj q1]
     ·rw [BK hk];exact q2
    ·rw [Ad.mp h];exact⟨my,by rw [eW,BP rfl]⟩
  ·rintro σ' bD ⟨⟨v2,v3,rfl⟩,kvs,kb,ia,qh,mE⟩;rw [Aa,l5,Ca,<- rD hi] at qh mE;exact⟨⟨_,_,_,rfl⟩,kvs,λb o h=>kb b o (bu h hD)<|s5 _ _<|sm _ _ h,ia,qh,mE⟩
 ·rintro σ' H' ⟨_,kvs,sm,eD,Qm,yv⟩;rw [Aa,bY,Ca] at yv;exact q D kvs H' sm hD eD λe z he=>(yv (z,e)<|aV.mpr he).2
theorem Hm(K:PySem.W.Frag):PySem.W.kitOne K (.type "list") (.type "list")=some true:=by rfl
theorem uU(K:PySem.W.Frag):PySem.W.kitOne K (.type "tuple") (.type "tuple")=some true:=by rfl
theorem Hn(K:PySem.W.Frag):PySem.W.kitOne K (.type "int") (.type "int")=some true:=by rfl
theorem Ho(K:PySem.W.Frag):PySem.W.kitOne K (.type "int") (.type "bool")=some false:=by kernel_rfl
theorem Hq{κ:Type} [DecidableEq κ]:∀{kvs:List (κ×V)} {i:Nat} {p:κ×V},(kvs.map (·.1)).Nodup->kvs[i]?=some p->aJ kvs p.1=some p.2
 | [],_,_,_,h=>by simp at h
 | q :: r,0,p,_,h=>by
  cases h;exact iT rfl
 | q :: r,i+1,p,hn,h=>by
  rw [Bj,Bf] at hn;have hm:r[i]?=some p:=by simpa using h
  rw [iU λe=>hn.1<|by rw [e];exact An.mpr ⟨p,Ap hm,rfl⟩];exact Hq hn.2 hm
theorem Qn{κ:Type}{l:List κ}(h:l.Nodup){i j:Nat}{a:κ}(hi:l[i]?=some a)(hj:l[j]?=some a):i=j:=by
 have h1:=(Ac.mp hi).1;have h2:=(Ac.mp hj).1;have e1:=(Ac.mp hi).2;have e2:=(Ac.mp hj).2
 rcases QW i j with c | c | c
 ·exact absurd (e1.trans e2.symm)<|Bs.mp h i j h1 h2 c
 ·exact c
 ·exact absurd (e2.trans e1.symm)<|Bs.mp h j i h2 h1 c
def jf(c:Int):Sp:=λvs H Q _=>∃(R:Addr) (as:List<|Addr×Addr) (n:Net),vs=[.ref R]/\ao H R as n/\(n.map (·.1)).Nodup/\av n/\n.length<=1000/\(ag n).length<=1000 /\
 ∀(d:Addr) (kvs:List<|List Key×V) (H':Hp),au H H'->H d=none->H' d=some (.dT kvs)->(∀ e∈ends n,∃ u,aJ kvs (key n e)=some (.ref u)/\H' u=some (TN n<|go c n e))->Q (.ref d) H'
abbrev mF:List Str:=["rows","lists"]
abbrev qi:List Str:=["rows","lists","end","other"]
theorem yw:qi.Nodup:=by decide +kernel
theorem uV:ak mF ["rows"] (aW xG):=⟨rfl,rfl,rfl,by decide +kernel,rfl,by decide +kernel,by decide +kernel⟩
theorem x0w{f:Addr}{fd:FuncData}(F:bx K "left_steps" "left_steps" xG f fd)(T:Txt mg)
  (GO:aS P w K mg base 2 "other_ends" ["rows"] mv)
  (GT:aS P w K mg base 2 "turned_left" ["end","many"]<|jc λj=>j+1) :
  aF P w K mg base bJ 3 f fd ["rows"] (jf<|1):=by
 refine F.gb uV (λvs H Q E h=>?_) λb0 H vs Q E hr h=>?_
 ·obtain⟨R,as,n,rfl,_⟩:=h;rfl
 obtain⟨R,as,n,rfl,hR,hN,hT,hn,ht,q⟩:=h;have nd:=uV.nd;have bY:=hR.len;have hu:=hr.u1;show Run _ _ _ [some<|.ref R,none] H;have keys:=He n as bY;have knd:((dg n as).map (·.1)).Nodup:=by rw [keys];exact P9 hN
 have qj:(dg n as).length=n.length:=by have:=BZ List.length keys;simpa using this
 refine a7 1 nd (mY (Oq rfl) T.ni TQ (ai (ae 0 (az ⟨R,as.map (·.1),dg n as,rfl,?_,?_,?_,?_,λdl iy=>?_⟩))))
 ·rw [Cb];exact hR.lst
 ·rw [Aa,qj,bY]
 ·rw [Aa];exact cz<|by omega
 ·intro j t kv h1 h2;rw [Aj,Az] at h1;obtain⟨a,ea,rfl⟩:=h1;have hj:j < n.length:=by have:=(Ac.mp ea).1;omega
  have e:=yn (Ab hj) ea;rw [h2] at e;cases e;exact(hR.tup j a n[j] ea<|Ab hj).1
 have ef:(dg n as).foldl (λa p=>putK a p.1 p.2) []=dg n as:=by
  rw [P8 (acc:=[]) (by rw [Fe];exact knd),Fe]
 rw [ef];have s1:=aT iy<|.dK<|dg n as;have el:(upd H dl<|.dK<|dg n as) dl=some (.dK<|dg n as):=aB;generalize upd H dl (.dK<|dg n as)=H1 at s1 el;show Run _ _ _ [some<|.ref R,some<|.ref dl] H1;refine bO<|Ox (aW xG) mF qi 2 (OB bH) ?_;refine bz GO hr<|ai<|ae 0<|az ⟨R,as,n,rfl,hR.same s1,hN,hT,hn,ht,λd kvs H2 s2 nE ed val ke Hr uW=>?_⟩;refine⟨d,kvs,rfl,ed,λo D hD cl C s₀ H₀ ex=>?_⟩;have Hs:D≠d:=λe=>by rw [e,aB] at hD;cases hD
 have sr:H2 D=none:=by rw [ay Hs] at hD;exact hD
 have Ht:H d=none:=hV s1 nE;have sB:au H (upd H2 d<|.bX o<|.dT kvs):=gm (s1.trans s2) Ht;have kB:∀ b o',b≠d->H2 b=some o'->(upd H2 d<|.bX o<|.dT kvs) b=some o':=λb o' hb h=>by rw [ay hb];exact h
 have tB:∀ b p j,H2 b=some (Tn p j)->(upd H2 d<|.bX o<|.dT kvs) b=some (Tn p j):=λb p j h=>kB b _ (kW h ed) h;have uX:(upd H2 d<|.bX o<|.dT kvs) d=some (.bX o<|.dT kvs):=aB;have uY:(upd H2 d<|.bX o<|.dT kvs) dl=some (.dK<|dg n as):=kB _ _ (λe=>by rw [e,nE] at el;cases el)<|s2 _ _ el;have Hu:=hR.same sB;generalize upd H2 d (.bX o<|.dT kvs)=HB at hD sB tB uX uY Hu;have qk:=hV sB hD;refine OC (λi σ' H'=>(∃ v1 v2,σ'=[some<|.ref R,some<|.ref dl]++[v1,v2])/\∃ ib:List<|List Key×V,H' D=some (.dT ib)/\ib.length<=i/\au HB H' /\
  (∀ j k x e,j < i->kvs[j]?=some (k,x)->e∈ends n->k=key n e->∃ u,aJ ib (key n e)=some (.ref u)/\H' u=some (TN n<|go (1) n e)))
  ⟨⟨none,none,rfl⟩,[],aB,Al _,aT hD _,λj k x e h=>absurd h<|Ej _⟩ ?_ ?_ ?_
 ·rintro i σ' H' _ ⟨_,_,_,_,sm,_⟩;exact sm _ _ uX
 ·rintro i k x b Tt σ' H' hx ⟨⟨v1,v2,rfl⟩,ib,eD,l2,sm,all⟩ hb je;have hi:i < kvs.length:=(Ac.mp hx).1;obtain⟨e,he,rfl⟩:=Hr k<|An.mpr ⟨_,Ap hx,rfl⟩;obtain⟨u,hv,ui⟩:=val e he;have uZ:aJ kvs (key n e)=some x:=Hq ke hx;rw [hv] at uZ;cases uZ;have oZ:=cX hT he;obtain⟨zo,va⟩:=af.mp oZ;have hU:=cK va;have pY:=gM va;have Hv:nameAt n (other n e).1=n[(other n e).1].1:=nQ hU;have sT:=aT je<|.tup [.ref b,.ref u];have vb:=sT _ _<|sm _ _<|tB _ _ _ ui;refine iE rfl (aI.of aB) (bg 2 yw<|bg 3 yw ?_);refine gI ?_;rw [BP rfl];have vd:as[(other n e).1]?=some (as[(other n e).1]'(by omega)):=Ab (by omega);have nR:n[(other n e).1]?=some n[(other n e).1]:=Ab hU;have ev:aJ (dg n as) (Sum.inr<|nameAt n (other n e).1)=some (.ref (as[(other n e).1]'(by omega)).2):=by rw [Hv];exact Hc knd<|yn nR vd
  have ql:=(hR.tup _ _ _ vd nR).2;have kg:row n (other n e).1=n[(other n e).1].2:=lX hU;refine EX hu<|ae 2<|bz GT hr<|ai<|ae 3<|ai<|ce dF T.len DP<|ai<|g8 hu<|ae 1<|aU bF<|ae 3<|aD ⟨u,_,_,.str<|nameAt n (other n e).1,rfl,rfl,aI.of vb,rfl,?_⟩;refine⟨dl,.ref (as[(other n e).1]'(by omega)).2,rfl,by rw [<- ev];exact bn.k (k:=Sum.inr<|nameAt n (other n e).1)<|sT _ _<|sm _ _ uY,az ⟨_,_,rfl,.inl<|aq.of<|sT _ _<|sm _ _<|sB _ _ ql,az ⟨u,_,_,_,rfl,vb,?_,λt2 H4 s4 pZ=>?_⟩⟩⟩
  ·rw [Aa,<- kg];omega
  rw [Aa,<- kg] at pZ;have qm:H4 t2=some (TN n<|go (1) n e):=by
   rw [pZ];have:=rM (c:=1) oZ;show some (Tn _ _)=some (Tn _ (((go (1) n e).2:Nat):Int));unfold go;rw [this];rfl
  have qb:=s4 _ _<|sT _ _ hb;refine⟨_,cB.t (k:=key n e) (s4 _ _<|sT _ _ eD) qb (cz<|by omega),⟨_,_,rfl⟩,_,aB,?_,gm ((sm.trans sT).trans s4) hD,λj k' x' e' hj fZ o6 lK=>?_⟩
  ·have:=iu ib (key n e)<|.ref t2;omega
  ·subst lK
   by_cases qd:j=i
   ·subst qd;rw [hx] at fZ;have Hw:key n e=key n e':=BZ Prod.fst<|Option.some.inj fZ;obtain⟨z1,lZ⟩:=af.mp he;obtain⟨z2,rH⟩:=af.mp o6;have:=qe hN (cK lZ) (cK rH) Hw;subst this;exact⟨t2,by rw [eW,BP rfl],by rw [ay<|kW qm<|s4 _ _<|sT _ _ eD];exact qm⟩
   ·obtain⟨u3,Hx,Hy⟩:=all j _ x' e' (by omega) fZ o6 rfl;refine⟨u3,?_,?_⟩
    ·rw [eW,BK,Hx];intro hk;have h1:(kvs.map (·.1))[j]?=some (key n e'):=by rw [Aj,fZ];rfl
     have h2:(kvs.map (·.1))[i]?=some (key n e'):=by rw [Aj,hx,hk];rfl
     exact qd<|Qn ke h1 h2
    ·have q4:=s4 _ _<|sT _ _ Hy;rw [ay<|kW q4<|s4 _ _<|sT _ _ eD];exact q4
 ·rintro σ' H' ⟨_,ib,eD,_,sm,all⟩;refine q D ib H' (sB.trans sm) qk eD λe he=>?_;obtain⟨u,hv,_⟩:=val e he;obtain⟨i,hi⟩:∃ i:Nat,(kvs.map (·.1))[i]?=some (key n e):=Bh<|A0 hv;rw [Aj,Az] at hi;obtain⟨⟨k,x⟩,hx,hk⟩:=hi;exact all i k x e (Ac.mp hx).1 hx he hk
theorem ve:ak mF ["rows"] (aW xH):=⟨rfl,rfl,rfl,by decide +kernel,rfl,by decide +kernel,by decide +kernel⟩
theorem x0r{f:Addr}{fd:FuncData}(F:bx K "right_steps" "right_steps" xH f fd)(T:Txt mg)
  (GO:aS P w K mg base 2 "other_ends" ["rows"] mv)
  (GT:aS P w K mg base 2 "turned_right" ["end","many"]<|jc λj=>j - 1) :
  aF P w K mg base bJ 3 f fd ["rows"] (jf (-1)):=by
 refine F.gb ve (λvs H Q E h=>?_) λb0 H vs Q E hr h=>?_
 ·obtain⟨R,as,n,rfl,_⟩:=h;rfl
 obtain⟨R,as,n,rfl,hR,hN,hT,hn,ht,q⟩:=h;have nd:=ve.nd;have bY:=hR.len;have hu:=hr.u1;show Run _ _ _ [some<|.ref R,none] H;have keys:=He n as bY;have knd:((dg n as).map (·.1)).Nodup:=by rw [keys];exact P9 hN
 have qj:(dg n as).length=n.length:=by have:=BZ List.length keys;simpa using this
 refine a7 1 nd (mY (Oq rfl) T.ni TQ (ai (ae 0 (az ⟨R,as.map (·.1),dg n as,rfl,?_,?_,?_,?_,λdl iy=>?_⟩))))
 ·rw [Cb];exact hR.lst
 ·rw [Aa,qj,bY]
 ·rw [Aa];exact cz<|by omega
 ·intro j t kv h1 h2;rw [Aj,Az] at h1;obtain⟨a,ea,rfl⟩:=h1;have hj:j < n.length:=by have:=(Ac.mp ea).1;omega
  have e:=yn (Ab hj) ea;rw [h2] at e;cases e;exact(hR.tup j a n[j] ea<|Ab hj).1
 have ef:(dg n as).foldl (λa p=>putK a p.1 p.2) []=dg n as:=by
  rw [P8 (acc:=[]) (by rw [Fe];exact knd),Fe]
 rw [ef];have s1:=aT iy<|.dK<|dg n as;have el:(upd H dl<|.dK<|dg n as) dl=some (.dK<|dg n as):=aB;generalize upd H dl (.dK<|dg n as)=H1 at s1 el;show Run _ _ _ [some<|.ref R,some<|.ref dl] H1;refine bO<|Ox (aW xH) mF qi 2 (OB bH) ?_;refine bz GO hr<|ai<|ae 0<|az ⟨R,as,n,rfl,hR.same s1,hN,hT,hn,ht,λd kvs H2 s2 nE ed val ke Hr uW=>?_⟩;refine⟨d,kvs,rfl,ed,λo D hD cl C s₀ H₀ ex=>?_⟩;have Hs:D≠d:=λe=>by rw [e,aB] at hD;cases hD
 have sr:H2 D=none:=by rw [ay Hs] at hD;exact hD
 have Ht:H d=none:=hV s1 nE;have sB:au H (upd H2 d<|.bX o<|.dT kvs):=gm (s1.trans s2) Ht;have kB:∀ b o',b≠d->H2 b=some o'->(upd H2 d<|.bX o<|.dT kvs) b=some o':=λb o' hb h=>by rw [ay hb];exact h
 have tB:∀ b p j,H2 b=some (Tn p j)->(upd H2 d<|.bX o<|.dT kvs) b=some (Tn p j):=λb p j h=>kB b _ (kW h ed) h;have uX:(upd H2 d<|.bX o<|.dT kvs) d=some (.bX o<|.dT kvs):=aB;have uY:(upd H2 d<|.bX o<|.dT kvs) dl=some (.dK<|dg n as):=kB _ _ (λe=>by rw [e,nE] at el;cases el)<|s2 _ _ el;have Hu:=hR.same sB;generalize upd H2 d (.bX o<|.dT kvs)=HB at hD sB tB uX uY Hu;have qk:=hV sB hD;refine OC (λi σ' H'=>(∃ v1 v2,σ'=[some<|.ref R,some<|.ref dl]++[v1,v2])/\∃ ib:List<|List Key×V,H' D=some (.dT ib)/\ib.length<=i/\au HB H' /\
  (∀ j k x e,j < i->kvs[j]?=some (k,x)->e∈ends n->k=key n e->∃ u,aJ ib (key n e)=some (.ref u)/\H' u=some (TN n<|go (-1) n e)))
  ⟨⟨none,none,rfl⟩,[],aB,Al _,aT hD _,λj k x e h=>absurd h<|Ej _⟩ ?_ ?_ ?_
 ·rintro i σ' H' _ ⟨_,_,_,_,sm,_⟩;exact sm _ _ uX
 ·rintro i k x b Tt σ' H' hx ⟨⟨v1,v2,rfl⟩,ib,eD,l2,sm,all⟩ hb je;have hi:i < kvs.length:=(Ac.mp hx).1;obtain⟨e,he,rfl⟩:=Hr k<|An.mpr ⟨_,Ap hx,rfl⟩;obtain⟨u,hv,ui⟩:=val e he;have uZ:aJ kvs (key n e)=some x:=Hq ke hx;rw [hv] at uZ;cases uZ;have oZ:=cX hT he;obtain⟨zo,va⟩:=af.mp oZ;have hU:=cK va;have pY:=gM va;have Hv:nameAt n (other n e).1=n[(other n e).1].1:=nQ hU;have sT:=aT je<|.tup [.ref b,.ref u];have vb:=sT _ _<|sm _ _<|tB _ _ _ ui;refine iE rfl (aI.of aB) (bg 2 yw<|bg 3 yw ?_);refine gI ?_;rw [BP rfl];have vd:as[(other n e).1]?=some (as[(other n e).1]'(by omega)):=Ab (by omega);have nR:n[(other n e).1]?=some n[(other n e).1]:=Ab hU;have ev:aJ (dg n as) (Sum.inr<|nameAt n (other n e).1)=some (.ref (as[(other n e).1]'(by omega)).2):=by rw [Hv];exact Hc knd<|yn nR vd
  have ql:=(hR.tup _ _ _ vd nR).2;have kg:row n (other n e).1=n[(other n e).1].2:=lX hU;refine EX hu<|ae 2<|bz GT hr<|ai<|ae 3<|ai<|ce dF T.len DP<|ai<|g8 hu<|ae 1<|aU bF<|ae 3<|aD ⟨u,_,_,.str<|nameAt n (other n e).1,rfl,rfl,aI.of vb,rfl,?_⟩;refine⟨dl,.ref (as[(other n e).1]'(by omega)).2,rfl,by rw [<- ev];exact bn.k (k:=Sum.inr<|nameAt n (other n e).1)<|sT _ _<|sm _ _ uY,az ⟨_,_,rfl,.inl<|aq.of<|sT _ _<|sm _ _<|sB _ _ ql,az ⟨u,_,_,_,rfl,vb,?_,λt2 H4 s4 pZ=>?_⟩⟩⟩
  ·rw [Aa,<- kg];omega
  rw [Aa,<- kg] at pZ;have qm:H4 t2=some (TN n<|go (-1) n e):=by
   rw [pZ];have:=rM (c:=-1) oZ;show some (Tn _ _)=some (Tn _ (((go (-1) n e).2:Nat):Int));unfold go;rw [this];rfl
  have qb:=s4 _ _<|sT _ _ hb;refine⟨_,cB.t (k:=key n e) (s4 _ _<|sT _ _ eD) qb (cz<|by omega),⟨_,_,rfl⟩,_,aB,?_,gm ((sm.trans sT).trans s4) hD,λj k' x' e' hj fZ o6 lK=>?_⟩
  ·have:=iu ib (key n e)<|.ref t2;omega
  ·subst lK
   by_cases qd:j=i
   ·subst qd;rw [hx] at fZ;have Hw:key n e=key n e':=BZ Prod.fst<|Option.some.inj fZ;obtain⟨z1,lZ⟩:=af.mp he;obtain⟨z2,rH⟩:=af.mp o6;have:=qe hN (cK lZ) (cK rH) Hw;subst this;exact⟨t2,by rw [eW,BP rfl],by rw [ay<|kW qm<|s4 _ _<|sT _ _ eD];exact qm⟩
   ·obtain⟨u3,Hx,Hy⟩:=all j _ x' e' (by omega) fZ o6 rfl;refine⟨u3,?_,?_⟩
    ·rw [eW,BK,Hx];intro hk;have h1:(kvs.map (·.1))[j]?=some (key n e'):=by rw [Aj,fZ];rfl
     have h2:(kvs.map (·.1))[i]?=some (key n e'):=by rw [Aj,hx,hk];rfl
     exact qd<|Qn ke h1 h2
    ·have q4:=s4 _ _<|sT _ _ Hy;rw [ay<|kW q4<|s4 _ _<|sT _ _ eD];exact q4
 ·rintro σ' H' ⟨_,ib,eD,_,sm,all⟩;refine q D ib H' (sB.trans sm) qk eD λe he=>?_;obtain⟨u,hv,_⟩:=val e he;obtain⟨i,hi⟩:∃ i:Nat,(kvs.map (·.1))[i]?=some (key n e):=Bh<|A0 hv;rw [Aj,Az] at hi;obtain⟨⟨k,x⟩,hx,hk⟩:=hi;exact all i k x e (Ac.mp hx).1 hx he hk
def cT(n:Net)(H:Hp)(ts:List Addr)(es:List Nt.End):Prop:=ts.length=es.length/\∀(j:Nat) t e,ts[j]?=some t->es[j]?=some e->H t=some (TN n e)
theorem cT.keep{n:Net}{H H':Hp}{ts:List Addr}{es:List Nt.End}(h:cT n H ts es)(k:∀ t p j,H t=some (Tn p j)->H' t=some (Tn p j)):cT n H' ts es:=⟨h.1,λj t e h1 h2=>k _ _ _<|h.2 j t e h1 h2⟩
theorem cT.same{n:Net}{H H':Hp}{ts:List Addr}{es:List Nt.End}(h:cT n H ts es)(s:au H H'):cT n H' ts es:=h.keep λ_ _ _ q=>s _ _ q
theorem cT.append{n:Net}{H:Hp}{ts us:List Addr}{es fs:List Nt.End}(h:cT n H ts es)(g:cT n H us fs):cT n H (ts++us) (es++fs):=by
 refine⟨by rw [Af,Af,h.1,g.1],λj t e h1 h2=>?_⟩;have hl:=h.1
 by_cases hj:j < ts.length
 ·rw [Ar hj] at h1;rw [Ar<|by omega] at h2;exact h.2 j t e h1 h2
 ·rw [Ay<|by omega] at h1 h2;rw [<- hl] at h2;exact g.2 _ t e h1 h2
theorem cT.two{n:Net}{H:Hp}{t u:Addr}{a b:Nt.End}(h1:H t=some (TN n a))(h2:H u=some (TN n b)):cT n H [t,u] [a,b]:=⟨rfl,λj x e h3 h4=>by
 match j with
 | 0=>cases h3;cases h4;exact h1
 | 1=>cases h3;cases h4;exact h2
 | j+2=>simp at h3⟩
theorem yx{n:Net}(hN:(n.map (·.1)).Nodup){a b:Nt.End}(ha:a∈ends n)(hb:b∈ends n):decide (nameAt n a.1=nameAt n b.1/\(a.2:Int)=(b.2:Int))=decide (a=b):=by
 obtain⟨z1,h1⟩:=af.mp ha;obtain⟨z2,h2⟩:=af.mp hb;refine decide_eq_decide.mpr ⟨λ⟨p,q⟩=>qe hN (cK h1) (cK h2) (by unfold key;rw [p,q]),λe=>by rw [e];exact⟨rfl,rfl⟩⟩
theorem Hz{K:PySem.W.Frag}{H:Hp}{d:Addr}{xs:List V}(h:H d=some (.lst xs)):oH K "list" (.ref d) H:=Or.inl ⟨rfl,xs,aq.of h⟩
def bv(n:Net)(H:Hp)(d:Addr)(c:Int):Prop:=∃ kvs,H d=some (.dT kvs)/\∀ e∈ends n,∃ u,aJ kvs (key n e)=some (.ref u)/\H u=some (TN n<|go c n e)
theorem bv.same{n:Net}{H H':Hp}{d:Addr}{c:Int}(h:bv n H d c)(s:au H H'):bv n H' d c:=let ⟨kvs,h1,h2⟩:=h;⟨kvs,s _ _ h1,λe he=>let ⟨u,a,b⟩:=h2 e he;⟨u,a,s _ _ b⟩⟩
theorem bv.get{n:Net}{H:Hp}{d t:Addr}{c:Int}{e:Nt.End}(h:bv n H d c)(he:e∈ends n)(ht:H t=some (TN n e)):∃ u,bn H d (.ref t) (some<|.ref u)/\H u=some (TN n<|go c n e):=by
 obtain⟨kvs,h1,h2⟩:=h;obtain⟨u,a,b⟩:=h2 e he;exact⟨u,by rw [<- a];exact bn.t (k:=key n e) h1 ht,b⟩
def qo:Sp:=λvs H Q _=>∃(dl dr t:Addr) (n:Net) (e:Nt.End),vs=[.ref dl,.ref dr,.ref t]/\bv n H dl 1/\bv n H dr (-1)/\(n.map (·.1)).Nodup/\av n/\(ag n).length<=1000/\e∈ends n/\H t=some (TN n e) /\
 ∀(l:Addr) (ts:List Addr) (k:Nat) (H':Hp),au H H'->H l=none->H' l=some (.lst<|ts.map V.ref)->cT n H' ts (wk n e k)->i8 n e k->k<=(ends n).length->Q (.ref l) H'
abbrev NWf:List Str:=["lefts","rights","first","walker","end"]
theorem vf:ak NWf ["lefts","rights","first"] (aW pC):=⟨rfl,rfl,rfl,by decide +kernel,rfl,by decide +kernel,by decide +kernel⟩
theorem HE(ts:List Addr)(a b:Addr):ts.map V.ref++[V.ref a,V.ref b]=(ts++[a]).map V.ref++[V.ref b]:=by rw [Ak,Aq];rfl
theorem x01{f:Addr}{fd:FuncData}(F:bx K "walker_from" "walker_from" pC f fd)(T:Txt mg):aF P w K mg base bJ 1 f fd ["lefts","rights","first"] qo:=by
 refine F.gb vf (λvs H Q E h=>?_) λb0 H vs Q E hr h=>?_
 ·obtain⟨dl,dr,t,n,e,rfl,_⟩:=h;rfl
 obtain⟨dl,dr,t,n,e,rfl,hL,Qo,hN,hT,gR,he,ht,q⟩:=h;have nd:=vf.nd;have pY:=i7 n;have hu:=hr.u1;have un:=hr.f7;obtain⟨k,k0,k1,k2⟩:=xr (f:=two n) (S:=ends n) (λa ha=>kR hT ha) (λa ha b hb=>rN hT ha hb) he;obtain⟨u1,g1,e1⟩:=hL.get he ht;show Run _ _ _ [some<|.ref dl,some<|.ref dr,some<|.ref t,none,none] H;refine a7 3 nd<|d3<|ai<|ae 2<|ai<|g8 hu<|ae 0<|ae 2 ⟨dl,.ref u1,rfl,g1,az ⟨Z2,λl hl=>?_⟩⟩;have s1:=aT hl<|.lst [.ref t,.ref u1];have el:(upd H l<|.lst [.ref t,.ref u1]) l=some (.lst<|[t,u1].map V.ref):=aB;generalize upd H l (.lst [.ref t,.ref u1])=H1 at s1 el;obtain⟨u2,g2,e2⟩:=(Qo.same s1).get (e9 hT he)<|s1 _ _ e1;refine a7 4 nd<|g8 hu<|ae 1<|aU cN<|ae 3<|MA Lw<|aD ⟨1,rfl,l,_,_,.ref u1,rfl,rfl,aq.of el,rfl,dr,.ref u2,rfl,g2,?_⟩;show Run _ _ _ [some<|.ref dl,some<|.ref dr,some<|.ref t,some<|.ref l,some<|.ref u2] H1;refine C9 (λm σ H2=>∃(j:Nat) (ts:List Addr) (u:Addr),m=k - j/\0 < j/\j<=k/\au H H2/\H2 l=some (.lst<|ts.map V.ref)/\cT n H2 ts (wk n e j)/\H2 u=some (TN n<|it (two n) j e)/\(∀ i,0 < i->i < j->it (two n) i e≠e)/\σ=[some<|.ref dl,some<|.ref dr,some<|.ref t,some<|.ref l,some<|.ref u])
  (m0:=k - 1) ⟨1,[t,u1],u2,rfl,Fm,k0,s1,el,cT.two (s1 _ _ ht)<|s1 _ _ e1,e2,λi h1 h2=>by omega,rfl⟩ ?_
 rintro m σ H2 ⟨j,ts,u,rfl,j0,j1,sH,vg,at2,eu,hf,rfl⟩;have HG:it (two n) j e∈ends n:=jN (λa ha=>kR hT ha) he j;refine cE (xm un) (ae 4<|ae 2 ⟨1,_,by decide,q7y eu<|sH _ _ ht,_,rfl,?_⟩);rw [yx hN HG he];have tl:=at2.1;rw [pQ] at tl
 by_cases c:it (two n) j e=e
 ·rw [BW c];exact bG<|bO<|ae 3<|q l ts j H2 sH hl vg at2 ⟨j0,c,hf⟩<|by omega
 ·rw [BR c];have jk:j < k:=by
   rcases Di j k with h | h
   ·exact h
   ·have:j=k:=by omega
    subst this;exact absurd k2 c
  obtain⟨v1,g3,e3⟩:=(hL.same sH).get HG eu;refine cA<|gZ<|C7 FT PySem.F.slot_list_extend PySem.F.type_list_extend V4<|ae 3 (v:= .ref l) ⟨Hz vg,d3<|ai<|ae 4<|ai<|g8 hu<|ae 0<|ae 4 ⟨dl,.ref v1,rfl,g3,az ⟨Z2,λp hp=>?_⟩⟩⟩;have s3:=aT hp<|.lst [.ref u,.ref v1];have nlp:l≠p:=bu vg hp;refine⟨l,p,ts.map V.ref,[.ref u,.ref v1],rfl,rfl,s3 _ _ vg,aB,small (by rw [Aa];show _+2<=100000;omega),?_⟩;have HH:au H (upd (upd H2 p<|.lst [.ref u,.ref v1]) l<|.lst<|ts.map V.ref++[.ref u,.ref v1]):=gm (sH.trans s3) hl;have HI:(upd (upd H2 p<|.lst [.ref u,.ref v1]) l<|.lst<|ts.map V.ref++[.ref u,.ref v1]) l=some (.lst<|(ts++[u,v1]).map V.ref):=by rw [aB,Ak];rfl
  have kt:∀ b p' j',H2 b=some (Tn p' j')->(upd (upd H2 p<|.lst [.ref u,.ref v1]) l<|.lst<|ts.map V.ref++[.ref u,.ref v1]) b=some (Tn p' j'):=λb p' j' h=>by
   rw [ay<|bU h vg λz=>nomatch z];exact s3 _ _ h
  generalize upd (upd H2 p<|.lst [.ref u,.ref v1]) l (.lst<|ts.map V.ref++[.ref u,.ref v1])=H3 at HH HI kt;obtain⟨v2,g4,e4⟩:=(Qo.same HH).get (e9 hT HG)<|kt _ _ _ e3;refine a7 4 nd<|g8 hu<|ae 1<|aU cN<|ae 3<|MA Lw<|aD ⟨1,rfl,l,_,_,.ref v1,rfl,rfl,aq.of HI,?_,dr,.ref v2,rfl,g4,?_⟩
  ·rw [Ak];show dY (ts.map V.ref++[V.ref u,V.ref v1]) (-1)=_;rw [HE];exact VS _ _
  refine bo ⟨k - (j+1),by omega,j+1,ts++[u,v1],v2,rfl,Gc _,jk,HH,HI,(at2.keep kt).append<|cT.two (kt _ _ _ eu)<|kt _ _ _ e3,e4,λi h1 h2=>?_,rfl⟩
  by_cases eQ:i=j
  ·subst eQ;exact c
  ·exact hf i h1<|by omega
open bA
theorem yy{α β:Type}(f:α->β):∀ xs:List α,ah (xs.map f)=(ah xs).map f
 | []=>rfl
 | [a]=>rfl
 | a :: b :: r=>by
  show f a :: ah (r.map f)=f a :: (ah r).map f;rw [yy f r]
theorem cT.ah{n:Net}{H:Hp}{ts:List Addr}{es:List Nt.End}(h:cT n H ts es):cT n H (L2.ah ts) (L2.ah es):=by
 refine⟨by rw [nr,nr,h.1],λj t e h1 h2=>?_⟩;rw [jt] at h1 h2;exact h.2 _ t e h1 h2
theorem nS{P:Program}{w:World}{H:Hp}{a d:Addr}{o:HO}{zs:List Str}(h:H a=some o)(g:H d=some (bd P w d zs))(ho:∀ φ,o ≠ .ext φ):a≠d:=λe=>by
 rw [e,g] at h;exact ho _ (Option.some.inj h).symm
structure jg(n:Net)(H:Hp)(L:Addr)(ls:List Addr)(ws:List<|List Nt.End):Prop where
 lst:H L=some (.lst<|ls.map V.ref)
 len:ls.length=ws.length
 pS:ls.Nodup
 out:L∉ls
 at':∀(j:Nat) l w,ls[j]?=some l->ws[j]?=some w->∃ ts,H l=some (.lst<|ts.map V.ref)/\cT n H ts w
theorem jg.same{n:Net}{H H':Hp}{L:Addr}{ls:List Addr}{ws:List (List Nt.End)}(h:jg n H L ls ws)(s:au H H'):jg n H' L ls ws:=
 ⟨s _ _ h.lst,h.len,h.pS,h.out,λj l w h1 h2=>let ⟨ts,a,b⟩:=h.at' j l w h1 h2;⟨ts,s _ _ a,b.same s⟩⟩
theorem jg.keep{n:Net}{H H':Hp}{L:Addr}{ls:List Addr}{ws:List (List Nt.End)}(h:jg n H L ls ws)(hL:H' L=H L)(kl:∀ l∈ls,∀ o,H l=some o->H' l=some o)(kt:∀ t p j,H t=some (Tn p j)->H' t=some (Tn p j)):jg n H' L ls ws:=
 ⟨by rw [hL];exact h.lst,h.len,h.pS,h.out,λj l w h1 h2=>let ⟨ts,a,b⟩:=h.at' j l w h1 h2;⟨ts,kl l (Ap h1) _ a,b.keep kt⟩⟩
theorem jg.snoc{n:Net}{H H':Hp}{L l:Addr}{ls ts:List Addr}{ws:List (List Nt.End)}{v:List Nt.End}(h:jg n H L ls ws)(hL:H' L=some (.lst<|ls.map V.ref++[.ref l]))(kl:∀ l∈ls,∀ o,H l=some o->H' l=some o)(kt:∀ t p j,H t=some (Tn p j)->H' t=some (Tn p j))
  (hl:H' l=some (.lst<|ts.map V.ref)) (hv:cT n H' ts v) (hn:l∉ls) (Qp:L≠l):jg n H' L (ls++[l]) (ws++[v]):=by
 refine⟨by rw [hL,Ak];rfl,by rw [Af,Af,h.len];rfl,oO h.pS hn,λhm=>?_,λj a x h1 h2=>?_⟩
 ·rcases Am.mp hm with hm | hm
  ·exact h.out hm
  ·exact Qp<|Ad.mp hm
 ·have hlen:=h.len
  by_cases hj:j < ls.length
  ·rw [Ar hj] at h1;rw [Ar<|by omega] at h2;obtain⟨us,q1,q2⟩:=h.at' j a x h1 h2;exact⟨us,kl a (Ap h1) _ q1,q2.keep kt⟩
  ·rw [Ay<|by omega] at h1 h2;have fN:j - ls.length=0:=by
    have:=(Ac.mp h1).1;simp at this;omega
   rw [fN] at h1;rw [<- hlen,fN] at h2;cases h1;cases h2;exact⟨ts,hl,hv⟩
def vh:Sp:=λvs H Q _=>∃(R:Addr) (as:List<|Addr×Addr) (n:Net),vs=[.ref R]/\ao H R as n/\(n.map (·.1)).Nodup/\av n/\n.length<=1000/\(ag n).length<=400 /\
 ∀(L:Addr) (ls:List Addr) (H':Hp),au H H'->H L=none->jg n H' L ls (dM n (ends n) [])->(∀ l∈ls,H l=none)->Q (.ref L) H'
theorem q39{n:Net}{i:Nat}{p:Str×Nt.End}(h:(bh n)[i]?=some p):(ends n)[i]?=some p.2:=by unfold ends;rw [Aj,h];rfl
abbrev NWs:List Str:=["rows","lefts","rights","names","told","walkers","first","walker","end"]
theorem vi:ak NWs ["rows"] (aW pB):=⟨rfl,rfl,rfl,by decide +kernel,rfl,by decide +kernel,by decide +kernel⟩
theorem q90{f:Addr}{fd:FuncData}(F:bx K "walkers_of" "walkers_of" pB f fd)(T:Txt mg)
  (GL:aS P w K mg base 3 "left_steps" ["rows"]<|jf 1)
  (GR:aS P w K mg base 3 "right_steps" ["rows"]<|jf (-1))
  (GN:aS P w K mg base 3 "ties_by_end" ["rows"] kd)
  (GO:aS P w K mg base 3 "ends_in_order" ["rows"] Hi)
  (GW:aS P w K mg base 3 "walker_from" ["lefts","rights","first"] qo) :
  aF P w K mg base bJ 4 f fd ["rows"] vh:=by
 refine F.gb vi (λvs H Q E h=>?_) λb0 H vs Q E hr h=>?_
 ·obtain⟨R,as,n,rfl,_⟩:=h;rfl
 obtain⟨R,as,n,rfl,hR,hN,hT,hn,gR,q⟩:=h;have nd:=vi.nd;have pY:=i7 n;have hu:=hr.u1;show Run _ _ _ [some<|.ref R,none,none,none,none,none,none,none,none] H;refine a7 1 nd (bz GL hr<|ai<|ae 0<|az ⟨R,as,n,rfl,hR,hN,hT,hn,by omega,λdl kl H1 s1 n1 e1 v1=>?_⟩);refine a7 2 nd (bz GR hr<|ai<|ae 0<|az ⟨R,as,n,rfl,hR.same s1,hN,hT,hn,by omega,λdr kr H2 s2 n2 e2 v2=>?_⟩);refine a7 3 nd (bz GN hr<|ai<|ae 0<|az ⟨R,as,n,rfl,hR.same<|s1.trans s2,hN,hn,by omega,λdn kn H3 s3 n3 e3 v3=>?_⟩);refine a7 4 nd<|Z7 T.pH λD hD=>?_;refine a7 5 nd<|d3<|az ⟨Z0,λL hL=>?_⟩;have hSL:bv n H3 dl 1:=bv.same ⟨kl,e1,v1⟩<|s2.trans s3;have hSR:bv n H3 dr (-1):=bv.same ⟨kr,e2,v2⟩ s3;have qp:=(s1.trans s2).trans s3;have yz:L≠D:=λe=>by rw [e,aB] at hL;cases hL
 have hL3:H3 L=none:=by rw [ay yz] at hL;exact hL
 have qk:=hV qp hD;have yl:=hV qp hL3;have sB:au H3 (upd (upd H3 D<|bd P w D []) L<|.lst []):=(aT hD _).trans<|aT hL _;have Qq:(upd (upd H3 D<|bd P w D []) L<|.lst []) D=some (bd P w D []):=by rw [ay<|CK yz,aB]
 have HK:(upd (upd H3 D<|bd P w D []) L<|.lst []) L=some (.lst []):=aB;have HL:=qp.trans sB;have vj:=hSL.same sB;have vk:=hSR.same sB;have Qr:=sB _ _ e3;show Run _ _ _ [some<|.ref R,some<|.ref dl,some<|.ref dr,some<|.ref dn,some<|.ref D,some<|.ref L,none,none,none] (upd (upd H3 D<|bd P w D []) L<|.lst []);generalize upd (upd H3 D<|bd P w D []) L (.lst [])=HB at sB Qq HK HL vj vk Qr;refine kE (bz GO hr<|ai<|ae 0<|az ⟨R,as,n,rfl,hR.same HL,hn,by omega,λU us H5 s5 n5 e5 HM=>⟨U,rfl,⟨_,aq.of e5⟩,?_⟩⟩);have Qs:=HL.trans s5;have kX:=s5 _ _ Qq;have yA:=s5 _ _ HK;have HP:=vj.same s5;have HQ:=vk.same s5;have HR:=s5 _ _ Qr;have nUL:U≠L:=λe=>by rw [e,HK] at n5;cases n5
 have HU:us.length=(ends n).length:=by rw [HM.1];unfold ends;rw [Aa]
 refine kF (xs:=us.map V.ref) (λi σ H'=>∃(zs told:List Str) (ls:List Addr) (ws:List<|List Nt.End) (u1 u2 u3:Option V),(∀ b o,b≠D->b≠L->H5 b=some o->H' b=some o)/\H' D=some (bd P w D zs)/\zs.Nodup/\(∀ z∈zs,z∈ag n)/\(∀ z,z∈zs↔z∈told) /\
  jg n H' L ls ws/\(∀ l∈ls,H5 l=none)/\ls.length<=i/\dM n (ends n) []=ws++dM n ((ends n).drop i) told/\σ=[some<|.ref R,some<|.ref dl,some<|.ref dr,some<|.ref dn,some<|.ref D,some<|.ref L,u1,u2,u3])
  ⟨[],[],[],[],_,_,_,λb o _ _ h=>h,kX,Ch,λz h=>by simp at h,λz=>by simp,⟨yA,rfl,Ch,by simp,λj l w h=>by simp at h⟩,λl h=>by simp at h,Al _,rfl,rfl⟩ ?_ ?_ ?_
 ·rintro i σ H' _ ⟨_,_,_,_,_,_,_,kp,_⟩;exact aq.of<|kp _ _ (nS e5 kX λφ z=>nomatch z) nUL e5
 ·rintro i x σ H' hx ⟨zs,told,ls,ws,u1,u2,u3,kp,eD,zn,zt,zm,hW,hf,kH,vp,rfl⟩;have hi:i < us.length:=by
   have:=(Ac.mp hx).1;rw [Aa] at this;exact this
  rw [Aj,Ab hi] at hx;cases hx;have HV:i < (bh n).length:=by have:=HM.1;omega
  have yB:H5 us[i]=some (TN n (bh n)[i].2):=HM.2 i us[i] (bh n)[i] (Ab hi)<|Ab HV;have nU:=q39<|Ab HV;have jh:aN n (bh n)[i].2=some (bh n)[i].1:=aV.mp (by have:=Bu HV;exact this);generalize (bh n)[i]=pr at yB nU jh;obtain⟨z,e⟩:=pr;have yB:H5 us[i]=some (TN n e):=yB;have jh:aN n e=some z:=jh;have nU:(ends n)[i]?=some e:=nU;have he:e∈ends n:=Ap nU;have nV:(ends n).drop i=e :: (ends n).drop (i+1):=by
   have Qt:i < (ends n).length:=by omega
   rw [RB Qt]
   congr 1
   have:=Ab Qt;rw [nU] at this;exact(Option.some.inj this).symm
  have Qu:∀{b p j},H5 b=some (Tn p j)->H' b=some (Tn p j):=λ{b p j} h=>kp _ _ (nS h kX λφ z=>nomatch z) (bU h yA λz=>nomatch z) h;have fG:=Qu yB;have HZ:H' dn=some (.dT kn):=kp _ _ (nS HR kX λφ z=>nomatch z) (bU HR yA λz=>nomatch z) HR;have db:∀{d c},bv n H5 d c->bv n H' d c:=λ{d c} ⟨kvs,a,b⟩=>⟨kvs,kp _ _ (nS a kX λφ z=>nomatch z) (bU a yA λz=>nomatch z) a,λe he=>let ⟨u,p,r⟩:=b e he;⟨u,p,Qu r⟩⟩;have hd1:bn H' dn (.ref us[i]) (some<|.str z):=by rw [<- v3 e z jh];exact bn.t (k:=key n e) HZ fG
  refine bg 6 nd ?_;refine eY<|cE Z8<|g8 hu<|ae 3<|ae 6 ⟨dn,.str z,rfl,hd1,ae 4 ⟨z,D,zs,rfl,rfl,eD,_,rfl,?_⟩⟩;refine jF (λc=>?_) λc=>?_
  ·have hz:z∉zs:=BX c;have dC:aA n e∉told:=by rw [dj jh];exact λh=>hz<|(zm z).mpr h
   refine a7 7 nd (bz GW hr<|ai<|ae 1<|ai<|ae 2<|ai<|ae 6<|az ⟨dl,dr,us[i],n,e,rfl,db HP,db HQ,hN,hT,by omega,he,fG,λl ts k H6 s6 n6 e6 at6 pr hk=>?_⟩);have Ia:=ur pr;have hwe:walker n e=wk n e k:=by unfold walker;rw [Ia]
   have Ib:=s6 _ _ hW.lst;have ia:=s6 _ _ eD;have Ic:L≠l:=bu hW.lst n6;have se:D≠l:=bu eD n6;refine gZ (lV<|ae 5 ⟨L,rfl,⟨_,Ib⟩,ae 7 ⟨_,Ib,by rw [Aa];exact cz (by omega),?_⟩⟩);have k7:∀ b o,b≠L->H6 b=some o->(upd H6 L<|.lst<|ls.map V.ref++[.ref l]) b=some o:=λb o hb h=>by rw [ay hb];exact h
   have Qv:(upd H6 L<|.lst<|ls.map V.ref++[.ref l]) L=some (.lst<|ls.map V.ref++[.ref l]):=aB;generalize upd H6 L (.lst<|ls.map V.ref++[.ref l])=H7 at k7 Qv;have Qw:∀ t p j,H6 t=some (Tn p j)->H7 t=some (Tn p j):=λt p j h=>k7 _ _ (bU h Ib λz=>nomatch z) h;have e7:=k7 _ _ (CK Ic) e6;have eD7:=k7 _ _ (CK yz) ia;have Qx:=at6.keep Qw;have Ie:l∉ls:=λhm=>by
    obtain⟨j,hj⟩:=Bh hm;have hlen:=hW.len;have Ig:j < ws.length:=by have:=(Ac.mp hj).1;omega
    obtain⟨_,a,_⟩:=hW.at' j l ws[j] hj<|Ab Ig;rw [n6] at a;cases a
   have hW7:jg n H7 L (ls++[l]) (ws++[wk n e k]):=hW.snoc Qv (λa ha o ho=>k7 _ _ (λq=>hW.out<|q ▸ ha)<|s6 _ _ ho) (λt p j h=>Qw _ _ _<|s6 _ _ h) e7 Qx Ie Ic;have l57:H5 l=none:=by
    cases q5:H5 l with
    | none=>rfl
    | some o=>rw [kp _ _ (CK se) (CK Ic) q5] at n6;cases n6
   have hf7:∀ a∈ls++[l],H5 a=none:=λa ha=>by
    rcases Am.mp ha with ha | ha
    ·exact hf a ha
    ·rw [Ad.mp ha];exact l57
   have uG:∀ b o,b≠D->b≠L->H5 b=some o->H7 b=some o:=λb o h1 h2 h=>k7 _ _ h2<|s6 _ _<|kp b o h1 h2 h;have hll:(ls++[l]).length<=i+1:=by rw [Af];show ls.length+1<=_;omega
   have Ih:dM n (ends n) []=(ws++[wk n e k])++dM n ((ends n).drop<|i+1) (told++(ah<|wk n e k).map (aA n)):=by
    rw [vp,nV];show ws++(if aA n e∈told then _ else _)=_;rw [BK dC,hwe,Aq];rfl
   have ji:=E3 hT he k;refine kE<|Z3<|ae 7 ⟨l,_,rfl,aq.of e7,λp hp=>⟨p,rfl,⟨_,aq.of aB⟩,?_⟩⟩;rw [yy];have s8:=aT hp<|.lst<|(ah ts).map V.ref;have e8:(upd H7 p<|.lst<|(ah ts).map V.ref) p=some (.lst<|(ah ts).map V.ref):=aB;have nW:=s8 _ _ eD7;have sv:=hW7.same s8;have yC:=(Qx.same s8).ah;have Qy:∀ b o,b≠D->b≠L->H5 b=some o->(upd H7 p<|.lst<|(ah ts).map V.ref) b=some o:=λb o h1 h2 h=>s8 _ _<|uG b o h1 h2 h;have Ii:=s8 _ _ (k7 _ _ (bU HZ hW.lst λz=>nomatch z)<|s6 _ _ HZ);generalize upd H7 p (.lst<|(ah ts).map V.ref)=H8 at s8 e8 nW sv yC Qy Ii;have vq:p≠D:=nS e8 nW λφ z=>nomatch z;refine kF (xs:=(ah ts).map V.ref) (λm σ H9=>∃(ix:List Str) (u3:Option V),(∀ b o,b≠D->H8 b=some o->H9 b=some o)/\H9 D=some (bd P w D ix)/\ix.Nodup/\(∀ z∈ix,z∈ag n)/\(∀ z,z∈ix↔z∈told++((ah<|wk n e k).take m).map (aA n)) /\
    σ=[some<|.ref R,some<|.ref dl,some<|.ref dr,some<|.ref dn,some<|.ref D,some<|.ref L,some<|.ref us[i],some<|.ref l,u3]) ⟨zs,_,λb o _ h=>h,nW,zn,zt,λz=>by rw [zm z];simp,rfl⟩ ?_ ?_ ?_
   ·rintro m σ H9 _ ⟨_,_,k9,_⟩;exact aq.of<|k9 _ _ vq e8
   ·rintro m x σ H9 hx ⟨ix,u3,k9,yD,vt,yE,yF,rfl⟩;have hm:m < (ah ts).length:=by
     have:=(Ac.mp hx).1;rw [Aa] at this;exact this
    have l8:=yC.1;rw [Aj,Ab hm] at hx;cases hx;have gQ:m < (ah<|wk n e k).length:=by omega
    have Ij:=yC.2 m _ _ (Ab hm)<|Ab gQ;have hcw:(ah<|wk n e k)[m]∈wk n e k:=by
     have h1:(ah<|wk n e k)[m]?=some (ah<|wk n e k)[m]:=Ab gQ;rw [jt] at h1;exact Ap h1
    have yf:=ji _ hcw;obtain⟨y,hy⟩:=af.mp yf;have jw:(ah<|wk n e k).take (m+1)=(ah<|wk n e k).take m++[(ah<|wk n e k)[m]]:=by rw [Cj,Ab gQ];rfl
    generalize (ah<|wk n e k)[m]=c at Ij yf hy jw;have hc9:H9 (ah ts)[m]=some (TN n c):=k9 _ _ (nS Ij nW λφ z=>nomatch z) Ij;have ed9:H9 dn=some (.dT kn):=k9 _ _ (nS Ii nW λφ z=>nomatch z) Ii;have hd9:bn H9 dn (.ref (ah ts)[m]) (some<|.str y):=by rw [<- v3 c y hy];exact bn.t (k:=key n c) ed9 hc9
    have zl:ix.length<=(ag n).length:=aX vt yE;refine bg 8 nd ?_;refine gZ<|Z9<|ae 4 ⟨D,rfl,⟨_,yD⟩,g8 hu<|ae 3<|ae 8 ⟨dn,.str y,rfl,hd9,y,ix,rfl,yD,by omega,bo ⟨added ix y,_,λb o hb h=>?_,aB,?_,λz hz=>?_,λz=>?_,rfl⟩⟩⟩
    ·rw [ay hb];exact k9 b o hb h
    ·unfold added
     split
     ·exact vt
     ·rename_i hny;exact oO vt hny
    ·rcases (CM ix y z).mp hz with h | h
     ·exact yE z h
     ·rw [h];exact dI hy
    ·rw [CM,yF z,jw,Ak,<- Aq,Am (s:=told++_)];show _\/z=y↔_\/z∈[aA n c];rw [dj hy,Ad]
   ·rintro σ H9 ⟨ix,u3,k9,yD,vt,yE,yF,rfl⟩;have l8:=yC.1;rw [Aa,l8,Ca] at yF;refine bo<|bo ⟨ix,told++(ah<|wk n e k).map (aA n),ls++[l],ws++[wk n e k],_,_,_,λb o h1 h2 h=>k9 _ _ h1<|Qy b o h1 h2 h,yD,vt,yE,yF,?_,hf7,hll,Ih,rfl⟩;refine sv.keep ?_ (λa ha o ho=>k9 _ _ ?_ ho) λt p j h=>k9 _ _ (nS h nW λφ z=>nomatch z) h
    ·rw [sv.lst];exact k9 _ _ yz sv.lst
    ·intro q;rw [q,nW] at ho;obtain⟨j,hj⟩:=Bh ha;have hlen:=sv.len;have Ig:j < (ws++[wk n e k]).length:=by have:=(Ac.mp hj).1;omega
     obtain⟨_,b,_⟩:=sv.at' j a _ hj<|Ab Ig;rw [q,nW] at b;cases b
  ·have hz:z∈zs:=Classical.not_not.mp<|JD<|Em.mpr c;refine bo (bo ⟨zs,told,ls,ws,_,_,_,kp,eD,zn,zt,zm,hW,hf,by omega,?_,rfl⟩);rw [vp,nV];show ws++(if aA n e∈told then _ else _)=_;rw [BP<|by rw [dj jh];exact(zm z).mp hz]
 ·rintro σ H' ⟨zs,told,ls,ws,u1,u2,u3,kp,eD,zn,zt,zm,hW,hf,kH,vp,rfl⟩;rw [Aa,HU,List.drop_length] at vp;have Ik:dM n (ends n) []=ws:=by rw [vp];show ws++[]=ws;rw [Be]
  refine bO (ae 5<|q L ls H' (λb o h=>?_) yl (by rw [Ik];exact hW) λl hl=>hV Qs<|hf l hl);exact kp _ _ (bu h qk) (bu h yl)<|Qs _ _ h
end
end E8
namespace nX
open PySem PySem.W PyProof.Rows
section
variable{lt:Nat->Nat->Bool}{cmp:Nat->Nat->(Bool->Shared->Prop)->Shared->Prop}{J:Shared->Prop}{n:Nat}
structure dW(lt:Nat->Nat->Bool)(cmp:Nat->Nat->(Bool->Shared->Prop)->Shared->Prop)(J:Shared->Prop)(n:Nat):Prop where
 ask:∀(i j:Nat) (C:Bool->Shared->Prop) (s:Shared),i < n->j < n->i≠j->J s->(∀ s',J s'->C (lt i j) s')->cmp i j C s
 tot:∀ i j,i < n->j < n->i≠j->lt i j=true\/lt j i=true
 asy:∀ i j,lt i j=true->lt j i=false
 yG:∀ i j k,lt i j=true->lt j k=true->lt i k=true
def g(p:Array Nat)(i:Nat):Nat:=p.getD i 0
structure Pm(p:Array Nat)(n:Nat):Prop where
 size:p.size=n
 lt:∀ i,i < n->g p i < n
 inj:∀ i j,i < n->j < n->g p i=g p j->i=j
theorem jj{p:Array Nat}{i:Nat}{v:Nat}(h:p[i]?=some v):g p i=v:=by
 unfold g;rw [Ds,h];rfl
theorem kh{p q:Array Nat}{i j:Nat}(h:p[i]?=q[j]?):g p i=g q j:=by
 unfold g;rw [Ds,Ds,h]
theorem Qz(n:Nat):Pm (List.toArray<|List.range n) n:=by
 have e:∀ i,i < n->g (List.toArray<|List.range n) i=i:=λi hi=>jj (by simp [hi]);exact⟨by simp,λi hi=>by rw [e i hi];exact hi,λi j hi hj h=>by rw [e i hi,e j hj] at h;exact h⟩
def Up(lt:Nat->Nat->Bool)(p:Array Nat)(m:Nat):Prop:=∀ i j,i < j->j < m->lt (g p i) (g p j)=true
def Dn(lt:Nat->Nat->Bool)(p:Array Nat)(m:Nat):Prop:=∀ i j,i < j->j < m->lt (g p j) (g p i)=true
theorem q92(p:Array Nat):Up lt p 1:=λi j h1 h2=>by omega
theorem q52(A:dW lt cmp J n){p:Array Nat}{m:Nat}(h1:1<=m)(h:Up lt p m)(hm:lt (g p<|m - 1) (g p m)=true):Up lt p (m+1):=λi j hi hj=>by
 by_cases c:j < m
 ·exact h i j hi c
 ·have:j=m:=by omega
  subst this
  by_cases d:i=j - 1
  ·rw [d];exact hm
  ·exact A.yG _ _ _ (h i (j - 1) (by omega)<|by omega) hm
theorem q6h(A:dW lt cmp J n){p:Array Nat}{m:Nat}(h1:1<=m)(h:Dn lt p m)(hm:lt (g p m) (g p<|m - 1)=true):Dn lt p (m+1):=λi j hi hj=>by
 by_cases c:j < m
 ·exact h i j hi c
 ·have:j=m:=by omega
  subst this
  by_cases d:i=j - 1
  ·rw [d];exact hm
  ·exact A.yG _ _ _ hm<|h i (j - 1) (by omega)<|by omega
theorem Il(A:dW lt cmp J n){i j:Nat}(hi:i < n)(hj:j < n)(bB:i≠j)(h:lt i j=false):lt j i=true:=by
 rcases A.tot i j hi hj bB with q | q
 ·rw [h] at q;cases q
 ·exact q
theorem Im(A:dW lt cmp J n){p:Array Nat}(P:Pm p n):∀(f m:Nat) (Q:Nat->Shared->Prop) (s:Shared),1<=m->m+f<=n->Up lt p m->J s ->
  (∀ k s',J s'->m<=k->k<=m+f->Up lt p k->(k < m+f->lt (g p k) (g p<|k - 1)=true)->Q k s')->(kas_asc p f m).kasWp cmp Q s
 | 0,m,Q,s,h1,h2,hu,hJ,k=>k m s hJ (Al _) (Al _) hu λh=>by omega
 | f+1,m,Q,s,h1,h2,hu,hJ,k=>by
  have bB:g p m≠g p (m - 1):=λh=>by have:=P.inj m (m - 1) (by omega) (by omega) h;omega
  refine A.ask _ _ _ _ (P.lt m<|by omega) (P.lt (m - 1)<|by omega) bB hJ λs' gC=>?_;cases e:lt (p.getD m 0) (p.getD (m - 1) 0) with
  | true=>exact k m s' gC (Al _) (by omega) hu λ_=>e
  | false=>
   have vw:Up lt p (m+1):=q52 A h1 hu (Il A (P.lt m<|by omega) (P.lt (m - 1)<|by omega) bB e);exact Im A P f (m+1) Q s' (by omega) (by omega) vw gC λk' s2 j2 a b c d=>k k' s2 j2 (by omega) (by omega) c λh=>d<|by omega
theorem QA(A:dW lt cmp J n){p:Array Nat}(P:Pm p n):∀(f m:Nat) (Q:Array Nat×Nat×Nat->Shared->Prop) (s:Shared),1<=m->m+f<=n->Dn lt p m->J s ->
  (∀ k s',J s'->m<=k->k<=m+f->Dn lt p k->Q (p,k,0) s')->(kas_desc f p m 0).kasWp cmp Q s
 | 0,m,Q,s,h1,h2,hd,hJ,k=>k m s hJ (Al _) (Al _) hd
 | f+1,m,Q,s,h1,h2,hd,hJ,k=>by
  have bB:g p m≠g p (m - 1):=λh=>by have:=P.inj m (m - 1) (by omega) (by omega) h;omega
  refine A.ask _ _ _ _ (P.lt m<|by omega) (P.lt (m - 1)<|by omega) bB hJ λs' gC=>?_;cases e:lt (p.getD m 0) (p.getD (m - 1) 0) with
  | true=>
   show(if true=true then(if 0 > 0 then _ else kas_desc f p (m+1) 0) else _:KasT _).kasWp cmp Q s';rw [BP rfl,BK<|by omega];exact QA A P f (m+1) Q s' (by omega) (by omega) (q6h A h1 hd e) gC λk' s2 j2 a b c=>k k' s2 j2 (by omega) (by omega) c
  | false=>
   refine A.ask _ _ _ _ (P.lt (m - 1)<|by omega) (P.lt m<|by omega) (CK bB) gC λs2 vx=>?_;have e2:lt (p.getD (m - 1) 0) (p.getD m 0)=true:=Il A (P.lt m<|by omega) (P.lt (m - 1)<|by omega) bB e;rw [e2];exact k m s2 vx (Al _) (by omega) hd
theorem vy{p:Array Nat}{m k:Nat}(h:m<=p.size):g (kas_rev p 0 m) k=if k < m then g p (m - 1 - k) else g p k:=by
 have e:=getElem?_mirror_all (xs:=p) (i:=0) (j:=m) h k
 by_cases c:k < m
 ·rw [BP c];rw [BP ⟨Bt _,c⟩] at e;refine kh<|e.trans ?_
  congr 1
  omega
 ·rw [BK c];rw [BK λq=>c q.2] at e;exact kh e
theorem QE{p:Array Nat}{m:Nat}(P:Pm p n)(h:m<=n):Pm (kas_rev p 0 m) n:=by
 have hs:m<=p.size:=by rw [P.size];exact h
 refine⟨by rw [kas_rev_size];exact P.size,λi hi=>?_,λi j hi hj q=>?_⟩
 ·rw [vy hs]
  split
  ·exact P.lt _<|by omega
  ·exact P.lt _ hi
 ·rw [vy hs,vy hs] at q
  by_cases c:i < m <;> by_cases d:j < m
  ·rw [BP c,BP d] at q;have:=P.inj _ _ (by omega) (by omega) q;omega
  ·rw [BP c,BK d] at q;have:=P.inj _ _ (by omega) hj q;omega
  ·rw [BK c,BP d] at q;have:=P.inj _ _ hi (by omega) q;omega
  ·rw [BK c,BK d] at q;exact P.inj _ _ hi hj q
theorem q9e{p:Array Nat}{m:Nat}(P:Pm p n)(h:m<=n)(hd:Dn lt p m):Up lt (kas_rev p 0 m) m:=λi j hi hj=>by
 have hs:m<=p.size:=by rw [P.size];exact h
 rw [vy hs,vy hs,BP (by omega),BP hj];exact hd (m - 1 - j) (m - 1 - i) (by omega)<|by omega
theorem q2p(A:dW lt cmp J n){p:Array Nat}(P:Pm p n){m:Nat}{Q:Nat×Array Nat->Shared->Prop}{s:Shared}(h1:1<=m)(h2:m<=n)(hd:Dn lt p m)(hJ:J s)
  (k:∀ r q s',J s'->1<=r->r<=n->Pm q n->Up lt q r->Q (r,q) s'):(kas_tail3 m n p).kasWp cmp Q s:=by
 unfold kas_tail3;rw [JV];exact Im A (QE P h2) (n - m) m _ s h1 (by omega) (q9e P h2 hd) hJ λr s' j a b c _=>k r _ s' j (by omega) (by omega) (QE P h2) c
theorem q1d(A:dW lt cmp J n){p:Array Nat}(P:Pm p n){Q:Nat×Array Nat->Shared->Prop}{s:Shared}(h2:2<=n)(hJ:J s)
  (k:∀ r q s',J s'->1<=r->r<=n->Pm q n->Up lt q r->Q (r,q) s'):(kas_count n p).kasWp cmp Q s:=by
 unfold kas_count;rw [JV];refine Im A P (n - 1) 1 _ s (Al _) (by omega) (q92 p) hJ λm s' gC m1 m2 hu vz=>?_
 by_cases c:m=n
 ·subst c;rw [BP<|by simp];exact k m p s' gC m1 (Al _) P hu
 ·rw [BK<|by simpa using c]
  by_cases d:m > 1
  ·rw [BP d];have bB:g p 0≠g p (m - 1):=λh=>by have:=P.inj 0 (m - 1) (by omega) (by omega) h;omega
   refine A.ask _ _ _ _ (P.lt 0<|by omega) (P.lt (m - 1)<|by omega) bB gC λs2 vx=>?_;have e:lt (p.getD 0 0) (p.getD (m - 1) 0)=true:=hu 0 (m - 1) (by omega) (by omega);rw [e];exact k m p s2 vx m1 (by omega) P hu
  ·rw [BK d];have em:m=1:=by omega
   subst em;unfold kas_descPart;rw [JV];have hl:=vz (by omega);have hd2:Dn lt p 2:=λi j hi hj=>by
    have:i=0/\j=1:=by omega
    rw [this.1,this.2];exact hl
   refine QA A P (n - (1+1)) (1+1) _ s' (by omega) (by omega) hd2 gC λr s2 vx r1 r2 hd=>?_;show(if(0:Nat) > 0 then _ else kas_tail3 r n p:KasT _).kasWp cmp Q s2;rw [BK<|by omega];exact q2p A P (by omega) (by omega) hd vx k
theorem Io(A:dW lt cmp J n){p:Array Nat}(P:Pm p n){k:Nat}(hk:k < n)(hu:Up lt p k):∀(f l r:Nat) (Q:Nat->Shared->Prop) (s:Shared),r<=k->l<=r->r - l<=f->J s->(∀ i,i < l->lt (g p i) (g p k)=true)->(∀ i,r<=i->i < k->lt (g p k) (g p i)=true) ->
  (∀ m s',J s'->m<=k->(∀ i,i < m->lt (g p i) (g p k)=true)->(∀ i,m<=i->i < k->lt (g p k) (g p i)=true)->Q m s')->(kas_place p k f l r).kasWp cmp Q s
 | 0,l,r,Q,s,h1,h2,h3,hJ,ha,hb,q=>q l s hJ (by omega) ha λi hi=>hb i<|by omega
 | f+1,l,r,Q,s,h1,h2,h3,hJ,ha,hb,q=>by
  unfold kas_place
  by_cases c:l>=r
  ·rw [BP c];exact q l s hJ (by omega) ha λi hi=>hb i<|by omega
  ·rw [BK c];have hmk:(l+r) / 2 < k:=by omega
   have bB:g p k≠g p ((l+r) / 2):=λh=>by have:=P.inj k _ hk (by omega) h;omega
   refine A.ask _ _ _ _ (P.lt k hk) (P.lt _<|by omega) bB hJ λs' gC=>?_;cases e:lt (p.getD k 0) (p.getD ((l+r) / 2) 0) with
   | true=>
    show(kas_place p k f l<|(l+r) / 2).kasWp cmp Q s';refine Io A P hk hu f l ((l+r) / 2) Q s' (by omega) (by omega) (by omega) gC ha (λi hi QH=>?_) q
    by_cases d:i=(l+r) / 2
    ·rw [d];exact e
    ·exact A.yG _ _ _ e<|hu _ _ (by omega) QH
   | false=>
    show(kas_place p k f ((l+r) / 2+1) r).kasWp cmp Q s';have e2:=Il A (P.lt k hk) (P.lt _<|by omega) bB e;refine Io A P hk hu f ((l+r) / 2+1) r Q s' h1 (by omega) (by omega) gC (λi hi=>?_) hb q
    by_cases d:i=(l+r) / 2
    ·rw [d];exact e2
    ·exact A.yG _ _ _ (hu _ _ (by omega) hmk) e2
theorem vA{p:Array Nat}{k m i:Nat}(hk:k < p.size)(hm:m<=k):g (bubble p k<|k - m) i=if i=m then g p k else if m < i/\i<=k then g p (i - 1) else g p i:=by
 have e:=getElem?_bubble (xs:=p) hk (k - m) (by omega) i;rw [show k - (k - m)=m by omega] at e
 by_cases c:i=m
 ·rw [BP c];rw [BP c] at e;exact kh e
 ·rw [BK c];rw [BK c] at e
  by_cases d:m < i/\i<=k
  ·rw [BP d];rw [BP d] at e;exact kh e
  ·rw [BK d];rw [BK d] at e;exact kh e
theorem q7v{p:Array Nat}{k m:Nat}(P:Pm p n)(hk:k < n)(hm:m<=k):Pm (bubble p k<|k - m) n:=by
 have hs:k < p.size:=by rw [P.size];exact hk
 refine⟨by rw [bubble_size];exact P.size,λi hi=>?_,λi j hi hj q=>?_⟩
 ·rw [vA hs hm]
  split
  ·exact P.lt k hk
  ·split
   ·exact P.lt _<|by omega
   ·exact P.lt _ hi
 ·rw [vA hs hm,vA hs hm] at q;have src:∀ a,a < n->∃ b,b < n/\(if a=m then g p k else if m < a/\a<=k then g p (a - 1) else g p a)=g p b/\((a=m/\b=k)\/(a≠m/\(m < a/\a<=k)/\b=a - 1)\/(a≠m/\¬(m < a/\a<=k)/\b=a)):=λa ha=>by
   by_cases c:a=m
   ·exact⟨k,hk,by rw [BP c],.inl ⟨c,rfl⟩⟩
   ·by_cases d:m < a/\a<=k
    ·exact⟨a - 1,by omega,by rw [BK c,BP d],.inr<|.inl ⟨c,d,rfl⟩⟩
    ·exact⟨a,ha,by rw [BK c,BK d],.inr<|.inr ⟨c,d,rfl⟩⟩
  obtain⟨x,x1,x2,x3⟩:=src i hi;obtain⟨y,y1,y2,y3⟩:=src j hj;rw [x2,y2] at q;have e:=P.inj x y x1 y1 q;subst e
  rcases x3 with ⟨a1,a2⟩ | ⟨a1,a2,a3⟩ | ⟨a1,a2,a3⟩
  ·rcases y3 with ⟨b1,b2⟩ | ⟨b1,b2,b3⟩ | ⟨b1,b2,b3⟩
   ·exact a1.trans b1.symm
   ·exact absurd (a2.symm.trans b3)<|Cs<|Bg (Nat.sub_lt (Gf b2.1) Fm) b2.2
   ·exact absurd ⟨Fz (by rw [<- b3,a2];exact hm)<|CK b1,by rw [<- b3,a2];exact Al _⟩ b2
  ·rcases y3 with ⟨b1,b2⟩ | ⟨b1,b2,b3⟩ | ⟨b1,b2,b3⟩
   ·exact absurd (b2.symm.trans a3)<|Cs<|Bg (Nat.sub_lt (Gf a2.1) Fm) a2.2
   ·exact Nat.sub_one_cancel (Gf a2.1) (Gf b2.1)<|a3.symm.trans b3
   ·exact absurd ⟨Fz (by rw [<- b3,a3];exact Nat.le_sub_one_of_lt a2.1)<|CK b1,by rw [<- b3,a3];exact By (Nat.sub_le _ _) a2.2⟩ b2
  ·rcases y3 with ⟨b1,b2⟩ | ⟨b1,b2,b3⟩ | ⟨b1,b2,b3⟩
   ·exact absurd ⟨Fz (by rw [<- a3,b2];exact hm)<|CK a1,by rw [<- a3,b2];exact Al _⟩ a2
   ·exact absurd ⟨Fz (by rw [<- a3,b3];exact Nat.le_sub_one_of_lt b2.1)<|CK a1,by rw [<- a3,b3];exact By (Nat.sub_le _ _) b2.2⟩ a2
   ·exact a3.symm.trans b3
theorem q9r{p:Array Nat}{k m:Nat}(P:Pm p n)(hk:k < n)(hm:m<=k)(hu:Up lt p k)(ha:∀ i,i < m->lt (g p i) (g p k)=true)(hb:∀ i,m<=i->i < k->lt (g p k) (g p i)=true):Up lt (bubble p k<|k - m) (k+1):=λi j hi hj=>by
 have hs:k < p.size:=by rw [P.size];exact hk
 rw [vA hs hm,vA hs hm]
 by_cases c:i=m
 ·rw [BP c,BK (by omega),BP<|by omega];exact hb _ (by omega)<|by omega
 ·rw [BK c]
  by_cases d:j=m
  ·rw [BP d,BK<|by omega];exact ha i<|by omega
  ·rw [BK d]
   by_cases e:m < i/\i<=k
   ·rw [BP e,BP<|by omega];exact hu _ _ (by omega)<|by omega
   ·rw [BK e]
    by_cases f:m < j/\j<=k
    ·rw [BP f];exact hu _ _ (by omega)<|by omega
    ·rw [BK f];exact hu _ _ hi<|by omega
theorem QI(A:dW lt cmp J n):∀(f:Nat) (p:Array Nat) (k:Nat) (Q:Array Nat->Shared->Prop) (s:Shared),Pm p n->1<=k->k+f=n->Up lt p k->J s->(∀ q s',J s'->Pm q n->Up lt q n->Q q s')->(kas_bin f p k).kasWp cmp Q s
 | 0,p,k,Q,s,P,h1,h2,hu,hJ,q=>by
  have:k=n:=by omega
  subst this;exact q p s hJ P hu
 | f+1,p,k,Q,s,P,h1,h2,hu,hJ,q=>by
  unfold kas_bin;rw [JV];refine Io A P (by omega) hu k 0 k _ s (Al _) (Bt _) (by omega) hJ (λi hi=>by omega) (λi hi QH=>by omega) λm s' gC hm ha hb=>?_;exact QI A f _ (k+1) Q s' (q7v P (by omega) hm) (by omega) (by omega) (q9r P (by omega) hm hu ha hb) gC q
theorem q3m(A:dW lt cmp J n){Q:Array Nat->Shared->Prop}{s:Shared}(h2:2<=n)(hJ:J s)(q:∀ p s',J s'->Pm p n->Up lt p n->Q p s'):(kas_sort n).kasWp cmp Q s:=by
 unfold kas_sort;rw [JV];refine q1d A (Qz n) h2 hJ λr p s' gC r1 r2 P hu=>?_;show(if r < n then kas_bin (n - max r 1) p (max r 1) else .ret p:KasT _).kasWp cmp Q s';have em:max r 1=r:=by omega
 rw [em]
 by_cases c:r < n
 ·rw [BP c];exact QI A (n - r) p r Q s' P r1 (by omega) hu gC q
 ·rw [BK c];have:r=n:=by omega
  subst this;exact q p s' gC P hu
end
theorem QN{p:Array Nat}{n:Nat}(P:Pm p n):p.toList.Nodup:=by
 rw [Cn,Bs];intro i j hi hj eQ e;have xh:i < n:=by rw [Br,P.size] at hi;exact hi
 have oX:j < n:=by rw [Br,P.size] at hj;exact hj
 have e1:g p i=p.toList[i]:=jj (by rw [<- Bq];exact Ab hi);have e2:g p j=p.toList[j]:=jj (by rw [<- Bq];exact Ab hj);have:=P.inj i j xh oX (by rw [e1,e2,e]);omega
theorem Ip{p:Array Nat}{n v:Nat}(P:Pm p n)(h:v∈p.toList):v < n:=by
 obtain⟨i,hi⟩:=Bh h;have hl:i < n:=by have:=(Ac.mp hi).1;rw [Br,P.size] at this;exact this
 have e1:g p i=v:=jj (by rw [<- Bq];exact hi);rw [<- e1];exact P.lt i hl
theorem q5f{p:Array Nat}{n:Nat}(P:Pm p n):p.toList.Perm (List.range n):=by
 rw [Fj (QN P) RJ];intro v;rw [Bp];refine⟨λh=>Ip P h,λh=>DR λhn=>?_⟩;have l1:p.toList.length<=((List.range n).erase v).length:=Nt.aX (QN P) λz hz=>by
  have bB:z≠v:=λe=>hn<|e ▸ hz;exact(Fk bB).mpr<|Bp.mpr<|Ip P hz
 rw [Ft<|Bp.mpr h,Br,P.size,Fh] at l1;omega
def Hd(h:Heap)(v:Value)(z:Str):Prop:=∃ a o xs n t,v = .ref a/\h.get? a=some o/\o.cls = .type "tuple"/\o.data = .seq xs n/\xs[0]?=some (.str z t)
theorem Hd.keep{h h':Heap}{v:Value}{z:Str}(x:Hd h v z)(k:∀ a o,v = .ref a->h.get? a=some o->h'.get? a=some o):Hd h' v z:=by
 obtain⟨a,o,xs,n,t,e,h1,h2⟩:=x;exact⟨a,o,xs,n,t,e,k a o e h1,h2⟩
def qt(h:Heap)(vs:List Value)(zs:List Str):Prop:=vs.length=zs.length/\∀(i:Nat) v z,vs[i]?=some v->zs[i]?=some z->Hd h v z
def ltZ(zs:List Str)(i j:Nat):Bool:=decide ((zs.getD i ⟨#[]⟩).cps.toList < (zs.getD j ⟨#[]⟩).cps.toList)
section
variable{prog:Program}{w:World}{A:Around}{E:Value->Shared->Prop}{s:Shared}
theorem QO:∀{h:Heap} {vs:List Value} {zs:List Str},qt h vs zs->∃ fs,KatTups h vs fs/\fs.length=vs.length/\∀ f∈fs,∃ z t,f=Value.str z t
 | h,[],_,_=>⟨[],KatTups.nil,rfl,λf hf=>by cases hf⟩
 | h,v :: vs,[],hh=>by have:=hh.1;simp at this
 | h,v :: vs,z :: zs,hh=>by
  obtain⟨fs,k1,k2,k3⟩:=QO (h:=h) (vs:=vs) (zs:=zs) ⟨by have:=hh.1;simpa using this,λi a b h1 h2=>hh.2 (i+1) a b (by simpa using h1)<|by simpa using h2⟩;obtain⟨a,o,xs,n,t,rfl,h1,h2,h3,h4⟩:=hh.2 0 v z rfl rfl;refine⟨.str z t :: fs,KatTups.cons h1 h2 h3 h4 k1,by rw [As,As,k2],λf hf=>?_⟩
  rcases Ai.mp hf with rfl | hf
  ·exact⟨z,t,rfl⟩
  ·exact k3 f hf
theorem q8w{x y:Value}{z u:Str}{Q:Bool->Shared->Prop}(hx:Hd s.heap x z)(hy:Hd s.heap y u)(bB:z≠u)(h:Q (decide (z.cps.toList < u.cps.toList)) s):wpAny (model prog w) A (keyLt' (tuples' true) x y) Q E s:=by
 obtain⟨a,o,xs,n,t,rfl,h1,h2,h3,h4⟩:=hx;obtain⟨b,o',ys,n',t',rfl,g1,g2,g3,g4⟩:=hy;refine kat_lt h1 h3 g1 g3 ?_;have ex:∃ r,xs.toList = .str z t :: r:=by
  have:xs.toList[0]?=some (.str z t):=by rw [Bq];exact h4
  cases e:xs.toList with
  | nil=>rw [e] at this;cases this
  | cons c r=>rw [e] at this;cases this;exact⟨r,rfl⟩
 have ey:∃ r,ys.toList = .str u t' :: r:=by
  have:ys.toList[0]?=some (.str u t'):=by rw [Bq];exact g4
  cases e:ys.toList with
  | nil=>rw [e] at this;cases this
  | cons c r=>rw [e] at this;cases this;exact⟨r,rfl⟩
 obtain⟨rx,ex⟩:=ex;obtain⟨ry,ey⟩:=ey;rw [ex,ey];show KatLex prog w A true _ Q ((.str z t,.str u t') :: rx.zip ry) 0 s;refine kat_cons<|eqBool_str ?_;have:(z == u)=false:=beq_eq_false_iff_ne.mpr bB;rw [this];exact kat_no<|oneLt_str h
theorem q6g{a b:Str}(h:a.cps.toList=b.cps.toList):a=b:=by
 apply Str.ext';exact Array.toList_inj.mp h
theorem q0j{vs:List Value}{zs:List Str}(hh:qt s.heap vs zs)(hn:zs.Nodup):dW (ltZ zs) (kas_ask prog w A (tuples' true) vs) (λs'=>s'=s) vs.length:=by
 have hl:=hh.1;have gz:∀ i,(hi:i < zs.length)->zs.getD i ⟨#[]⟩=zs[i]:=λi hi=>by simp [hi]
 have gv:∀ i,(hi:i < vs.length)->vs.getD i Value.none=vs[i]:=λi hi=>by simp [hi]
 have ne:∀ i j,(hi:i < zs.length)->(hj:j < zs.length)->i≠j->zs[i]≠zs[j]:=λi j hi hj eQ e=>by
  rcases Nat.lt_or_gt_of_ne eQ with c | c
  ·exact Bs.mp (Cn.mp hn) i j hi hj c e
  ·exact Bs.mp (Cn.mp hn) j i hj hi c e.symm
 refine⟨λi j C s' hi hj eQ hs hC=>?_,λi j hi hj eQ=>?_,λi j h=>?_,λi j k h1 h2=>?_⟩
 ·subst hs;unfold kas_ask;rw [gv i hi,gv j hj];have e:ltZ zs i j=decide (zs[i].cps.toList < zs[j].cps.toList):=by unfold ltZ;rw [gz i (by omega),gz j<|by omega]
  refine q8w (hh.2 i _ zs[i] (Ab hi)<|Ab<|by omega) (hh.2 j _ zs[j] (Ab hj)<|Ab<|by omega) (ne i j (by omega) (by omega) eQ) ?_;rw [<- e];exact hC s' rfl
 ·unfold ltZ;rw [gz i (by omega),gz j (by omega),CJ,CJ]
  by_cases c:zs[i].cps.toList < zs[j].cps.toList
  ·exact .inl c
  ·by_cases d:zs[j].cps.toList < zs[i].cps.toList
   ·exact .inr d
   ·have:zs[i].cps.toList=zs[j].cps.toList:=List.le_antisymm (List.not_lt.mp d)<|List.not_lt.mp c;exact absurd (q6g this)<|ne i j (by omega) (by omega) eQ
 ·unfold ltZ at h ⊢;have:=BX h;exact BR λq=>Ge _<|Gk this q
 ·unfold ltZ at h1 h2 ⊢;exact BW<|Gk (BX h1)<|BX h2
theorem map_range(vs:List Value):(List.range vs.length).map (λi=>vs.getD i Value.none)=vs:=by
 apply RK
 ·simp
 ·intro i h1 h2;simp [h2]
theorem q1x{a:Addr}{vs:List Value}{zs:List Str}{n:Nat}{P:Fin->Shared->Prop}(ho:s.heap.get? a=some (seqObj "list" vs.toArray n))(bY:∀ v∈vs,v ≠ .ref a)(hh:qt s.heap vs zs)(hn:zs.Nodup)(ph:vs.length < 64)
  (h:∀ p:Array Nat,Pm p vs.length->Up (ltZ zs) p vs.length->P (.done<|.ret .none) {s with heap:=sortedHeap s.heap a vs (List.toArray<|p.toList.map λi=>vs.getD i Value.none)}) :
  wpAny (model prog w) A (Builtin.«list.sort» ⟨[.ref a],[]⟩) P E s:=by
 rw [list_sort_plain];have ha:a < s.heap.objs.size:=Au ho;have QP:vs.length<=sizeLine:=by rw [DX];omega
 refine BJ<|OJ ho rfl ?_;refine BJ<|LQ ho rfl ?_;obtain⟨e1,lT⟩:∃ e1,(s.heap.update a<|Obj.mapSeq λ_=>#[]).get? a=some (seqObj "list" #[] e1):=⟨_,get?_update_seq ho λ_=>#[]⟩;refine BJ<|QC lT rfl ?_;refine BJ<|PX ?_;refine BJ<|JQ ?_;refine CG ?_;have pq:(((s.heap.update a<|Obj.mapSeq λ_=>#[]).push<|seqObj "tuple" vs.toArray 0).push<|seqObj "list" #[] 0).get? a=some (seqObj "list" #[] e1):=Ag _<|Ag _ lT;show wpAny (model prog w) A _ P E {s with heap:=((s.heap.update a<|Obj.mapSeq λ_=>#[]).push<|seqObj "tuple" vs.toArray 0).push (seqObj "list" #[] 0)};have QQ:qt (((s.heap.update a<|Obj.mapSeq λ_=>#[]).push<|seqObj "tuple" vs.toArray 0).push<|seqObj "list" #[] 0) vs zs:=⟨hh.1,λi v z h1 h2=>(hh.2 i v z h1 h2).keep λb o e q=>by
  have hb:a≠b:=λe2=>bY v (Ap h1) (by rw [e,e2]);exact Ag _<|Ag _<|(Cd _ _ hb).trans q⟩
 dsimp only
 have hsz:vs.toArray.size=vs.length:=by simp
 by_cases h2:vs.toArray.size < 2
 ·rw [BP h2,BP h2];refine BJ<|BL ?_;rw [StateT.run_pure];refine BJ<|BL ?_
  dsimp only
  have e5:(arrOf<|SortSt.mk' general' (vs.toArray.zip vs.toArray) #[] 7 none).map (·.2)=vs.toArray:=by
   show(vs.toArray.zip vs.toArray).map (·.2)=_;apply Array.toList_inj.mp;simp [List.map_snd_zip]
  refine BJ<|QC pq rfl ?_;refine BJ (LQ pq rfl ?_ (hsz2:=by rw [e5,hsz];omega));simp only [FW,Bb,CV];refine BL ?_;rw [e5];have fin:=h (List.toArray<|List.range vs.length) (Qz _) λi j hi hj=>by rw [hsz] at h2;omega
  have e6:(List.toArray<|List.range vs.length).toList.map (λi=>vs.getD i Value.none)=vs:=map_range vs;rw [e6] at fin;exact fin
 ·rw [BK h2,BK h2];obtain⟨fs,k1,k2,k3⟩:=QO QQ;rw [hsz] at h2;refine BJ<|kat_kind (T:= .type "str") k1 (by omega) (λf hf=>?_) (by decide) ?_
  ·obtain⟨z,t,rfl⟩:=k3 f hf;exact Looks.of_pure rfl
  refine BJ<|CT (kat_run (prog:=prog) (w:=w) (A:=A) (E:=E) (κ:=tuples' true) (ks:=vs) (vs:=vs) (Q:=λdA s'=>s'={s with heap:=((s.heap.update a<|Obj.mapSeq λ_=>#[]).push<|seqObj "tuple" vs.toArray 0).push (seqObj "list" #[] 0)}/\∃ p:Array Nat,Pm p vs.length/\Up (ltZ zs) p vs.length/\arrOf dA=p.map (kas_item<|vs.toArray.zip vs.toArray)/\failedOf dA=none)
   (G:=λp s'=>s'={s with heap:=((s.heap.update a<|Obj.mapSeq λ_=>#[]).push<|seqObj "tuple" vs.toArray 0).push (seqObj "list" #[] 0)}/\Pm p vs.length/\Up (ltZ zs) p vs.length) rfl (by omega) ph (λp dA s' _ a2 a3 a4=>⟨a4.1,p,a4.2.1,a4.2.2,a2,a3⟩)
   (q3m (q0j (s:={s with heap:=((s.heap.update a<|Obj.mapSeq λ_=>#[]).push<|seqObj "tuple" vs.toArray 0).push (seqObj "list" #[] 0)}) QQ hn) (by omega) rfl λp s' e P U=>⟨e,P,U⟩)) ?_ λ_ _ e=>e
  rintro ⟨⟨⟩,dA⟩ s' ⟨rfl,p,P,U,xj,hf⟩
  dsimp only
  have e3:=kat_snds (ks:=vs) (vs:=vs) rfl xj;refine BJ<|QC pq rfl ?_;refine BJ (LQ pq rfl ?_ (hsz2:=by rw [e3,Aw,Aa,Br,P.size];omega));rw [hf];simp only [FW,Bb,CV];refine BL ?_;rw [e3];exact h p P U
theorem q4r{l:Addr}{vs:List Value}{zs:List Str}{Q:Value->Shared->Prop}(hl:s.heap.IsList l vs.toArray)(hh:qt s.heap vs zs)(hn:zs.Nodup)(ph:vs.length < 64)
  (h:∀(h':Heap) (e:Nat) (p:Array Nat),Pm p vs.length->Up (ltZ zs) p vs.length->(∀ b u,s.heap.get? b=some u->h'.get? b=some u)->h'.get? (s.heap.objs.size+1)=some (seqObj "list" (List.toArray<|p.toList.map λi=>vs.getD i Value.none) e)->Q (.ref<|s.heap.objs.size+1) {s with heap:=h'}) :
  wpAny (model prog w) A (call (.builtin "sorted") [.ref l]) Q E s:=by
 have QP:vs.length<=sizeLine:=by rw [DX];omega
 refine Calls.call_function_entry kind_sorted plain_sorted entry_sorted (args_sorted1 _) ?_;unfold Builtin.«sorted»;refine BJ (m:=checkCount "sorted" 1 1 _)<|BL ?_;refine BJ<|collect_list (vs:=vs) hl ?_;refine BJ<|JQ ?_;have hsz:((s.heap.push<|seqObj "list" #[] 0).update s.heap.objs.size (Obj.mapSeq (·++vs.toArray))).objs.size=s.heap.objs.size+1:=by
  rw [Heap.size_update,size_push']
 have jB:(((s.heap.push<|seqObj "list" #[] 0).update s.heap.objs.size (Obj.mapSeq (·++vs.toArray))).push<|seqObj "list" vs.toArray 0).get? (s.heap.objs.size+1)=some (seqObj "list" vs.toArray 0):=by
  rw [<- hsz];exact At _ rfl
 have hhL:qt (((s.heap.push<|seqObj "list" #[] 0).update s.heap.objs.size (Obj.mapSeq (·++vs.toArray))).push<|seqObj "list" vs.toArray 0) vs zs:=⟨hh.1,λi v z h1 h2=>(hh.2 i v z h1 h2).keep λb o e q=>
  Ag _ ((Cd _ _<|Cs<|Au q).trans<|Ag _ q)⟩
 have bB:∀ v∈vs,v ≠ .ref (s.heap.objs.size+1):=λv hv e=>by
  obtain⟨i,hi⟩:=Bh hv;have hl:=hh.1;have hiz:i < zs.length:=by have:=(Ac.mp hi).1;omega
  obtain⟨b,o,xs,n,t,e2,h1,_⟩:=hh.2 i v zs[i] hi<|Ab hiz;rw [e2] at e;cases e;exact absurd (Nat.lt_of_succ_lt<|Au h1)<|Cz _
 show wpAny _ _ _ _ _ {s with heap:=((s.heap.push<|seqObj "list" #[] 0).update s.heap.objs.size (Obj.mapSeq (·++vs.toArray))).push (seqObj "list" vs.toArray 0)};rw [hsz];refine BJ<|CG<|DG slot_list_sort ⟨_,jB,rfl⟩ entry_list_sort (q1x jB bB hhL hn ph λp P U=>⟨_,rfl,?_⟩)<|args_list_sort _;obtain⟨e,he⟩:=sortedAll_at s.heap vs<|List.toArray<|p.toList.map λi=>vs.getD i Value.none;exact BL ⟨_,rfl,h _ e p P U (λb u hb=>sortedAll_old hb) he⟩
end
end nX
namespace L2
open PySem PySem.Spec PyProof.Rows nX
theorem QR:∀{ts:List Addr} {its:List Value},aw (ts.map V.ref) its->its=ts.map Value.ref
 | [],its,r=>r.zero
 | t :: ts,its,r=>by
  cases r with
  | cons h1 h2=>
   rw [QR h2];have:_=Value.ref t:=h1;rw [this];rfl
theorem QU:∀(ts:List Addr),aw (ts.map V.ref)<|ts.map Value.ref
 | []=> .nil
 | t :: ts=> .cons rfl (QU ts)
theorem k80{α β:Type}(xs:List α)(ys:List β)(h:xs.length=ys.length)(a:α)(b:β):(List.range xs.length).map (λi=>(xs.getD i a,ys.getD i b))=xs.zip ys:=by
 apply RK
 ·simp [h]
 ·intro i h1 h2;have hx:i < xs.length:=by simp at h1;exact h1
  have hy:i < ys.length:=by omega
  simp [hx,hy]
section
variable{X:Cx}{σ:St}{H:Hp}
theorem k1b:fT X (.builtin "sorted") (λxs H Q=>∃(l:Addr) (ts:List Addr) (zs:List Str),xs=[.ref l]/\aq X.K H l (ts.map V.ref)/\ts.length=zs.length/\zs.Nodup/\ts.length < 64/\(∀(i:Nat) t z,ts[i]?=some t->zs[i]?=some z->∃ r,H t=some (.tup<|.str z :: r)) /\
  ∀(r:Addr) (ps:List<|Addr×Str),H r=none->ps.Perm (ts.zip zs)->ps.Pairwise (λa b=>a.2.cps.toList < b.2.cps.toList)->Q (.ref r) (upd H r<|.lst<|ps.map λp=> .ref p.1)):=by
 intro pins s σ H xs us Q I r h;obtain⟨l,ts,zs,rfl,hl,hlen,hn,ph,hd,q⟩:=h;obtain⟨u,rfl,ru⟩:=vals1 r;cases (show u=Value.ref l from ru);obtain⟨its,rv,pl,_⟩:=I.list hl;have ei:=QR rv;subst ei;have hh:qt s.heap (ts.map Value.ref) zs:=by
  refine⟨by rw [Aa];exact hlen,λi v z h1 h2=>?_⟩;rw [Aj,Az] at h1;obtain⟨t,ht,rfl⟩:=h1;obtain⟨rr,hr⟩:=hd i t z ht h2;obtain⟨its,r3,tp,_⟩:=I.tuple<|aI.of hr;cases r3 with
  | cons a1 a2=>
   obtain⟨tk,rfl⟩:=a1;obtain⟨o,ho,hc,n,hd2⟩:=tp;exact⟨t,o,_,n,tk,rfl,ho,hc,hd2,rfl⟩
 refine q4r pl.isList hh hn (by rw [Aa];exact ph) λh' e p P U kp he=>?_;rw [Aa] at P U;have gp:∀ i,i < ts.length->g p i < ts.length:=P.lt;have pl2:p.toList.length=ts.length:=by rw [Br];exact P.size
 have e1:(p.toList.map λi=>(ts.map Value.ref).getD i Value.none)=((p.toList.map λi=>(ts.getD i 0,zs.getD i ⟨#[]⟩)).map λx=>x.1).map Value.ref:=by
  rw [Cb,Cb];refine Ao λi hi=>?_;have aY:=Ip P hi;show(ts.map Value.ref).getD i Value.none=Value.ref (ts.getD i 0);simp [aY]
 refine⟨.ref _,_,I.eZ (s':={s with heap:=h'}) kp rfl rfl (Ek _) (show aC X.prog X.w _ h' _ (.lst<|(p.toList.map λi=>(ts.getD i 0,zs.getD i ⟨#[]⟩)).map λx=>V.ref x.1) from ?_),rfl,q _ (p.toList.map λi=>(ts.getD i 0,zs.getD i ⟨#[]⟩)) (I.aH.fresh<|Ek _) ?_ ?_⟩
 ·refine⟨by rw [Aa,Aa,pl2,DX];omega,_,e,?_,he⟩;rw [e1];have:=QU<|(p.toList.map λi=>(ts.getD i 0,zs.getD i (⟨#[]⟩:Str))).map λx=>x.1;rw [Cb] at this;exact this
 ·rw [<- k80 ts zs hlen 0 ⟨#[]⟩];exact(q5f P).map _
 ·rw [Bs];intro i j hi hj eQ;rw [Aa] at hi hj;have:=U i j eQ (by omega);have q1:g p i=p.toList[i]:=jj (by rw [<- Bq];exact Ab hi);have q2:g p j=p.toList[j]:=jj (by rw [<- Bq];exact Ab hj);rw [q1,q2] at this;rw [Dq,Dq];exact BX this
theorem k59{e1 e2 e3:Expr}{k:Nat}{pos:Pos}{t:Addr}{x y z:V}{R:St->Hp->Prop}(hc:X.calm=true)(ht:aI X.K H t [x,y,z])(h:Eg X e1 x σ H λσ1 H1=>Eg X e2 y σ1 H1 λσ2 H2=>Eg X e3 z σ2 H2 R)
  (hn:(assignEach [e1,e2,e3] X.env).length=3:=by rfl) (db:(assignEach [e1,e2,e3] X.env).findIdx? (·.1)=none:=by rfl)
  (jr:(assignEach [e1,e2,e3] X.env).map (·.2)=assign e1 X.env :: (assignEach [e2,e3] X.env).map (·.2):=by rfl) (rF:(assignEach [e2,e3] X.env).map (·.2)=assign e2 X.env :: (assignEach [e3] X.env).map (·.2):=by rfl) (xa:(assignEach [e3] X.env).map (·.2)=assign e3 X.env :: (assignEach [] X.env).map (·.2):=by rfl) :
  Eg X (.Tuple [e1,e2,e3] k pos) (.ref t) σ H R:=
 A9 (Lh (t:=qR (λv σ H Q=>Eg X e1 v σ H Q)<|qR (λv σ H Q=>Eg X e2 v σ H Q)<|qR (λv σ H Q=>Eg X e3 v σ H Q) oq) hc (sS oQ (sS oQ (sS oQ Lg xa) rF) jr) hn db)
  ⟨t,_,rfl,ht,rfl,_,_,rfl,h.mono λσ1 H1 h1=>⟨_,_,rfl,h1.mono λσ2 H2 h2=>⟨_,_,rfl,h2.mono λσ3 H3 q=>⟨rfl,q⟩⟩⟩⟩
end
end L2
namespace E8
open PySem L2 Nt bC
abbrev T3(x:Lk):HO:= .tup [.str x.1,.str x.2.1,.str x.2.2]
def mG(H:Hp)(us:List Addr)(ls:List Lk):Prop:=us.length=ls.length/\∀(j:Nat) u x,us[j]?=some u->ls[j]?=some x->H u=some (T3 x)
theorem mG.keep{H H':Hp}{us:List Addr}{ls:List Lk}(h:mG H us ls)(k:∀ t xs,H t=some (.tup xs)->H' t=some (.tup xs)):mG H' us ls:=⟨h.1,λj u x h1 h2=>k _ _<|h.2 j u x h1 h2⟩
theorem mG.snoc{H:Hp}{us:List Addr}{ls:List Lk}{u:Addr}{x:Lk}(h:mG H us ls)(hu:H u=some (T3 x)):mG H (us++[u]) (ls++[x]):=by
 refine⟨by rw [Af,Af,h.1];rfl,λj v y h1 h2=>?_⟩;have hl:=h.1
 by_cases hj:j < us.length
 ·rw [Ar hj] at h1;rw [Ar<|by omega] at h2;exact h.2 j v y h1 h2
 ·rw [Ay<|by omega] at h1 h2;have fN:j - us.length=0:=by
   have:=(Ac.mp h1).1;simp at this;omega
  rw [fN] at h1;rw [<- hl,fN] at h2;cases h1;cases h2;exact hu
def yH(ls:List Lk):Prop:=ls.Pairwise λx y=>x.1.cps.toList < y.1.cps.toList
def Iq:Sp:=λvs H Q _=>∃(R:Addr) (as:List<|Addr×Addr) (n:Net),vs=[.ref R]/\ao H R as n/\av n/\n.length<=1000/\(ag n).length<=60 /\
 ∀(L:Addr) (us:List Addr) (ls:List Lk) (H':Hp),au H H'->H L=none->H' L=some (.lst<|us.map V.ref)->mG H' us ls->yH ls->(∀ x,x∈ls↔nI n x)->ls.length<=60->Q (.ref L) H'
theorem q03{n:Net}(T:av n){r p:Nat}{z:Str}(hr:r < n.length)(hz:(row n r)[p]?=some z):(bL (bh (n.take r)++bq r ((row n r).take p) 0) z).length<=1:=by
 obtain⟨rest,h⟩:=uL hr hz;have h1:bL (bh n) z=bL (bh (n.take r)++bq r ((row n r).take p) 0) z++(r,p) :: bL rest z:=by
  rw [h];unfold bL;rw [Cq,Ak,RT<|by simp];rfl
 have h2:(bL (bh n) z).length=2:=by
  have:=pv n z;rw [T z<|dI (e:=(r,p)) hz] at this;exact this
 rw [h1,Af,As] at h2;omega
section
variable{P:Program}{w:World}{K:PySem.W.Frag}{mg:Str->Option Value}{base:Heap}
abbrev NLk:List Str:=["rows","met","links","point","ties","tie"]
theorem vB:ak NLk ["rows"] (aW DL):=⟨rfl,rfl,rfl,by decide +kernel,rfl,by decide +kernel,by decide +kernel⟩
theorem k98{f:Addr}{fd:FuncData}(F:bx K "links_of" "links_of" DL f fd)(T:Txt mg):aF P w K mg base bJ 1 f fd ["rows"] Iq:=by
 refine F.gb vB (λvs H Q E h=>?_) λb0 H vs Q E hr h=>?_
 ·obtain⟨R,as,n,rfl,_⟩:=h;rfl
 obtain⟨R,as,n,rfl,hR,hT,hn,gR,q⟩:=h;have nd:=vB.nd;have bY:=hR.len;have hu:=hr.u1;show Run _ _ _ [some<|.ref R,none,none,none,none,none] H;refine a7 1 nd<|Dt λdm uO=>?_;refine a7 2 nd<|d3<|az ⟨Z0,λM hM=>?_⟩;have yI:M≠dm:=λe=>by rw [e,aB] at hM;cases hM
 have QY:H M=none:=by rw [ay yI] at hM;exact hM
 have s0:au H (upd (upd H dm<|.dK []) M<|.lst []):=(aT uO _).trans<|aT hM _;have Q0:(upd (upd H dm<|.dK []) M<|.lst []) dm=some (.dK []):=by rw [ay<|CK yI,aB]
 have Q1:(upd (upd H dm<|.dK []) M<|.lst []) M=some (.lst []):=aB;show Run _ _ _ [some<|.ref R,some<|.ref dm,some<|.ref M,none,none,none] (upd (upd H dm<|.dK []) M<|.lst []);generalize upd (upd H dm<|.dK []) M (.lst [])=H0 at s0 Q0 Q1;have Ir:(bh n).length=(ag n).length:=by rw [<- kL n 0,Aa];rfl
 refine kE<|ae 0 ⟨R,rfl,⟨_,aq.of<|s0 _ _ hR.lst⟩,kF (xs:=as.map λa=>V.ref a.1) (λr σ H'=>∃(kM:List<|Key×V) (us:List Addr) (ls:List Lk) (u1 u2 u3:Option V),au H H'/\H' dm=some (.dK kM)/\H' M=some (.lst<|us.map V.ref)/\mG H' us ls/\iG n (bh<|n.take r) kM ls/\σ=[some<|.ref R,some<|.ref dm,some<|.ref M,u1,u2,u3])
  ⟨[],[],[],_,_,_,s0,Q0,Q1,⟨rfl,λj u x h=>by simp at h⟩,iG.start n,rfl⟩ ?_ ?_ ?_⟩
 ·rintro r σ H' _ ⟨_,_,_,_,_,_,sm,_⟩;exact aq.of<|sm _ _ hR.lst
 ·rintro r x σ H' hx ⟨kM,us,ls,u1,u2,u3,sm,ed,eM,c8,I,rfl⟩;have hi:r < n.length:=by
   have:=(Ac.mp hx).1;rw [Aa] at this;omega
  obtain⟨a,ea,d7,et,el,er⟩:=(hR.same sm).at hi;rw [Aj,ea] at hx;cases hx;refine iE rfl (aI.of et) (bg 3 nd<|bg 4 nd ?_);refine kE<|ae 4 ⟨a.2,rfl,⟨_,aq.of el⟩,kF (xs:=(row n r).map V.str) (λp σ bD=>∃(kM:List<|Key×V) (us:List Addr) (ls:List Lk) (u3:Option V),au H bD/\bD a.2=some (Ls<|row n r)/\bD dm=some (.dK kM)/\bD M=some (.lst<|us.map V.ref)/\mG bD us ls/\iG n (bh (n.take r)++bq r ((row n r).take p) 0) kM ls/\σ=[some<|.ref R,some<|.ref dm,some<|.ref M,some<|.str n[r].1,some<|.ref a.2,u3])
   ⟨kM,us,ls,_,sm,el,ed,eM,c8,by simpa [bq] using I,rfl⟩ ?_ ?_ ?_⟩
  ·rintro p σ bD _ ⟨_,_,_,_,_,e,_⟩;exact aq.of e
  ·rintro p x σ bD hx ⟨kM,us,ls,u3,sm,el,ed,eM,c8,I,rfl⟩;have hp:p < (row n r).length:=by
    have:=(Ac.mp hx).1;rw [Aa] at this;exact this
   have hz:(row n r)[p]?=some (row n r)[p]:=Ab hp;rw [Aj,hz] at hx;cases hx;have jr:=pA (r:=r) hz;have hle:=q03 hT hi hz;have Q2:(bh (n.take r)++bq r ((row n r).take p) 0).length<=60:=by
    obtain⟨rest,vC⟩:=uL hi hz;have h1:=BZ List.length vC;simp only [Af] at h1 ⊢;omega
   have lM:=I.dQ;have lL:=I.mh;have lA:=c8.1;have Q3:aE n r=n[r].1:=nH hi;have naM:a.2≠M:=λe=>by
    have:=(hR.tup r a n[r] ea<|Ab hi).2;rw [e,QY] at this;cases this
   generalize (row n r)[p]=z at hz jr hle;refine bg 5 nd ?_;refine eY<|NY hu<|ae 5<|ae 1 ⟨dm,_,rfl,bn.k (k:=Sum.inr z) ed,?_⟩;cases jv:bL (bh (n.take r)++bq r ((row n r).take p) 0) z with
   | nil=>
    rw [I.m0 z jv];show if false=true then _ else _;rw [BK<|by decide];refine xn hu<|ae 3<|ae 1<|ae 5 ⟨dm,_,rfl,cB.k (k:=Sum.inr z) ed (cz<|by omega),bo<|bo ⟨_,us,ls,_,gm sm uO,?_,aB,?_,c8.keep λt xs h=>?_,?_,rfl⟩⟩
    ·rw [ay<|bU el ed λz=>nomatch z];exact el
    ·rw [ay yI];exact eM
    ·rw [ay<|bU h ed λz=>nomatch z];exact h
    ·rw [jr,<- Aq];have:=I.new (e:=(r,p)) jv;show iG n _ (putK kM (Sum.inr z)<|.str n[r].1) ls;rw [<- Q3];exact this
   | cons b rest=>
    have hr0:rest=[]:=by
     rw [jv] at hle;exact Bi.mp<|by have:rest.length+1<=1:=hle;omega
    subst hr0;have vm:=I.m1 z b [] jv;rw [vm];show if true=true then _ else _;rw [BP rfl];refine gZ (lV<|ae 2 ⟨M,rfl,⟨_,eM⟩,dB<|ai<|ae 5<|ai<|g8 hu<|ae 1<|ae 5 ⟨dm,.str<|aE n b.1,rfl,by rw [<- vm];exact bn.k (k:=Sum.inr z) ed,ai<|ae 3<|az ⟨(by show 3<=sizeLine;decide),λt ht=>?_⟩⟩⟩);have sT:=aT ht<|.tup [.str z,.str<|aE n b.1,.str n[r].1];have ntM:t≠M:=λe=>by rw [e,eM] at ht;cases ht
    have qm:(upd bD t<|.tup [.str z,.str<|aE n b.1,.str n[r].1]) t=some (T3 (z,aE n b.1,aE n (r,p).1)):=by
     rw [aB];show _=some (HO.tup [.str z,.str<|aE n b.1,.str<|aE n r]);rw [Q3]
    have kT:∀ c xs,(upd bD t<|.tup [.str z,.str<|aE n b.1,.str n[r].1]) c=some (.tup xs)->(upd (upd bD t<|.tup [.str z,.str<|aE n b.1,.str n[r].1]) M<|.lst<|us.map V.ref++[.ref t]) c=some (.tup xs):=λc xs h=>by
     rw [ay<|bU h (sT _ _ eM) λz=>nomatch z];exact h
    refine⟨_,sT _ _ eM,by rw [Aa];exact cz (by omega),bo<|bo ⟨kM,us++[t],ls++[(z,aE n b.1,aE n (r,p).1)],_,gm (sm.trans sT) QY,?_,?_,?_,?_,?_,rfl⟩⟩
    ·rw [ay naM];exact sT _ _ el
    ·rw [ay<|CK yI];exact sT _ _ ed
    ·rw [aB,Ak];rfl
    ·exact((c8.keep λc xs h=>sT _ _ h).snoc qm).keep kT
    ·rw [jr,<- Aq];exact I.old (e:=(r,p)) jv
  ·rintro σ bD ⟨kM,us,ls,u3,sm,_,ed,eM,c8,I,rfl⟩;rw [Aa,Ca] at I;refine bo ⟨kM,us,ls,_,_,_,sm,ed,eM,c8,?_,rfl⟩;rw [rD hi];exact I
 ·rintro σ H' ⟨kM,us,ls,u1,u2,u3,sm,ed,eM,c8,I,rfl⟩;rw [Aa,bY,Ca] at I;have lL:=I.mh;have lA:=c8.1;have aY:us.length < 64:=by omega
  refine bO (ce k1b T.sorted DW (ai (ae 2 (az ⟨M,us,ls.map (·.1),rfl,aq.of eM,by rw [Aa];exact lA,I.pS,aY,λi t z h1 h2=>?_,λL ps hL hp hs=>?_⟩))))
  ·rw [Aj,Az] at h2;obtain⟨x,hx,rfl⟩:=h2;exact⟨_,c8.2 i t x h1 hx⟩
  have pick:∀ p∈ps,∃ x,x∈ls/\x.1=p.2/\H' p.1=some (T3 x):=λp gK=>by
   have hz:=hp.mem_iff.mp gK;obtain⟨i,hi⟩:=Bh hz;rw [List.getElem?_zip_eq_some] at hi;obtain⟨h1,h2⟩:=hi;rw [Aj,Az] at h2;obtain⟨x,hx,e⟩:=h2;exact⟨x,Ap hx,e,c8.2 i _ x h1 hx⟩
  obtain⟨xs,eS⟩:∃ xs:List Lk,xs.length=ps.length/\∀(j:Nat) p x,ps[j]?=some p->xs[j]?=some x->x∈ls/\x.1=p.2/\H' p.1=some (T3 x):=by
   clear hs hp
   induction ps with
   | nil=>exact⟨[],rfl,λj p x h=>by simp at h⟩
   | cons p r ih=>
    obtain⟨x,q1,q2,q3⟩:=pick p<|Ae ..;obtain⟨xs,l1,l2⟩:=ih λc hc=>pick c<|Ah _ hc;refine⟨x :: xs,by rw [As,As,l1],λj c y h1 h2=>?_⟩;cases j with
    | zero=>
     cases h1;cases h2;exact⟨q1,q2,q3⟩
    | succ j=>exact l2 j c y (by simpa using h1)<|by simpa using h2
  obtain⟨lx,eS⟩:=eS;have lp:ps.length=ls.length:=by rw [hp.length_eq,List.length_zip,Aa];omega
  have sL:=aT hL<|.lst<|ps.map λp=> .ref p.1;have Q4:yH xs:=by
   unfold yH;rw [Bs];intro i j hi hj eQ;have a1:=(eS i ps[i] xs[i] (Ab<|by omega)<|Ab hi).2.1;have a2:=(eS j ps[j] xs[j] (Ab<|by omega)<|Ab hj).2.1;rw [a1,a2];exact Bs.mp hs i j (by omega) (by omega) eQ
  have qu:(xs.map (·.1)).Nodup:=by
   rw [Cn,Er];exact Q4.imp λh e=>by rw [e] at h;exact Ge _ h
  have ki:∀ x,x∈xs↔x∈ls:=λx=>by
   constructor
   ·intro h;obtain⟨j,hj⟩:=Bh h;have kQ:=(Ac.mp hj).1;exact(eS j ps[j] x (Ab<|by omega) hj).1
   ·intro h;refine DR λhn=>?_;have Iu:xs.Nodup:=by
     rw [Cn] at qu ⊢;rw [Er] at qu;exact qu.imp λh e=>h<|by rw [e]
    have:=aX Iu (b:=ls.erase x) λz hz=>by
     have hzl:z∈ls:=by
      obtain⟨j,hj⟩:=Bh hz;have kQ:=(Ac.mp hj).1;exact(eS j ps[j] z (Ab<|by omega) hj).1
     exact(Fk λe:z=x=>hn<|e ▸ hz).mpr hzl
    rw [Ft h] at this;have:0 < ls.length:=TF h;omega
  refine q L (ps.map (·.1)) xs _ (sm.trans sL) (hV sm hL) (by rw [aB,Cb];rfl) ⟨by rw [Aa];omega,λj u x h1 h2=>?_⟩ Q4 (λx=>by rw [ki x];exact I.whole hT x) (by omega);rw [Aj,Az] at h1;obtain⟨p,GH,rfl⟩:=h1;exact sL _ _ (eS j p x GH h2).2.2
end
end E8
namespace L2
open PySem PySem.Spec PyProof.Rows
section
variable{X:Cx}{σ:St}{H:Hp}{Q:VK}
end
open bA
section
variable{prog:Program}{w:World}{A:Around}{E:Value->Shared->Prop}{s:Shared}{T:String}{r d:Addr}{n:Nat}{P:Nat->Value->Prop}{OK:Heap->Prop}
end
section
variable{X:Cx}
end
end L2
namespace L2
open PySem PySem.Spec PyProof.Rows
section
def Iv(K:PySem.W.Frag)(l:Addr):It:=
  ⟨λi H => ∃ xs x, aq K H l xs ∧ xs[i]? = some x,
   λi H v H'=>∃ T x,H T=none/\v = .ref T/\H'=upd H T (.tup [.int (i:Int),x])/\∀ xs,aq K H l xs->xs[i]?=some x,
   λi H=>∃ xs,aq K H l xs/\xs.length<=i⟩
def q94(m l:Addr)(i:Nat)(h:Heap):Prop:=(∃ old,IsEnum h (m+1) m (i:Int) old)/\h.IsListIter m l i
theorem k9f{P:Program}{w:World}{K:PySem.W.Frag}{elts:List Expr}{k:Nat}{tp:Pos}(m l:Addr):Turn P w K (.Tuple elts k tp) (Iv K l) [m,m+1] (m+1) (q94 m l) where
 mem:=by simp
 obj:=λi h st c hc=>by
  obtain⟨⟨old,z1⟩,⟨o4,e4,c4,d4⟩⟩:=st;simp only [Ai,Bw,FP] at hc
  rcases hc with rfl | rfl
  ·exact⟨_,e4,λv z=>by rw [d4] at z;cases z⟩
  ·exact⟨_,z1,λv z=>by cases z⟩
 keep:=λi h h' st kp=>by
  obtain⟨⟨old,z1⟩,⟨o4,e4,r4⟩⟩:=st;exact⟨⟨old,kp _ (by simp) _ z1⟩,⟨o4,kp _ (by simp) _ e4,r4⟩⟩
 item:=by
  intro X hP hw hK hc i pins s σ H E I hf st hg;subst hP hw hK;obtain⟨xs,x,eS,hx⟩:=hg;obtain⟨jS,lY,p1,lZ⟩:=I.list eS;obtain⟨u1,hG,EV⟩:=lY.get hx;obtain⟨⟨old,z1⟩,z4⟩:=id st;refine wpAny_pyNext_enum_item z1 z4 p1.isList (x:=u1) (by simpa using hG) (by simp) λh' a1 a2 a3 a4 kp=>?_;have hT:H s.heap.objs.size=none:=I.aH.fresh<|Al _;have nT:∀ c∈[m,m+1],c≠s.heap.objs.size:=λc bj=>by
   have:∃ o,s.heap.get? c=some o:=by
    obtain⟨o4,e4,_⟩:=z4;simp only [Ai,Bw,FP] at bj
    rcases bj with rfl | rfl
    ·exact⟨_,e4⟩
    ·exact⟨_,z1⟩
   obtain⟨o,e⟩:=this;exact Bn<|Au e
  have I1:Inv X pins σ (upd H s.heap.objs.size<|.tup [.int (i:Int),x]) {s with heap:=s.heap.push {cls:= .type "tuple",data:= .seq #[.int i s.toks,u1]},toks:=s.toks+1}:=
   I.laid (t':=s.toks+1) (λb o e=>Ag _ e) (Al _) (show aC X.prog X.w _ _ _ (.tup [.int (i:Int),x]) from⟨Z2,[.int i s.toks,u1],.cons ⟨_,rfl⟩<|.cons EV .nil,⟨_,At _ rfl,rfl,_,rfl⟩⟩)
  have f1:∀ c∈[m,m+1],b7 X pins (upd H s.heap.objs.size<|.tup [.int (i:Int),x]) c:=λc bj=>⟨by rw [ay<|nT c bj];exact(hf c bj).1,(hf c bj).2⟩;have pf:∀ c o,c∉[m,m+1]->(s.heap.push {cls:= .type "tuple",data:= .seq #[.int i s.toks,u1]}).get? c=some o->h'.get? c=some o:=λc o bj e=>by
   rcases Gm e with ⟨ec,eo⟩ | e'
   ·rw [ec,eo];exact a3
   ·simp only [Ai,Bw,FP,not_or] at bj;exact kp c o bj.2 bj.1 e'
  have I2:=Inv.bM (h':=h') (t':=s.toks+1) I1 f1 pf;refine⟨_,rfl,wpAny_letOwnedTupleGo_enum (s:={s with heap:=h',toks:=s.toks+1}) a1 λh2 b1 sb=>?_⟩;have xX:∀ c o,c∉[m+1]->h'.get? c=some o->h2.get? c=some o:=λc o bj e=>(sb.2 c<|by simpa using bj).trans e;have I3:=Inv.bM (h':=h2) (t':=s.toks+1) I2 (ch:=[m+1]) (λc bj=>f1 c<|by simp at bj;simp [bj]) xX;refine⟨.ref s.heap.objs.size,_,I3,rfl,⟨_,x,hT,rfl,rfl,λzs hz=>by rw [I.cO hz eS];exact hx⟩,?_,λc bj=>(f1 c bj).1⟩;obtain⟨o3,e3,r3⟩:=a2;exact⟨⟨u1,b1⟩,⟨o3,xX _ _ (by simp) e3,r3⟩⟩
 done:=by
  intro X hP hw hK hc i pins s σ H E I hf st hg;subst hP hw hK;obtain⟨xs,eS,uj⟩:=hg;obtain⟨jS,lY,p1,lZ⟩:=I.list eS;have l1:=lY.length;obtain⟨⟨old,z1⟩,z4⟩:=id st;refine wpAny_pyNext_enum_end (I.ok.hd hc) z1 z4 p1.isList (by simp;omega) λh' kp=>⟨rfl,I.bM (t':=s.toks) (ch:=[m,m+1]) hf λc o bj e=>?_⟩;simp only [Ai,Bw,FP,not_or] at bj;exact kp c o bj.1 e
 self:=λ_ _ _ _ _ st h=>by
  obtain⟨⟨old,z1⟩,_⟩:=st;exact wpAny_pyIter_enum z1 h
end
section
variable{X:Cx}
def x0n(K:PySem.W.Frag)(ta:TA):TI:=λσ H R=>ta σ H λvs H1=>∃ a,vs=[.ref a]/\(∃ xs,aq K H1 a xs)/\R (Iv K a) H1
theorem q6p{elts:List Expr}{k:Nat}{tp:Pos}{a:Expr}{ta:TA}{p pos:Pos}(hg:Gl X "enumerate")(hm:X.mg "enumerate" = none)(ha:PA X [a] ta)(hs:starEach [a] X.env=[(false,eval a X.env)]:=by rfl) :
  PI X (.Tuple elts k tp) (.Call (.Name "enumerate" p) [a] [] pos) (x0n X.K ta):=by
 intro pins s σ H R I h;refine Call_<|mU I hg hm boot_enumerate<|HX (aP (ha pos pins s σ H _ I h) λus s1 ⟨vs,H1,I1,r1,q1⟩=>?_) hs rfl;obtain⟨x,e,⟨xs,hx⟩,q⟩:=q1;subst e;obtain⟨u,rfl,ru⟩:=r1.one;cases (show u=Value.ref x from ru);obtain⟨jS,lY,p1,lZ⟩:=I1.list hx;refine call_enumerate_list p1.isList λh' a1 a2 a3 kp=>?_;refine wpAny_pyIter_enum (s:={s1 with heap:=h'}) a1 ?_;refine⟨s1.heap.objs.size+1,[s1.heap.objs.size,s1.heap.objs.size+1],_,_,H1,rfl,I1.kept (t':=s1.toks) kp,k9f s1.heap.objs.size x,⟨⟨_,a1⟩,a2⟩,λb hb=>?_,q⟩;have hle:s1.heap.objs.size<=b:=by
  simp only [Ai,Bw,FP] at hb
  rcases hb with rfl | rfl <;> omega
 exact I1.iP hle<|I1.aH.fresh hle
theorem Q5(z:Str):∀ zs:List Str,countIn (.str z) (zs.map PyData.str)=(zs.count z:Int)
 | []=>rfl
 | y :: r=>by
  rw [Bj,countIn,Q5 z r,Cy];simp only [same]
  rcases Bool.eq_false_or_eq_true (y == z) with hb | hb <;> simp only [hb,Bb,DK,CV] <;> push_cast <;> omega
def q9l(K:PySem.W.Frag):V->List V->Hp->VK->Prop:=λx vs H Q=>∃(l:Addr) (zs:List Str) (z:Str),x = .ref l/\vs=[.str z]/\aq K H l (zs.map V.str)/\Q (.int (zs.count z:Int)) H
theorem k96:qV X "list.count" (q9l X.K):=by
 intro pins s σ H x vs v us Q I rx rv h;obtain⟨l,zs,z,rfl,rfl,hH,q⟩:=h;cases rx;obtain⟨u,rfl,ru⟩:=rv.one;obtain⟨tk,rfl⟩:=ru;obtain⟨its,r,pl,hz⟩:=I.list hH;refine count_list_strs pl.isList (C4 r) ?_;rw [Q5];exact⟨.int (zs.count z:Int),H,I.tok _,⟨_,rfl⟩,q⟩
end
section
variable{X:Cx}{σ:St}{H:Hp}{D:Ends}{body:List Stmt}
end
end L2
namespace Nt
open PySem L2
theorem Q6(x:Str):∀{sd:List Str},bT sd->∃ jb,bT jb/\∀ y,y∈jb↔y=x\/y∈sd
 | [],_=>⟨[x],Gb _ _,λy=>by simp⟩
 | a :: r,h=>by
  have h':=Ct.mp h
  by_cases q:x.cps.toList < a.cps.toList
  ·refine⟨x :: a :: r,Ct.mpr ⟨λy hy=>?_,h⟩,λy=>by simp⟩
   rcases Ai.mp hy with e | e
   ·rw [e];exact q
   ·exact Gk q<|h'.1 y e
  ·rcases Gn.mp (List.not_lt.mp q) with q2 | q2
   ·obtain⟨jb,s1,s2⟩:=Q6 x h'.2;refine⟨a :: jb,Ct.mpr ⟨λy hy=>?_,s1⟩,λy=>?_⟩
    ·rcases (s2 y).mp hy with e | e
     ·rw [e];exact q2
     ·exact h'.1 y e
    ·rw [Ai,s2,Ai]
     constructor
     ·rintro (e | e | e)
      ·exact .inr<|.inl e
      ·exact .inl e
      ·exact .inr<|.inr e
     ·rintro (e | e | e)
      ·exact .inr<|.inl e
      ·exact .inl e
      ·exact .inr<|.inr e
   ·refine⟨a :: r,h,λy=>?_⟩;have:a=x:=bA.fw q2;subst this;simp
theorem Q7:∀ L:List Str,∃ sd,bT sd/\∀ y,y∈sd↔y∈L
 | []=>⟨[],List.Pairwise.nil,λ_=>Iff.rfl⟩
 | x :: L=>by
  obtain⟨sd,h1,h2⟩:=Q7 L;obtain⟨jb,h3,h4⟩:=Q6 x h1;exact⟨jb,h3,λy=>by rw [h4,h2,Ai]⟩
theorem sw(z:Str):∀ L:List Str,decide (L.count z % 2=1)=aj (L.map λy=>decide (z=y))
 | []=>rfl
 | y :: L=>by
  show _=(decide (z=y) ^^ aj (L.map λy=>decide (z=y)));rw [<- sw z L,Cy]
  by_cases h:z=y
  ·subst h;rw [BW rfl,LR,BP rfl,Bool.true_xor,<- decide_not];exact decide_eq_decide.mpr<|by omega
  ·rw [BR h,BK λq=>h (eq_of_beq q).symm,Fo];rfl
theorem sy{α β:Type}(f:α->β->Bool)(M:List β):∀ L:List α,aj (L.map λa=>aj<|M.map λb=>f a b)=aj (M.map λb=>aj<|L.map λa=>f a b)
 | []=>(iH M).symm
 | a :: L=>by
  show(aj (M.map λb=>f a b) ^^ aj (L.map λa=>aj<|M.map λb=>f a b))=aj (M.map λb=>f a b ^^ aj (L.map λa=>f a b));rw [sy f M L,gy (λb=>f a b) λb=>aj<|L.map λa=>f a b]
theorem map_range{α β:Type}(l:List α)(f:α->β)(g:Nat->β)(h:∀ k x,l[k]?=some x->g k=f x):l.map f=(List.range l.length).map g:=by
 apply Dl;intro k;rw [Aj,Aj]
 by_cases hk:k < l.length
 ·rw [Ab hk,Dz hk];exact BZ some (h k _<|Ab hk).symm
 ·rw [Bc (by omega),Bc<|by simp;omega];rfl
theorem k9i{α:Type}(l:List α)(f g:α->Bool)(h:∀ k,k < l.length->∃ x y,l[k]?=some x/\l[(k+1) % l.length]?=some y/\g x=f y):aj (l.map g)=aj (l.map f):=by
 let F:Nat->Bool:=λk=>match l[k]? with | some x=>f x | none=>false
 have hf:l.map f=(List.range l.length).map F:=map_range l f F λk x hk=>by show(match l[k]? with | some x=>f x | none=>false)=_;rw [hk]
 have hg:l.map g=(List.range l.length).map λk=>F ((k+1) % l.length):=map_range l g _ λk x hk=>by
  obtain⟨x',y,h1,h2,h3⟩:=h k (Ac.mp hk).1;rw [hk] at h1;cases h1;show(match l[(k+1) % l.length]? with | some x=>f x | none=>false)=_;rw [h2];exact h3.symm
 rw [hf,hg,FA]
theorem Iw(F:Nat->Bool):∀ m,(∀ i,i < m->F (2 * i+1)=F (2 * i))->aj ((List.range<|2 * m).map F)=false
 | 0,_=>rfl
 | m+1,h=>by
  rw [show 2 * (m+1)=2 * m+1+1 by omega,Dh,Dh,Ak,Ak,jX,jX,Iw F m λi hi=>h i<|by omega];show((false ^^ (F (2 * m) ^^ false)) ^^ (F (2 * m+1) ^^ false))=false;rw [h m<|by omega];cases F (2 * m) <;> rfl
theorem Iy{n:Net}(T:av n){e:End}(h:e∈ends n):step n (other n<|go (-1) n e)=other n e:=by
 have h1:=e9 (c:=-1) T h;obtain⟨z,hz⟩:=af.mp h1;show left n (other n<|other n<|go (-1) n e)=_;rw [(dJ T hz).2.1,OM h1];show dL 1 n (dL (-1) n<|other n e)=_;have:=pP (c:=-1)<|cX T h;rw [Int.neg_neg] at this;exact this
def bE(n:Net)(w:List End)(z:Str):Bool:=decide ((w.map<|aA n).count z % 2=1)
theorem k5u{n:Net}(T:av n){w:List End}(W:jT n w):dP n (bE n w):=λr=>by
 have e1:(row n r).map (bE n w)=(row n r).map λz=>aj (w.map λe=>decide (z=aA n e)):=Ao λz _=>by
  unfold bE;rw [sw,Cb];rfl
 rw [e1,sy λz e=>decide (z=aA n e)];have e2:(w.map λe=>aj<|(row n r).map λz=>decide (z=aA n e))=w.map λe=>(decide (r=e.1) ^^ decide (r=(other n e).1)):=Ao λe he=>by
  obtain⟨z,hz⟩:=af.mp<|W.ends e he;rw [dj hz];exact ye T hz r
 rw [e2,gy (λe=>decide (r=e.1)) λe=>decide (r=(other n e).1)];rw [k9i w (λe=>decide (r=e.1)) (λe=>decide (r=(other n e).1)) λk hk=>by
  obtain⟨c,h1,h2⟩:=W.at' k hk;exact⟨c,_,h1,h2,rfl⟩]
 cases aj (w.map λe=>decide (r=e.1)) <;> rfl
theorem k5m{n:Net}(T:av n){w:List End}(W:jT n w){t:Str->Bool}{χ:End->Bool}(h:aO n t χ):aj (w.map λe=>t<|aA n e)=false:=by
 have e1:(w.map λe=>t<|aA n e)=w.map λe=>(χ e ^^ χ (other n e)):=Ao λe he=>by
  obtain⟨z,hz⟩:=af.mp<|W.ends e he;rw [dj hz];exact h.cR e z hz
 rw [e1,gy χ λe=>χ<|other n e];obtain⟨m,hm⟩:∃ m,w.length=2 * m:=⟨w.length / 2,by have:=W.even;omega⟩;have a1:aj (w.map χ)=false:=by
  let F:Nat->Bool:=λk=>match w[k]? with | some x=>χ x | none=>false
  rw [map_range w χ F λk x hk=>by show(match w[k]? with | some x=>χ x | none=>false)=_;rw [hk],hm];refine Iw F m λi hi=>?_;obtain⟨c,h1,h2⟩:=W.at' (2 * i) (by omega);rw [Cc (by omega),show(1:Int) - 2 * (((2 * i:Nat):Int) % 2)=1 by omega] at h2;show(match w[2 * i+1]? with | some x=>χ x | none=>false)=(match w[2 * i]? with | some x=>χ x | none=>false);rw [h1,h2];have hc:=W.ends c<|Ap h1;show χ (go 1 n c)=χ c;rw [<- xY T hc];exact h.go c hc
 have a2:aj (w.map λe=>χ<|other n e)=false:=by
  let F:Nat->Bool:=λk=>match w[k]? with | some x=>χ (other n x) | none=>false
  rw [map_range w (λe=>χ<|other n e) F λk x hk=>by show(match w[k]? with | some x=>χ (other n x) | none=>false)=_;rw [hk],<- FA F,hm];refine Iw (λp=>F<|(p+1) % (2 * m)) m λi hi=>?_;obtain⟨c,h1,h2⟩:=W.at' (2 * i+1) (by omega);rw [hm,show(1:Int) - 2 * (((2 * i+1:Nat):Int) % 2)=-1 by omega] at h2;show(match w[(2 * i+1+1) % (2 * m)]? with | some x=>χ (other n x) | none=>false)=(match w[(2 * i+1) % (2 * m)]? with | some x=>χ (other n x) | none=>false);rw [h2,Cc (show 2 * i+1 < 2 * m by omega),h1];have hc:=W.ends c<|Ap h1;show χ (other n<|go (-1) n c)=χ (other n c);rw [<- Iy T hc];exact(h.go _<|cX T<|e9 T hc).symm
 rw [a1,a2];rfl
def aZ(zs:List Str)(t s:Str->Bool):Bool:=aj<|zs.map λz=>t z && s z
theorem yJ(zs:List Str)(t u s:Str->Bool):aZ zs (λz=>t z ^^ u z) s=(aZ zs t s ^^ aZ zs u s):=by
 unfold aZ;rw [<- gy (λz=>t z && s z) λz=>u z && s z]
 congr 1
 refine Ao λz _=>?_;show((t z ^^ u z) && s z)=_;cases t z <;> cases u z <;> cases s z <;> rfl
theorem sE{s:Str->Bool}{y:Str}:∀{zs:List Str},zs.Nodup->y∈zs->aZ zs (λz=>decide (z=y)) s=s y
 | z :: zs,hn,hy=>by
  have hn:=Bf.mp hn;show((decide (z=y) && s z) ^^ aZ zs (λz=>decide (z=y)) s)=s y
  by_cases h:z=y
  ·subst h;have:aZ zs (λx=>decide (x=z)) s=false:=by
    unfold aZ;have e:(zs.map λx=>decide (x=z) && s x)=zs.map λ_=>false:=Ao λx hx=>by
     have ne:¬ x=z:=λq=>hn.1<|q ▸ hx;rw [BR ne];rfl
    rw [e,iH]
   rw [this,BW rfl];cases s z <;> rfl
  ·rw [BR h,sE hn.2<|(Ai.mp hy).resolve_left<|CK h];cases s y <;> rfl
theorem yK{n:Net}{zs:List Str}(hz:zs.Nodup){t:Str->Bool}:∀{L:List Str},(∀ y∈L,y∈zs)->aZ zs t (λz=>decide (L.count z % 2=1))=aj (L.map t)
 | L,hL=>by
  unfold aZ;have e:(zs.map λz=>t z && decide (L.count z % 2=1))=zs.map λz=>aj (L.map λy=>t z && decide (z=y)):=Ao λz _=>by
   rw [sw];cases t z
   ·show false=aj (L.map λ_=>false);rw [iH]
   ·rfl
  rw [e,sy λz y=>t z && decide (z=y)]
  congr 1
  refine Ao λy hy=>?_;have:=sE (s:=t) hz<|hL y hy;rw [<- this];unfold aZ
  congr 1
  refine Ao λz _=>?_;rw [Fv]
theorem Q8{n:Net}(T:av n)(hN:(n.map (·.1)).Nodup){ss zs:List Str}(hz:zs.Nodup)(hm:∀ z,z∈zs↔z∈ag n){x:Str}{b:Bool}(h:Way (dU n ss) (b8 n) x b) :
  ∃ t:Str->Bool,(∀ r,r < n.length->aj ((row n r).map t)=(decide (aE n r=b8 n) ^^ decide (aE n r=x)))/\aZ zs t (λz=>decide (z∈ss))=b:=by
 have add:∀{x y:Str} {o b:Bool},(∃ e z,aN n e=some z/\((x=aE n e.1/\y=aE n (other n e).1)\/(y=aE n e.1/\x=aE n (other n e).1))/\o=decide (z∈ss))->(∃ t:Str->Bool,(∀ r,r < n.length->aj ((row n r).map t)=(decide (aE n r=b8 n) ^^ decide (aE n r=x)))/\aZ zs t (λz=>decide (z∈ss))=b) ->
   ∃ t:Str->Bool,(∀ r,r < n.length->aj ((row n r).map t)=(decide (aE n r=b8 n) ^^ decide (aE n r=y)))/\aZ zs t (λz=>decide (z∈ss))=(b != o):=by
  rintro x y o b ⟨e,z,dC,EC,rfl⟩ ⟨t,h1,h2⟩;refine⟨λu=>t u ^^ decide (u=z),λr hr=>?_,?_⟩
  ·rw [gy t λu=>decide (u=z),h1 r hr,ye T dC r];have e1:∀ i,i < n.length->decide (r=i)=decide (aE n r=aE n i):=λi hi=>decide_eq_decide.mpr ⟨λq=>by rw [q],λq=>O7 hN hr hi q⟩;rw [e1 _<|cK dC,e1 _<|rS T dC]
   rcases EC with ⟨a1,a2⟩ | ⟨a1,a2⟩
   ·rw [<- a1,<- a2];cases decide (aE n r=b8 n) <;> cases decide (aE n r=x) <;> cases decide (aE n r=y) <;> rfl
   ·rw [<- a1,<- a2];cases decide (aE n r=b8 n) <;> cases decide (aE n r=x) <;> cases decide (aE n r=y) <;> rfl
  ·rw [yJ,h2,sE hz<|(hm z).mpr<|dI dC]
 have lk:∀{x y:Str} {o:Bool},(x,y,o)∈dU n ss->∃ e z,aN n e=some z/\((x=aE n e.1/\y=aE n (other n e).1))/\o=decide (z∈ss):=λ{x y o} hm=>by
  obtain⟨e,z,h1,h2⟩:=(O6 (n:=n) (ss:=ss)).fro _ hm;exact⟨e,z,h1,⟨BZ (·.1) h2,BZ (·.2.1) h2⟩,BZ (·.2.2) h2⟩
 induction h with
 | here=>exact⟨λ_=>false,λr _=>by rw [iH];cases decide (aE n r=b8 n) <;> rfl,by unfold aZ;exact iH zs⟩
 | there _ ht ih=>
  obtain⟨e,z,h1,h2,h3⟩:=lk ht;exact add ⟨e,z,h1,.inl h2,h3⟩ ih
 | back _ ht ih=>
  obtain⟨e,z,h1,h2,h3⟩:=lk ht;exact add ⟨e,z,h1,.inr ⟨h2.1,h2.2⟩,h3⟩ ih
theorem Q9{n:Net}(T:av n)(hg:fE n)(hN:(n.map (·.1)).Nodup)(h0:0 < n.length){ss zs:List Str}(hz:zs.Nodup)(hm:∀ z,z∈zs↔z∈ag n)(hs:∀ z∈ss,z∈ag n)(Iz:∀ t,dP n t->aZ zs t (λz=>decide (z∈ss))=false):∃ sd,bb n ss sd:=by
 classical
 have uniq:∀{x b c},Way (dU n ss) (b8 n) x b->Way (dU n ss) (b8 n) x c->b=c:=λ{x b c} h1 h2=>by
  obtain⟨t,t1,t2⟩:=Q8 T hN hz hm h1;obtain⟨u,u1,u2⟩:=Q8 T hN hz hm h2;have:=Iz (λz=>t z ^^ u z) λr=>by
   by_cases hr:r < n.length
   ·rw [gy t u,t1 r hr,u1 r hr];cases decide (aE n r=b8 n) <;> cases decide (aE n r=x) <;> rfl
   ·have:row n r=[]:=by
     unfold row;rw [Bc<|by omega];rfl
    rw [this];rfl
  rw [yJ,t2,u2] at this;cases b <;> cases c <;> first | rfl | cases this
 have next:∀{e:End} {z:Str} {b:Bool},aN n e=some z->Way (dU n ss) (b8 n) (aE n e.1) b->Way (dU n ss) (b8 n) (aE n (other n e).1) (b != decide (z∈ss)):=λ{e z b} he h=>by
  rcases (O6 (n:=n) (ss:=ss)).to e z he with t | t
  ·exact .there h t
  ·exact .back h t
 have all:∀ r,r < n.length->∃ b,Way (dU n ss) (b8 n) (aE n r) b:=λr hr=>by
  have:=hg (λx=>∃ b,Way (dU n ss) (b8 n) x b) ⟨n[0],Bu h0,false,by rw [<- nH h0];exact .here⟩ (λr hr s jI t tr ts ⟨b,hb⟩=>?_) n[r]<|Bu hr
  ·rw [<- nH hr] at this;exact this
  ·obtain⟨i,hi,rfl⟩:=Dr.mp hr;obtain⟨j,hj,rfl⟩:=Dr.mp jI;obtain⟨p,hp⟩:=Bh tr;obtain⟨q,hq⟩:=Bh ts;have h1:aN n (i,p)=some t:=by show(row n i)[p]?=_;rw [lX hi];exact hp
   have h2:aN n (j,q)=some t:=by show(row n j)[q]?=_;rw [lX hj];exact hq
   rcases (j4 T h1).mp h2 with e | e
   ·have:j=i:=BZ (·.1) e;subst this;exact⟨b,hb⟩
   ·rw [<- nH hi] at hb;have:=next h1 hb;rw [<- e] at this;exact⟨_,by rw [<- nH hj];exact this⟩
 obtain⟨sd,h1,h2⟩:=Q7<|((List.range n.length).filter λ(r:Nat)=>decide (Way (dU n ss) (b8 n) (aE n r) true)).map<|aE n;have mem:∀ r,r < n.length->∀ b,Way (dU n ss) (b8 n) (aE n r) b->decide (aE n r∈sd)=b:=λr hr b hb=>by
  have:aE n r∈sd↔b=true:=by
   rw [h2,An]
   constructor
   ·rintro ⟨i,hi,e⟩;rw [Ba,Bp] at hi;have:=O7 hN hi.1 hr e;subst this;exact uniq hb<|BX hi.2
   ·intro e;subst e;exact⟨r,Ba.mpr ⟨Bp.mpr hr,BW hb⟩,rfl⟩
  by_cases q:b=true
  ·rw [q];exact BW<|this.mpr q
  ·rw [Bool.not_eq_true] at q;rw [q];exact BR λk=>by rw [this.mp k] at q;cases q
 refine⟨sd,h1,λx hx=>?_,λhx=>?_,λz=>?_⟩
 ·obtain⟨i,hi,rfl⟩:=An.mp<|(h2 x).mp hx;exact ja<|Bp.mp (Ba.mp hi).1
 ·have:=mem 0 h0 false .here;exact absurd hx<|JD this
 ·by_cases dC:z∈ag n
  ·obtain⟨p,hp⟩:∃ p,p∈pos n z:=by
    have:pos n z≠[]:=λq=>by have:=pv n z;rw [q,T z dC] at this;cases this
    exact Ef _ this
   have he:=aG.mp hp;obtain⟨b,hb⟩:=all p.1<|cK he;have hc:=next he hb;rw [kS T he,mem _ (cK he) b hb,mem _ (rS T he) _ hc]
   constructor
   ·intro h;rw [BW h];cases b <;> rfl
   ·intro h;refine DR λk=>?_;rw [BR k] at h;cases b <;> cases h
  ·exact⟨λh=>absurd (hs z h) dC,λh=>absurd (nJ h) dC⟩
theorem IA{n:Net}(T:av n){e:End}(h:e∈ends n):two n (other n<|two n e)=other n e:=by
 have g1:=e9 (c:=1) T h;have h2:=kR T h;obtain⟨z,hz⟩:=af.mp h2;obtain⟨y,hy⟩:=af.mp g1;have e1:go 1 n (other n<|two n e)=other n (go 1 n e):=by
  show dL 1 n (other n<|other n<|two n e)=_;rw [(dJ T hz).2.1];show dL 1 n (dL (-1) n<|other n<|go 1 n e)=_;have:=pP (c:=-1)<|cX T g1;rw [Int.neg_neg] at this;exact this
 show go (-1) n (go 1 n<|other n<|two n e)=_;rw [e1];show dL (-1) n (other n<|other n<|go 1 n e)=_;rw [(dJ T hy).2.1];exact pP<|cX T h
theorem gD{n:Net}(T:av n){e:End}(h:e∈ends n)(k:Nat):it (two n) k e∈ends n:=jN (λa ha=>kR T ha) h k
theorem Ra{α:Type}(f:α->α)(a:α):∀ k,it f k (f a)=it f (k+1) a
 | 0=>rfl
 | k+1=>by show f (it f k<|f a)=f (it f (k+1) a);rw [Ra f a k]
theorem mH{α:Type}(f:α->α)(a:α)(i:Nat):∀ j,it f (i+j) a=it f j (it f i a)
 | 0=>rfl
 | j+1=>by show f (it f (i+j) a)=f (it f j<|it f i a);rw [mH f a i j]
theorem q8q{n:Net}(T:av n){e:End}(h:e∈ends n):two n e≠other n e:=λq=>by
 have g1:=e9 (c:=1) T h;obtain⟨y,hy⟩:=af.mp g1;have h1:dL (-1) n (go 1 n e)=other n e:=pP<|cX T h;have h2:dL (-1) n (other n<|go 1 n e)=other n e:=q;exact(dJ T hy).2.2<|OL (c:=-1) (cX T g1) g1<|h2.trans h1.symm
theorem Rb{n:Net}(T:av n):∀(k:Nat) {e:End},e∈ends n->it (two n) k e≠other n e
 | 0,e,h=>λq=>by
  obtain⟨z,hz⟩:=af.mp h;exact(dJ T hz).2.2 q.symm
 | 1,e,h=>q8q T h
 | k+2,e,h=>λq=>by
  have e1:two n (it (two n) (k+1) e)=two n (other n<|two n e):=by rw [IA T h];exact q
  have e2:=rN T (gD T h<|k+1) (cX T<|kR T h) e1;rw [<- Ra] at e2;exact Rb T k (kR T h) e2
theorem vD{n:Net}(T:av n){a b:End}(ha:a∈ends n)(hb:b∈ends n)(h:aA n a=aA n b):b=a\/b=other n a:=by
 obtain⟨z,hz⟩:=af.mp ha;obtain⟨y,hy⟩:=af.mp hb;rw [dj hz,dj hy] at h;subst h;exact(j4 T hz).mp hy
theorem x0e{n:Net}(T:av n){e:End}(h:e∈ends n){k:Nat}(p:i8 n e k){i j:Nat}(eQ:i < j)(hj:j < k):it (two n) i e≠it (two n) j e:=λq=>by
 have inj:∀(m:Nat) {a b:End},a∈ends n->b∈ends n->it (two n) m a=it (two n) m b->a=b:=λm=>by
  induction m with
  | zero=>intro a b _ _ q;exact q
  | succ m ih=>intro a b ha hb q;exact ih ha hb<|rN T (gD T ha m) (gD T hb m) q
 have e1:it (two n) j e=it (two n) i (it (two n) (j - i) e):=by rw [<- mH,show j - i+i=j by omega]
 rw [e1] at q;have:=inj i h (gD T h _) q;exact p.first (j - i) (by omega) (by omega) this.symm
theorem k8j{n:Net}(T:av n){e:End}(h:e∈ends n){k:Nat}(p:i8 n e k){i j:Nat}(eQ:i < j)(hj:j < k):aA n (it (two n) i e)≠aA n (it (two n) j e):=λq=>by
 rcases vD T (gD T h i) (gD T h j) q with c | c
 ·exact x0e T h p eQ hj c.symm
 ·rw [show j=i+(j - i) by omega,mH] at c;exact Rb T (j - i) (gD T h i) c
theorem q4x{n:Net}(T:av n){x y:End}(hx:x∈ends n)(hy:y∈ends n)(q:aA n (go 1 n x)=aA n (go 1 n y)):x=y\/two n y=other n x:=by
 have g1:=e9 (c:=1) T hx
 rcases vD T g1 (e9 (c:=1) T hy) q with c | c
 ·exact .inl (go_inj T hy hx c).symm
 ·refine .inr ?_;obtain⟨z,hz⟩:=af.mp g1;show go (-1) n (go 1 n y)=_;rw [c];show dL (-1) n (other n<|other n<|go 1 n x)=_;rw [(dJ T hz).2.1];exact pP<|cX T hx
theorem Rc(n:Net)(e:End):∀ k,((wk n e k).map<|aA n).Perm<|((List.range k).map λi=>aA n<|it (two n) i e)++(List.range k).map λi=>aA n<|go 1 n<|it (two n) i e
 | 0=>List.Perm.refl _
 | k+1=>by
  rw [Dh,Ak,Ak];show((wk n e k++[it (two n) k e,go 1 n<|it (two n) k e]).map<|aA n).Perm _;rw [Ak];refine((Rc n e k).append_right _).trans ?_;generalize ((List.range k).map λi=>aA n<|it (two n) i e)=A;generalize ((List.range k).map λi=>aA n<|go 1 n<|it (two n) i e)=B;show(A++B++[aA n<|it (two n) k e,aA n<|go 1 n<|it (two n) k e]).Perm ((A++[aA n<|it (two n) k e])++(B++[aA n<|go 1 n<|it (two n) k e]));rw [Aq,Aq];refine MF A ?_;show(B++([aA n<|it (two n) k e]++[aA n<|go 1 n<|it (two n) k e])).Perm ([aA n<|it (two n) k e]++(B++[aA n<|go 1 n<|it (two n) k e]));rw [<- Aq,<- Aq];exact TV _ Ci
noncomputable def cU(n:Net)(e:End):List End:=ah<|walker n e
theorem IB{n:Net}{e:End}{k:Nat}(p:i8 n e k):cU n e=(List.range k).map λi=>it (two n) i e:=by
 unfold cU walker;rw [ur p,Z']
theorem IC{n:Net}{e:End}{k:Nat}(h:it (two n) k e=e):∀ m,it (two n) (k * m) e=e
 | 0=>rfl
 | m+1=>by rw [Nat.mul_succ,Nat.add_comm,mH,h,IC h m]
theorem jx{n:Net}(T:av n){e:End}(h:e∈ends n){x:End}:x∈cU n e↔∃ i,it (two n) i e=x:=by
 obtain⟨k,p,_⟩:=rO T h;rw [IB p,An]
 constructor
 ·rintro ⟨i,_,q⟩;exact⟨i,q⟩
 ·rintro ⟨i,q⟩;have p0:=p.pos;refine⟨i % k,Bp.mpr<|Gu _ p0,?_⟩;rw [<- q];have:=Nat.div_add_mod i k
  conv=>rhs;rw [<- this]
  rw [mH,IC p.back]
theorem vE{n:Net}(T:av n){e:End}(h:e∈ends n):∀ x∈cU n e,x∈ends n:=λx hx=>by
 obtain⟨i,q⟩:=(jx T h).mp hx;rw [<- q];exact gD T h i
theorem Rf{n:Net}(T:av n){e:End}(h:e∈ends n){x:End}(hx:x∈cU n e):∃ y∈cU n e,two n y=x:=by
 obtain⟨i,q⟩:=(jx T h).mp hx;obtain⟨k,p,_⟩:=rO T h;have p0:=p.pos;refine⟨it (two n) (i+k - 1) e,(jx T h).mpr ⟨_,rfl⟩,?_⟩;show it (two n) (i+k - 1+1) e=x;rw [show i+k - 1+1=k+i by omega,mH,p.back,q]
theorem yL{n:Net}(T:av n){e:End}(h:e∈ends n){x:End}(hx:x∈cU n e):two n x∈cU n e:=by
 obtain⟨i,q⟩:=(jx T h).mp hx;exact(jx T h).mpr ⟨i+1,by rw [<- q];rfl⟩
theorem Rg{n:Net}(T:av n){e:End}(h:e∈ends n){x:End}(hx:x∈ends n):aA n x∈(cU n e).map (aA n)↔x∈cU n e\/other n x∈cU n e:=by
 rw [An]
 constructor
 ·rintro ⟨y,hy,q⟩
  rcases vD T hx (vE T h y hy) q.symm with c | c
  ·exact .inl<|c ▸ hy
  ·exact .inr<|c ▸ hy
 ·rintro (c | c)
  ·exact⟨x,c,rfl⟩
  ·refine⟨_,c,?_⟩;obtain⟨z,hz⟩:=af.mp hx;rw [dj hz,dj (dJ T hz).1]
theorem Rh{n:Net}(T:av n){e:End}(h:e∈ends n):other n (other n e)=e:=by
 obtain⟨z,hz⟩:=af.mp h;exact(dJ T hz).2.1
def vF(n:Net)(told:List Str):Prop:=∀ x∈ends n,(aA n (two n x)∈told↔aA n x∈told)
theorem Ri{n:Net}(T:av n){told:List Str}(C:vF n told){e:End}(h:e∈ends n):∀ i,aA n (it (two n) i e)∈told↔aA n e∈told
 | 0=>Iff.rfl
 | i+1=>(C _<|gD T h i).trans<|Ri T C h i
theorem q9s{n:Net}(T:av n){e:End}(h:e∈ends n):vF n ((cU n e).map<|aA n):=λx hx=>by
 rw [Rg T h<|kR T hx,Rg T h hx]
 constructor
 ·rintro (c | c)
  ·obtain⟨y,hy,q⟩:=Rf T h c;exact .inl<|rN T (vE T h y hy) hx q ▸ hy
  ·have:=yL T h c;rw [IA T hx] at this;exact .inr this
 ·rintro (c | c)
  ·exact .inl<|yL T h c
  ·obtain⟨y,hy,q⟩:=Rf T h c;have sF:=vE T h y hy;have e1:two n x=other n y:=by
    rw [<- Rh T hx,<- q,IA T sF]
   exact .inr<|by rw [e1,Rh T sF];exact hy
structure nY(n:Net)(es:List End)(told:List Str)(ws:List<|List End):Prop where
 nd:((ws.flatMap ah).map<|aA n).Nodup
 new:∀ x∈ws.flatMap ah,x∈ends n/\aA n x∉told
 cov:∀ e∈es,aA n e∈told\/aA n e∈(ws.flatMap ah).map (aA n)
 wk:∀ w∈ws,∃ e,e∈ends n/\w=walker n e
theorem IE{n:Net}(T:av n):∀(es:List End) (told:List Str),(∀ e∈es,e∈ends n)->vF n told->nY n es told (dM n es told)
 | [],told,_,_=>by
  unfold dM;exact⟨Ch,λx hx=>(nomatch hx),λe he=>(nomatch he),λw hw=>(nomatch hw)⟩
 | e :: r,told,he,C=>by
  have h:=he e<|Ae ..;unfold dM
  by_cases q:aA n e∈told
  ·rw [BP q];have I:=IE T r told (λa ha=>he a<|Ah _ ha) C;refine⟨I.nd,I.new,λa ha=>?_,I.wk⟩
   rcases Ai.mp ha with rfl | ha
   ·exact .inl q
   ·exact I.cov a ha
  ·rw [BK q];have C':vF n (told++(ah<|walker n e).map (aA n)):=λx hx=>by
    rw [Am,Am];exact or_congr (C x hx)<|q9s T h x hx
   have I:=IE T r _ (λa ha=>he a<|Ah _ ha) C';have fresh:∀ x∈cU n e,x∈ends n/\aA n x∉told:=λx hx=>by
    obtain⟨i,k⟩:=(jx T h).mp hx;refine⟨vE T h x hx,λz=>q ?_⟩;rw [<- k] at z;exact(Ri T C h i).mp z
   refine⟨?_,λx hx=>?_,λa ha=>?_,λw hw=>?_⟩
   ·rw [Cf,Ak,Co];refine⟨?_,I.nd,λa ha b hb k=>?_⟩
    ·obtain⟨k,p,_⟩:=rO T h;show((cU n e).map<|aA n).Nodup;rw [IB p,Cb,Cn,Er,Bs];intro i j hi hj eQ;rw [Fa,Fa];rw [Fh] at hj;exact k8j T h p eQ hj
    ·subst k;obtain⟨x,hx,rfl⟩:=An.mp hb;exact(I.new x hx).2<|Ax _ ha
   ·rw [Cf] at hx
    rcases Am.mp hx with k | k
    ·exact fresh x k
    ·exact⟨(I.new x k).1,λz=>(I.new x k).2<|Bd _ z⟩
   ·rw [Cf,Ak]
    rcases Ai.mp ha with rfl | ha
    ·exact .inr<|Bd _<|An.mpr ⟨a,(jx T h).mpr ⟨0,rfl⟩,rfl⟩
    ·rcases I.cov a ha with k | k
     ·rcases Am.mp k with k | k
      ·exact .inl k
      ·exact .inr<|Bd _ k
     ·exact .inr<|Ax _ k
   ·rcases Ai.mp hw with rfl | hw
    ·exact⟨e,h,rfl⟩
    ·exact I.wk w hw
theorem Rj{n:Net}(T:av n){e:End}(h:e∈ends n):((walker n e).map<|aA n).Perm ((cU n e).map (aA n)++(cU n e).map λx=>aA n<|go 1 n x):=by
 obtain⟨k,p,_⟩:=rO T h;rw [IB p,Cb,Cb];unfold walker;rw [ur p];exact Rc n e k
theorem Rk{n:Net}(T:av n):∀{ws:List (List End)},(∀ w∈ws,∃ e,e∈ends n/\w=walker n e)->(ws.flatMap λw=>w.map<|aA n).Perm ((ws.flatMap ah).map (aA n)++(ws.flatMap ah).map λx=>aA n<|go 1 n x)
 | [],_=>List.Perm.refl _
 | w :: ws,h=>by
  obtain⟨e,he,rfl⟩:=h w<|Ae ..;have I:=Rk T (ws:=ws) λw hw=>h w<|Ah _ hw;rw [Cf,Cf,Ak,Ak];refine((Rj T he).append I).trans ?_;show(((cU n e).map (aA n)++(cU n e).map λx=>aA n<|go 1 n x)++_).Perm (((cU n e).map (aA n)++_)++((cU n e).map (λx=>aA n<|go 1 n x)++_));generalize (cU n e).map (aA n)=A;generalize ((cU n e).map λx=>aA n<|go 1 n x)=B;generalize (ws.flatMap ah).map (aA n)=D;generalize ((ws.flatMap ah).map λx=>aA n<|go 1 n x)=F;rw [Aq,Aq];refine MF A ?_;rw [<- Aq,<- Aq];exact TV _ Ci
noncomputable abbrev aM(n:Net):List (List End):=dM n (ends n) []
theorem q53(n:Net):vF n []:=λx _=>by simp
theorem qv{n:Net}(T:av n):nY n (ends n) [] (aM n):=IE T (ends n) [] (λ_ h=>h)<|q53 n
theorem IG{n:Net}(T:av n){z:Str}(hz:z∈ag n):(((aM n).flatMap ah).map<|aA n).count z=1:=by
 have I:=qv T;rw [List.Nodup.count I.nd,BP];have:pos n z≠[]:=λq=>by have:=pv n z;rw [q,T z hz] at this;cases this
 obtain⟨p,hp⟩:=Ef _ this;have hp:=aG.mp hp;have:=I.cov p<|af.mpr ⟨z,hp⟩;rw [dj hp] at this
 rcases this with k | k
 ·cases k
 ·exact k
theorem q51{n:Net}(T:av n){x:End}(hx:x∈(aM n).flatMap ah):two n x∈(aM n).flatMap ah:=by
 obtain⟨w,hw,hx⟩:=Gj.mp hx;obtain⟨e,he,rfl⟩:=(qv T).wk w hw;exact Gj.mpr ⟨_,hw,yL T he hx⟩
theorem Rl{α β:Type}{f:α->β}:∀{l:List α},l.Nodup->(∀ a∈l,∀ b∈l,f a=f b->a=b)->(l.map f).Nodup
 | [],_,_=>Ch
 | a :: l,h,inj=>by
  have h:=Bf.mp h;refine Bf.mpr ⟨λhm=>?_,Rl h.2 λx hx y hy=>inj x (Ah _ hx) y<|Ah _ hy⟩;obtain⟨b,hb,q⟩:=An.mp hm;have:=inj a (Ae ..) b (Ah _ hb) q.symm;exact h.1<|this ▸ hb
theorem IH{α β:Type}{f:α->β}:∀{l:List α},(l.map f).Nodup->∀ a∈l,∀ b∈l,f a=f b->a=b
 | c :: l,h,a,ha,b,hb,q=>by
  rw [Bj,Bf] at h
  rcases Ai.mp ha with ea | yc
  ·rcases Ai.mp hb with eb | nq
   ·rw [ea,eb]
   ·exact absurd (An.mpr ⟨b,nq,by rw [<- q,ea]⟩) h.1
  ·rcases Ai.mp hb with eb | nq
   ·exact absurd (An.mpr ⟨a,yc,by rw [q,eb]⟩) h.1
   ·exact IH h.2 a yc b nq q
theorem II{α β:Type}{f:α->β}:∀{l:List α},(l.map f).Nodup->l.Nodup
 | [],_=>Ch
 | a :: l,h=>by
  rw [Bj,Bf] at h;exact Bf.mpr ⟨λk=>h.1<|An.mpr ⟨a,k,rfl⟩,II h.2⟩
theorem Rm{n:Net}(T:av n):(((aM n).flatMap ah).map λx=>aA n<|go 1 n x).Perm (((aM n).flatMap ah).map<|aA n):=by
 have I:=qv T;refine uw (Rl (II I.nd) λx hx y hy q=>?_) (λz hz=>?_)<|by rw [Aa,Aa];exact Al _
 ·have d6:=(I.new x hx).1;have sF:=(I.new y hy).1
  rcases q4x T d6 sF q with c | c
  ·exact c
  ·exfalso
   have t:aA n (two n y)=aA n x:=by
    obtain⟨z,hz⟩:=af.mp d6;rw [c,dj hz,dj (dJ T hz).1]
   have:=IH I.nd _ (q51 T hy) x hx t;obtain⟨z,hz⟩:=af.mp d6;exact(dJ T hz).2.2<|c.symm.trans this
 ·obtain⟨x,hx,rfl⟩:=An.mp hz;obtain⟨y,hy⟩:=af.mp<|e9 (c:=1) T (I.new x hx).1;rw [dj hy];refine Dd.mp ?_;rw [IG T<|dI hy];exact Fm
theorem k8t{n:Net}(T:av n){z:Str}(hz:z∈ag n):((aM n).flatMap λw=>w.map<|aA n).count z=2:=by
 rw [(Rk T (qv T).wk).count_eq,Ep,(Rm T).count_eq,IG T hz]
theorem Rn(n:Net)(z:Str):∀ ws:List<|List End,(ws.flatMap λw=>w.map<|aA n).count z=(ws.map λw=>(w.map<|aA n).count z).sum
 | []=>rfl
 | w :: ws=>by rw [Cf,Ep,Rn n z ws];rfl
theorem Ro:∀(l:List Nat) (x:Nat),x∈l->x<=l.sum
 | y :: l,x,h=>by
  rw [Fu]
  rcases Ai.mp h with rfl | h
  ·omega
  ·have:=Ro l x h;omega
theorem q02{n:Net}(T:av n){z:Str}(hz:z∈ag n){w:List End}(hw:w∈aM n):(w.map<|aA n).count z<=2:=by
 have h:=k8t T hz;rw [Rn] at h;have:=Ro ((aM n).map λw=>(w.map<|aA n).count z) _<|An.mpr ⟨w,hw,rfl⟩;omega
theorem yM{n:Net}{w:List End}{ss:List Str}(hw:∀ c∈w,c∈ends n)(h:∀ z,z∈ss↔(w.map<|aA n).count z=1):∀ z∈ss,z∈ag n:=λz hz=>by
 have:=Dd.mp (by rw [(h z).mp hz];exact Fm);obtain⟨e,he,rfl⟩:=An.mp this;obtain⟨y,hy⟩:=af.mp<|hw e he;rw [dj hy];exact dI hy
theorem IJ{n:Net}(T:av n){w:List End}(hw:w∈aM n){ss:List Str}(h:∀ z,z∈ss↔(w.map<|aA n).count z=1){z:Str}(hz:z∈ag n):decide (z∈ss)=bE n w z:=by
 have:=q02 T hz hw;unfold bE;refine decide_eq_decide.mpr<|(h z).trans ?_;omega
theorem k54{n:Net}(T:av n){w:List End}(hw:w∈aM n){ss:List Str}(h:∀ z,z∈ss↔(w.map<|aA n).count z=1):dR n ss=true:=by
 refine Pk (k5u T<|jU T (ends n) [] (λ_ h=>h) w hw) λz hz=>?_;rw [<- IJ T hw h hz]
 by_cases k:z∈ss
 ·rw [BW k];exact Bm.mpr k
 ·rw [BR k];exact Em.mpr λq=>k<|Bm.mp q
theorem k5z{n:Net}(T:av n)(hf:HF n)(hN:(n.map (·.1)).Nodup)(h0:0 < n.length){w:List End}(hw:w∈aM n){ss:List Str}(h:∀ z,z∈ss↔(w.map<|aA n).count z=1):∃ sd,bb n ss sd:=by
 have W:=jU T (ends n) [] (λ_ h=>h) w hw;have inT:=yM W.ends h;obtain⟨zs,sz,mz⟩:=kU<|ag n;refine Q9 T hf.1 hN h0 (gP sz) mz inT λt ht=>?_;obtain⟨χ,hχ⟩:=hf.2.2 t ht;have:=k5m T W hχ;have e:aZ zs t (λz=>decide (z∈ss))=aZ zs t (λz=>decide ((w.map<|aA n).count z % 2=1)):=by
  unfold aZ
  congr 1
  refine Ao λz hz=>?_;show(t z && decide (z∈ss))=(t z && decide ((w.map<|aA n).count z % 2=1));rw [IJ T hw h<|(mz z).mp hz];rfl
 rw [e,yK (n:=n) (gP sz) λy hy=>?_]
 ·rw [Cb];exact this
 ·obtain⟨x,hx,rfl⟩:=An.mp hy;obtain⟨y,hy⟩:=af.mp<|W.ends x hx;rw [dj hy];exact(mz y).mpr<|dI hy
end Nt
namespace L2
open PySem PySem.Spec PyProof.Rows
section
variable{X:Cx}{σ:St}{H:Hp}
end
structure Xo(h:Heap)(e T:Addr)(C fl:Value):Prop where
 ex:∃ oe vs,h.get? e=some oe/\oe.cls=C/\oe.dict=none/\oe.data = .fields vs/\vs[1]?=some (.ref T)/\vs[2]?=some .none
 ne:T≠e
 tr:∃ oT ts,h.get? T=some oT/\oT.data = .fields ts/\ts[3]?=some fl
structure Kp(fs bad:List Addr)(h h':Heap):Prop where
 keep:∀ b o,h.get? b=some o->b∉fs->b∉bad->h'.get? b=some o
 slot:∀ b o,h.get? b=some o->b∈fs->∃ sl,h'.get? b=some {o with slots:=sl}
theorem j7w(o:Obj)(f:Array Value->Array Value):(o.mapFields f).dict=o.dict:=by
 obtain⟨c,d,dt,sl⟩:=o;cases dt <;> rfl
section
variable{M:Model}{A:Around}{E:Value->Shared->Prop}{s:Shared}
theorem Rp{base:Heap}{env:Env}{outer:List Env}{L e:Addr}{oe:Obj}{vs:Array Value}{head:Value}{nx:Bool}{Q:Unit->Shared->Prop}(jq:A.frames=some (env :: outer))(hl:s.heap.FunFrames base<|env :: outer)(hf:env.frame=some L)
  (he:s.heap.get? e=some oe) (hd:oe.data = .fields vs) (vG:oe.dict=none) (h1:1 < vs.size) (h2:vs[2]?=some .none)
  (h:∀ h' T,s.heap.get? T=none->Xo h' e T oe.cls .none->Kp (eF<|env :: outer) [e] s.heap h'->Q () {s with heap:=h'}) :
  wpAny M A (do let a <- frameOf env;let pl <- entryPlaceOf L nx;let b <- EntryCells.newEntry head a .none (rawInt L) .none pl;setField (.ref e) 1 b) (λ_ s'=>wpAny M A (setFlight (.ref e) none) Q E s') E s:=by
 have Rq:e∉eF (env :: outer):=λhm=>by
  obtain⟨_,o,ho,hn⟩:=hl.mem hm;rw [he] at ho;cases ho;exact hn vs hd
 refine BJ<|wpAny_frameOf_fun jq hl hf λha sa=>?_;refine BJ<|wpAny_entryPlaceOf λpl ip=>?_;unfold EntryCells.newEntry newFields;refine BJ<|CW ?_<|ip.sizeOk5 _ _ _ _ _;generalize hT:({cls:= .type "traceback",dict:=none,data:= .fields ([head,.ref L,.none,rawInt L,.none]++(if pl.isEmpty then List.replicate 6 Value.none else pl)).toArray}:Obj)=oT;have ea:ha.get? e=some oe:=(sa.2.1 e Rq).trans he;have eb:(ha.push oT).get? e=some oe:=Ag _ ea;have tb:(ha.push oT).get? ha.objs.size=some oT:=At ha (by rw [<- hT];rfl);have IL:ha.objs.size≠e:=Cs<|Au ea;refine DQ eb hd h1 ?_;have dc:=QK hd (·.setIfInBounds 1 (Value.ref ha.objs.size));have ec:=Da (Obj.mapFields (·.setIfInBounds 1 (Value.ref ha.objs.size))) eb<|MP dc;have tc:((ha.push oT).update e (Obj.mapFields (·.setIfInBounds 1 (Value.ref ha.objs.size)))).get? ha.objs.size=some oT:=(Cd _ _<|CK IL).trans tb;unfold setFlight;refine BJ (JH ec dc (x:= .ref ha.objs.size) (by simp [h1]) ?_);rw [BP (show(Value.ref ha.objs.size != Value.none)=true from by simp)];have dT:oT.data = .fields ([head,.ref L,.none,rawInt L,.none]++(if pl.isEmpty then List.replicate 6 Value.none else pl)).toArray:=by rw [<- hT]
 have sz:3 < ([head,.ref L,.none,rawInt L,.none]++(if pl.isEmpty then List.replicate 6 Value.none else pl)).toArray.size:=by
  simp only [Aw,Af,As,Eh];omega
 refine DQ tc dT sz<|h _ ha.objs.size (by
  cases hq:s.heap.get? ha.objs.size with
  | none=>rfl
  | some o=>
   obtain⟨sl,z⟩:=sa.2.2 _ o hq;exact absurd (Au z)<|Cz _) ?_ ?_
 ·have dd:=QK dT (·.setIfInBounds 3 ((none:Option Addr).elim Value.none λf=>rawInt f));refine⟨⟨_,_,(Cd _ _ IL).trans ec,Obj.cls_mapFields _ _,by rw [j7w];exact vG,dc,by simp [h1],by rw [Array.getElem?_setIfInBounds_ne<|by decide];exact h2⟩,IL,⟨_,_,Da _ tc<|MP dd,dd,?_⟩⟩;rw [Array.getElem?_setIfInBounds_self_of_lt sz];rfl
 ·have kp:∀ b o,b≠e->ha.get? b=some o->(((ha.push oT).update e (Obj.mapFields (·.setIfInBounds 1 (Value.ref ha.objs.size)))).update ha.objs.size (Obj.mapFields (·.setIfInBounds 3 ((none:Option Addr).elim Value.none λf=>rawInt f)))).get? b=some o:=λb o hb q=>by
   rw [Cd _ _<|Cs<|Au q,Cd _ _<|CK hb];exact Ag _ q
  refine⟨λb o q nf nb=>kp b o (λz=>nb<|by simp [z])<|(sa.2.1 b nf).trans q,λb o q hb=>?_⟩;obtain⟨sl,z⟩:=sa.2.2 b o q;exact⟨sl,kp b _ (λy=>Rq<|y ▸ hb) z⟩
theorem q2g{base:Heap}{env:Env}{outer:List Env}{L e:Addr}{oe:Obj}{vs:Array Value}{Q:Unit->Shared->Prop}(jq:A.frames=some (env :: outer))(hl:s.heap.FunFrames base<|env :: outer)(hf:env.frame=some L)
  (he:s.heap.get? e=some oe) (hd:oe.data = .fields vs) (vG:oe.dict=none) (h1:vs[1]?=some .none) (h2:vs[2]?=some .none)
  (h:∀ h' T,s.heap.get? T=none->Xo h' e T oe.cls .none->Kp (eF<|env :: outer) [e] s.heap h'->Q () {s with heap:=h'}) :
  wpAny M A (noteFrame (.ref e) env) (λ_ s'=>wpAny M A (setFlight (.ref e) none) Q E s') E s:=by
 unfold noteFrame;simp only [hf];refine BJ<|JH he hd h1 ?_;rw [BK<|by decide];exact Rp jq hl hf he hd vG (Fp.mp h1).1 h2 h
theorem q5x{base:Heap}{env:Env}{outer:List Env}{L e T:Addr}{C:Value}{Q:Unit->Shared->Prop}(jq:A.frames=some (env :: outer))(hl:s.heap.FunFrames base<|env :: outer)(hf:env.frame=some L)(x:Xo s.heap e T C .none)
  (h:∀ h' T',s.heap.get? T'=none->Xo h' e T' C .none->Kp (eF<|env :: outer) [e,T] s.heap h'->Q () {s with heap:=h'}) :
  wpAny M A (noteFrame (.ref e) env) (λ_ s'=>wpAny M A (setFlight (.ref e) none) Q E s') E s:=by
 obtain⟨⟨oe,vs,he,hc,vG,hd,h1,h2⟩,bB,⟨oT,ts,hT,dT,h3⟩⟩:=x;subst hc;unfold noteFrame;simp only [hf];refine BJ<|JH he hd h1 ?_;rw [BP (show(Value.ref T != Value.none)=true from by simp)];refine BJ<|JH hT dT h3 ?_;rw [BK (show ¬((Value.none == rawInt L)=true) from by simp [rawInt])];refine BJ<|DQ hT dT (Fp.mp h3).1 ?_;have nT:∀ b,b≠T->(s.heap.update T (Obj.mapFields (·.setIfInBounds 3 Value.none))).get? b=s.heap.get? b:=λb hb=>Cd _ _<|CK hb;have Rr:∀ b o,s.heap.get? b=some o->(∀ vs,o.data ≠ .fields vs)->b≠T:=λb o q hn z=>by
  rw [z,hT] at q;cases q;exact hn ts dT
 have nf:T∉eF (env :: outer):=λhm=>by
  obtain⟨_,o,ho,hn⟩:=hl.mem hm;exact Rr T o ho hn rfl
 refine Rp jq (hl.of_keeps λb o q hn=>⟨o,(nT b<|Rr b o q hn).trans q,rfl⟩) hf ((nT e<|CK bB).trans he) hd vG (Fp.mp h1).1 h2 λh' T' z x k=>h h' T' ?_ x ⟨λb o q n1 n2=>?_,λb o q hb=>?_⟩
 ·cases hq:s.heap.get? T' with
  | none=>rfl
  | some o=>
   by_cases y:T'=T
   ·have:=Da (Obj.mapFields (·.setIfInBounds 3 Value.none)) hT<|MP<|QK dT _;rw [y] at z;exact absurd (this.symm.trans z)<|by simp
   ·have:=(nT T' y).trans hq;exact absurd (this.symm.trans z)<|by simp
 ·have n3:b≠T:=λy=>n2 (by simp [y]);exact k.keep b o ((nT b n3).trans q) n1 λy=>n2<|by simp at y;simp [y]
 ·exact k.slot b o ((nT b λy=>nf<|y ▸ hb).trans q) hb
end
theorem IM{fs f2 bad:List Addr}{H H':Hp}{h h1 h2:Heap}(u:Un fs [] H H' h h1)(k:Kp f2 bad h1 h2)(hf:∀ b o,h.get? b=some o->b∈f2->b∈fs)(hb:∀ b∈bad,h.get? b=none):Un fs [] H H' h h2:=by
 have nb:∀ b o,h.get? b=some o->b∉bad:=λb o q z=>by rw [hb b z] at q;cases q
 refine⟨λb o q n nf _=>k.keep b o (u.keep b o q n nf<|by simp) (λz=>nf<|hf b o q z)<|nb b o q,λb o q n hm _=>?_,u.free,λb o q _=>?_,u.fc,u.d9,u.fe⟩
 ·obtain⟨sl,z⟩:=u.slot b o q n hm<|by simp
  by_cases y:b∈f2
  ·obtain⟨wI,z'⟩:=k.slot b _ z y;exact⟨wI,z'⟩
  ·exact⟨sl,k.keep b _ z y<|nb b o q⟩
 ·obtain⟨o',z⟩:=u.there b o q<|by simp
  by_cases y:b∈f2
  ·obtain⟨wI,z'⟩:=k.slot b _ z y;exact⟨_,z'⟩
  ·exact⟨o',k.keep b _ z y<|nb b o q⟩
theorem Rt{P:Program}{w:World}{f2 bad:List Addr}{H:Hp}{h1 h2:Heap}(x:b6 P w H h1)(k:Kp f2 bad h1 h2)(hf:∀ b∈f2,H b=none)(hb:∀ b∈bad,H b=none):b6 P w H h2:=λa o e=>by
 refine(x a o e).gU (λb u hh q=>k.keep b u q (λz=>?_) λz=>?_) (λ_ q=>q) λ_ _ q=>q
 ·have:=hf b z
  rcases hh with y | y
  ·rw [y,e] at this;cases this
  ·rw [y] at this;cases this
 ·have:=hb b z
  rcases hh with y | y
  ·rw [y,e] at this;cases this
  ·rw [y] at this;cases this
theorem q70{P:Program}{w:World}{H:Hp}{h:Heap}{a:Addr}{o:HO}(x:aC P w H h a o):∃ u,h.get? a=some u:=by
 cases o with
 | lst xs=>obtain⟨_,_,_,_,q⟩:=x;exact⟨_,q⟩
 | tup xs=>obtain⟨_,_,_,u,q,_⟩:=x;exact⟨_,q⟩
 | dK kvs=>obtain⟨_,_,_,_,u,_,_,q,_⟩:=x;exact⟨_,q⟩
 | dT kvs=>obtain⟨_,_,_,_,u,_,_,q,_⟩:=x;exact⟨_,q⟩
 | set S n=>obtain⟨u,_,_,_,q,_⟩:=x;exact⟨_,q⟩
 | ins C dx fs=>obtain⟨_,_,_,q,_⟩:=x;exact⟨_,q⟩
 | own y=>exact x
 | xd fs=>obtain⟨_,⟨_,_,_,q,_⟩,_⟩:=x;exact⟨_,q⟩
 | wD lo hi=>obtain⟨_,_,_,q⟩:=x;exact⟨_,q⟩
 | bX ob u=>obtain⟨q,_⟩:=x;exact⟨_,q⟩
 | mP ps=>exact⟨_,x⟩
 | met f y=>exact⟨_,x⟩
 | ext φ=>obtain⟨_,q,_⟩:=x;exact q
def XF(P:Program)(w:World):gH:=λouter H s E e s'=>∃(ea T:Addr) (C:Value) (H':Hp),e = .ref ea/\E C none H'/\s'.os=s.os/\AllBare s'.gens/\Un (eF outer) [] H H' s.heap s'.heap/\b6 P w H' s'.heap/\Xo s'.heap ea T C .none /\
 s.heap.get? ea=none/\s.heap.get? T=none/\H' ea=none/\H' T=none
section
variable{P:Program}{w:World}{K:PySem.W.Frag}{mg:Str->Option Value}{base:Heap}{N:List Str}{qual:Str}{scope:Scope}{f:Addr}{cd:Value}{A:Around}{outer:List Env}{s:Shared}{H:Hp}{E:XK}
theorem Ru:eF (envOfC qual scope s.heap.objs.size f cd :: outer)=s.heap.objs.size :: eF outer:=rfl
theorem vH{b:Addr}{fs ex:List Addr}{Ha Hb:Hp}{h h1:Heap}(u:Un fs ex Ha Hb h h1)(hx:b∉ex)(n:h1.get? b=none):h.get? b=none:=by
 cases q:h.get? b with
 | none=>rfl
 | some o=>obtain⟨o',z⟩:=u.there b o q hx;rw [n] at z;cases z
theorem IP{P:Program}{w:World}{Ha:Hp}{h1:Heap}{b:Addr}(x:b6 P w Ha h1)(n:h1.get? b=none):Ha b=none:=by
 cases q:Ha b with
 | none=>rfl
 | some o=>
  exfalso
  obtain⟨u,z⟩:=q70<|x b o q;rw [n] at z;cases z
theorem q5t{pins:List (Addr×Obj)}{σ:St}{H1:Hp}{s1:Shared}{e T:Addr}{C:Value}(I:Inv (c6 (XF P w) P w K mg base N qual scope f cd A outer s H E) pins σ H1 s1)(x:Xo s1.heap e T C .none)(hE:E C none H1)
  (n1:s.heap.get? e=none) (n2:s.heap.get? T=none) (n3:H1 e=none) (n4:H1 T=none):(c6 (XF P w) P w K mg base N qual scope f cd A outer s H E).xe (.ref e) s1:=by
 show wpAny (model P w) (A.deeper<|envOfC qual scope s.heap.objs.size f cd) (leaving (envOfC qual scope s.heap.objs.size f cd)<|.ref e) _ _ s1;unfold leaving;refine BJ<|q5x (base:=base) (outer:=outer) I.ok.frames I.stack rfl x λh' T' z x' k=>?_;refine⟨e,T',C,H1,rfl,hE,I.os,I.bare,IM (H:=H) (h:=s.heap) I.base k (λb o q hb=>?_) λb hb=>?_,Rt I.aH k (λb hb=>I.dw b hb) λb hb=>?_,x',n1,vH (ex:=[]) (Hb:=H1) I.base (by simp) z,n3,IP I.aH z⟩
 ·rw [Ru] at hb
  rcases Ai.mp hb with y | y
  ·exact absurd (Au q)<|by rw [y];exact Cz _
  ·exact y
 ·rcases Ai.mp hb with y | y
  ·rw [y];exact n1
  ·rw [Ad.mp y];exact n2
 ·rcases Ai.mp hb with y | y
  ·rw [y];exact n3
  ·rw [Ad.mp y];exact n4
theorem x0k:ll (XF P w) (c6 (XF P w) P w K mg base N qual scope f cd A outer s H E) E:=by
 rintro pins σ H1 s1 e s2 I ⟨ea,T,C,H',rfl,hE,os,bare,un,aH,x,n1,n2,n3,n4⟩;have I2:=I.call' (ch:=[]) os un aH bare (λb z=>absurd z<|by simp);exact q5t I2 x hE (vH (ex:=[]) (Hb:=H1) I.base (by simp) n1) (vH (ex:=[]) (Hb:=H1) I.base (by simp) n2) n3 n4
end
abbrev mI:List Value:=[.type "ValueError",.type "Exception",.type "BaseException",.type "object"]
def XC(K:PySem.W.Frag)(C:Addr):Prop:=PySem.W.excIn K C mI "ValueError.__new__" = true
theorem XC.obj{K:PySem.W.Frag}{h:Heap}{C:Addr}(q:XC K C)(X:K.In h):∃ bm N nm qn bs hdct sn sub ab col dd k0 k1 k2 k3 k5 mN,h.get? C=some (excClassObj nm qn C N bs bm hdct sn sub ab col dd k0 k1 k2 k3 k5 "ValueError.__new__")/\h.Ns N mN/\mN "__init__" = none/\OwnTail h mI bm:=by
 unfold XC PySem.W.excIn at q
 split at q
 ·rename_i dd cd sl ho
  split at q
  ·rename_i D bm k0 k1 k2 k3 n k5 hm hs;simp only [Bv,JM,KN] at q;obtain⟨⟨⟨⟨⟨eD,en⟩,vI⟩,ht⟩,aH⟩,nR⟩:=q;obtain⟨nm,bs,mro,ns,qn,hd,sn,sub,ab,col,del⟩:=cd
   dsimp only at hm vI aH nR
   subst eD en hm vI;have esl:sl=#[k0,k1,k2,k3,some<|.builtin "ValueError.__new__",k5]:=by
    cases sl;simp only at hs;rw [hs]
   subst esl;exact⟨bm,ns,nm,qn,bs,hd,sn,sub,ab,col,dd,k0,k1,k2,k3,k5,_,X _ _ ho,.of_isNs<|PySem.W.isNs_of_in X aH,PySem.W.nsMap_none_of_in X aH nR,PySem.W.tail_of_in X ht⟩
  ·cases q
 ·cases q
section
variable{X:Cx}{σ:St}{H:Hp}{D:Ends}{rest:List Stmt}
def Rz(X:Cx)(E:St->XK):Prop:=∀(pins:List<|Addr×Obj) (σ:St) (H:Hp) (s:Shared) (h':Heap) (e C:Addr) (args:List Value),Inv X pins σ H s->Heap.MadeExcOf s.heap h' e (.ref C) args->E σ (.ref C) none H->X.xe (.ref e) {s with heap:=h'}
theorem k79{E:St->XK}(hz:Rz X E){x:Str}{C:Addr}{a:Expr}{np cp pos:Pos}(hm:X.mg x=some (.ref C))(hC:XC X.K C)(hc:X.calm=true)(h:Ea X [a] σ H λvs H1=>vs.length<=sizeLine/\E σ (.ref C) none H1)(hg:Gl X x:=by rfl)(di:(x == ("__debug__" : Str))=false:=by decide)
  (he:starEach [a] X.env=(false,eval a X.env) :: starEach [] X.env:=by rfl):Run X (.Raise (some<|.Call (.Name x np) [a] [] cp) none pos :: rest) D σ H:=by
 refine lF (t:=λD σ H=>Ea X [a] σ H λvs H1=>vs.length<=sizeLine/\E σ (.ref C) none H1) ?_ h;intro pins s σ H D I h;obtain⟨bm,N,nm,qn,bs,hdct,sn,sub,ab,col,dd,k0,k1,k2,k3,k5,mN,oC,oN,oi,oT⟩:=hC.obj I.ok.mod.qN;refine wpAny_Raise_call_subT (C:=C) (nm:=nm) (q:=qn) (N:=N) (bs:=bs) (bm:=bm) (hdct:=hdct) (sn:=sn) (sub:=sub) (ab:=ab) (col:=col) (dd:=dd) (k0:=k0) (k1:=k1) (k2:=k2) (k3:=k3) (k5:=k5) PySem.F.excBase_ValueError (mN:=mN) (oT.hasType PySem.F.excBase_ValueError.hasBase) (I.ok.hd hc) (by rw [he];rfl) oi<|Le I hg hm ⟨rfl,?_⟩ di;have q:=h.run cp pins s I;rw [he] at q ⊢;refine NQ<|aP q λus s2 ⟨vs,H2,I2,r,z2,q2⟩=>⟨rfl,by rw [<- r.length];exact z2,I2.bk _ _ oC,oN.keeps I2.bk,oT.keeps I2.bk,λh' e hx=>hz pins σ H2 s2 h' e C us I2 hx q2⟩
end
section
variable{P:Program}{w:World}{K:PySem.W.Frag}{mg:Str->Option Value}{base:Heap}{N:List Str}{qual:Str}{scope:Scope}{f:Addr}{cd:Value}{A:Around}{outer:List Env}{s:Shared}{H:Hp}{E:XK}
theorem q8e{h h':Heap}(k:∀ b o,h.get? b=some o->h'.get? b=some o):Kp [] [] h h':=⟨λb o q _ _=>k b o q,λb o q z=>absurd z<|by simp⟩
theorem x0p:Rz (c6 (XF P w) P w K mg base N qual scope f cd A outer s H E) (λ_=>E):=by
 intro pins σ H1 s1 h' e C args I hx hE;obtain⟨t,he,_,_⟩:=hx.there;show wpAny (model P w) (A.deeper<|envOfC qual scope s.heap.objs.size f cd) (leaving (envOfC qual scope s.heap.objs.size f cd)<|.ref e) _ _ _;unfold leaving;have n0:H1 e=none:=IP I.aH hx.new;have k1:=q8e hx.keeps;refine BJ<|q2g (s:={s1 with heap:=h'}) (base:=base) (outer:=outer) I.ok.frames (I.stack.of_keeps λb o q _=>⟨o,hx.keeps b o q,rfl⟩) rfl he rfl rfl rfl rfl λh2 T z x k=>?_;have IQ:b6 P w H1 h':=I.aH.kept hx.keeps;have un1:Un (eF outer) [] H H1 s.heap h':=IM (H:=H) (h:=s.heap) I.base k1 (λb o q hb=>absurd hb<|by simp) λb hb=>absurd hb (by simp);have nT:s1.heap.get? T=none:=by
  cases q:s1.heap.get? T with
  | none=>rfl
  | some o=>have:=hx.keeps _ _ q;exact absurd (this.symm.trans z)<|by simp
 have ns:s.heap.get? e=none:=vH (ex:=[]) (Hb:=H1) I.base (by simp) hx.new;refine⟨e,T,.ref C,H1,rfl,hE,I.os,I.bare,IM un1 k (λb o q hb=>?_) λb hb=>?_,Rt IQ k (λb hb=>I.dw b hb) λb hb=>?_,x,ns,vH (ex:=[]) (Hb:=H1) I.base (by simp) nT,n0,IP I.aH nT⟩
 ·rw [Ru] at hb
  rcases Ai.mp hb with y | y
  ·exact absurd (Au q)<|by rw [y];exact Cz _
  ·exact y
 ·rw [Ad.mp hb];exact ns
 ·rw [Ad.mp hb];exact n0
def IT(N:List Str)(qual:Str)(scope:Scope)(P:Program)(w:World)(K:PySem.W.Frag)(mg:Str->Option Value)(base:Heap)(b:rg):Cx:=c6 (XF P w) P w K mg base N qual scope b.f b.bI b.A b.outer b.s b.H b.E
theorem bx.gx{x:Str}{st:Stmt}{fd:FuncData}{ps:List Str}{k:Nat}{sp:Sp}(F:bx K x qual st f fd)(S:ak N ps<|aW st)(len:∀ vs H Q E,sp vs H Q E->vs.length=ps.length)
  (cQ:∀(b:rg) (H:Hp) (vs:List V) (Q:VK),bw k (b.A.deeper<|envOfC qual (aW st) b.s.heap.objs.size b.f b.bI)->sp vs H Q b.E->Run (IT N qual (aW st) P w K mg base b) (iS st) (En Q) (start N vs) H):aF P w K mg base (XF P w) (k+1) f fd ps sp:=by
 obtain⟨oc,od,kV,doc,pm,an,bI,ct,kA,rfl,lk,ig⟩:=F.ex;refine LZ lk ig S len λA outer s H vs Q E hr dX=>?_;exact⟨_,oR,cQ ⟨f,bI,A,outer,s,H,E⟩ H vs Q hr dX⟩
theorem Rv{b:rg}:ll (XF P w) (IT N qual scope P w K mg base b) b.E:=x0k
theorem rzX{b:rg}:Rz (IT N qual scope P w K mg base b) (λ_=>b.E):=x0p
end
structure dk(P:Program)(w:World)(K:PySem.W.Frag)(mg:Str->Option Value)(base:Heap)(k:Nat)(x:Str)(ps:List Str)(sp:Sp):Prop where
 ex:∃ f fd,aF P w K mg base (XF P w) k f fd ps sp/\Binds K fd ps []/\PySem.W.keepIn K (.ref f)=true/\mg x=some (.ref f)
theorem dk.mono{P:Program}{w:World}{K:PySem.W.Frag}{mg:Str->Option Value}{base:Heap}{j k:Nat}{x:Str}{ps:List Str}{sp:Sp}(h:dk P w K mg base j x ps sp)(le:j<=k):dk P w K mg base k x ps sp:=
 let ⟨f,fd,F,r⟩:=h.ex;⟨f,fd,F.mono le,r⟩
theorem yN{X:Cx}{k:Nat}{ps:List Str}{sp:Sp}{x:Str}{e:Expr}{es:List Expr}{σ:St}{H:Hp}{Q:VK}{E:XK}{p pos:Pos}(G:dk X.prog X.w X.K X.mg X.base k x ps sp)(hr:bw k X.A)(hx:ll (XF X.prog X.w) X E)
  (h:Ea X (e :: es) σ H λvs H1=>sp vs H1 Q E) (hg:Gl X x:=by rfl) (di:(x == ("__debug__" : Str))=false:=by decide) (hs:noStar (e :: es)=true:=by rfl):Ev X (.Call (.Name x p) (e :: es) [] pos) σ H Q:=
 let ⟨_,_,F,b,kp,m⟩:=G.ex;ME F hr m kp b hx h hg di hs
theorem Df.qw{P:Program}{w:World}{K:PySem.W.Frag}{mg:Str->Option Value}{h base:Heap}{k:Nat}{x:Str}{st:Stmt}{ps:List Str}{sp:Sp}(d:Df K x st)(X:K.In h)(G:h.Ns mainGlobals mg)
  (hb:∀(kV doc pm:Value) (an:Option Addr) (bI ct:Value) (us:List Value),us.length=ps.length->bindArgs (PySem.W.fnOf x x (mW st) (iS st) (aW st) .none kV doc pm an bI ct) ⟨us,[]⟩=pure (ps.zip us))
  (ok:∀{f:Addr} {fd:FuncData},bx K x x st f fd->aF P w K mg base (XF P w) k f fd ps sp):dk P w K mg base k x ps sp:=
 let ⟨f,fd,a,F⟩:=d;⟨f,fd,ok F,F.binds hb,F.kp,LC X G a⟩
section
variable{X:Cx}{CX:gH}{k:Nat}{f:Addr}{fd:FuncData}{ps:List Str}{sp:Sp}{E:XK}{x:Str}{p pos:Pos}{e:Expr}{es:List Expr}{σ:St}{H:Hp}{Q:VK}
end
section
variable{X:Cx}{pins:List (Addr×Obj)}{σ:St}{H:Hp}{s:Shared}{b:Addr}
end
def Rw(K:PySem.W.Frag)(C S:Addr):Bool:=match K.lookup C with
 | some ⟨_,_,.cls cd,_⟩=>cd.mro.contains<|.ref S
 | _=>false
section
variable{M:Model}{A:Around}{E:Value->Shared->Prop}{K:PySem.W.Frag}{s:Shared}
end
section
variable{X:Cx}{pins:List (Addr×Obj)}{σ:St}{H:Hp}{s:Shared}
end
open PySem.W
section
variable{prog:Program}{w:World}{A:Around}{E:Value->Shared->Prop}{s:Shared}{K:Frag}{a C:Addr}{o:Obj}
def Rx(K:Frag)(C:Addr):Bool:=findIn K (.ref C) "__getattribute__" == some (some<|.builtin "BaseException.__getattribute__") && findIn K (.ref C) "__getattr__" == some none && findIn K (.ref C) "__class__" == some (some<|.builtin "object.__class__") &&
 mroIn K C (.type "object") == some true && mroIn K C (.type "BaseException") == some true && (clsIn K C).isSome
end
end L2
namespace L2
open PySem PySem.Spec PyProof.Rows
section
variable{prog:Program}{w:World}{A:Around}{E:Value->Shared->Prop}{s:Shared}
end
open bC
section
variable{X:Cx}{a b e:Expr}{es:List Expr}{σ:St}{H:Hp}{Q:VK}{pos p kp cp:Pos}{j:Nat}
end
end L2
namespace L2
open PySem PySem.Spec PyProof.Rows bA
def nZ(e:Expr)(i2:Expr)(d:Nat)(acc:Value)(env:Env):Sem Unit:=do
 let x <- eval i2 env
 standAt i2.pos
 let x <- foldedSetIterable i2 env x
 let _ <- runOwn (.compStart e d (<- holding [x]<|pyIter x) acc env) env
section
variable{X:Cx}{elt t1 i1 t2 i2 t3 i3:Expr}{f1 f2 f3:List Expr}{scope:Scope}{pos:Pos}{σ:St}{H:Hp}{acc:Value}{env:Env}
theorem q10:Clause (.ListComp elt [⟨t1,i1,f1,0⟩,⟨t2,i2,f2,0⟩,⟨t3,i3,f3,0⟩] scope pos) 0 t1 i1 f1 acc env (nZ (.ListComp elt [⟨t1,i1,f1,0⟩,⟨t2,i2,f2,0⟩,⟨t3,i3,f3,0⟩] scope pos) i2 1 acc env):=⟨rfl,λ_=>rfl,λ_ _ _=>rfl,λ_ _=>rfl,λ_ _ _=>rfl,λ_ _=>rfl,λit=>by
 unfold nZ;simp only [bind_assoc,pure_bind];rfl⟩
theorem q1g:Clause (.ListComp elt [⟨t1,i1,f1,0⟩,⟨t2,i2,f2,0⟩,⟨t3,i3,f3,0⟩] scope pos) 1 t2 i2 f2 acc env (nZ (.ListComp elt [⟨t1,i1,f1,0⟩,⟨t2,i2,f2,0⟩,⟨t3,i3,f3,0⟩] scope pos) i3 2 acc env):=⟨rfl,λ_=>rfl,λ_ _ _=>rfl,λ_ _=>rfl,λ_ _ _=>rfl,λ_ _=>rfl,λit=>by
 unfold nZ;simp only [bind_assoc,pure_bind];rfl⟩
theorem q1v:Clause (.ListComp elt [⟨t1,i1,f1,0⟩,⟨t2,i2,f2,0⟩,⟨t3,i3,f3,0⟩] scope pos) 2 t3 i3 f3 acc env (emit elt acc env):=⟨rfl,λ_=>rfl,λ_ _ _=>rfl,λ_ _=>rfl,λ_ _ _=>rfl,λ_ _=>rfl,λ_=>rfl⟩
theorem Ry{e:Expr}{d:Nat}{inner:Sem Unit}{wi:TI}{Q:St->Hp->Prop}(C:Clause e d t2 i2 f2 acc X.env inner)(d6:X.xe=λ_ _=>False)(hc:X.calm=true)(hi:PI X t2 i2 wi)(h:wi σ H λJ H1=>fm X t2 f2 inner J Q σ H1)
  (hs:∀ x,foldedSetIterable i2 X.env x=pure x:=by intro _;rfl):iZ X (nZ e i2 d acc X.env) σ H Q:=by
 refine⟨λpins s I=>?_⟩;unfold nZ;refine BJ<|aP (hi pins s σ H _ I h) λx s1 h1=>?_;refine BJ<|FZ<|BJ<|HW (hs x)<|BJ<|CG<|CT h1 (λlh s2 h2=>?_) λ_ _ e=>e;obtain⟨it,fp,tn,J,H2,e,I2,T,eV,l7,q⟩:=h2;subst e;refine BJ<|RM (Q:=λ_ s'=>wpAny (model X.prog X.w) X.A (pure ()) (λ_ s'=>∃ σ' H',Inv X pins σ' H' s'/\Q σ' H') X.xe s') ?_;exact tW d6 hc C I2 T eV l7 q λσ' H' s' I' q'=>BL ⟨σ',H',I',q'⟩
theorem k99{wi:TI}{Q:VK}(sc:Scope)(N N':List Str)(n:Nat)(hi:PI X t1 i1 wi)
  (h:wi σ H λJ H1=>∀ D,H1 D=none->∀ cl C s₀ H₀ ex,fm (eX X N' scope cl C s₀ H₀ ex) t1 f1 (nZ (.ListComp elt [⟨t1,i1,f1,0⟩,⟨t2,i2,f2,0⟩,⟨t3,i3,f3,0⟩] scope pos) i2 1 (.ref D)<|compEnvC scope cl C X.env) J (λ_ H'=>Q (.ref D) H') (σ++List.replicate n none)<|upd H1 D<|.lst [])
  (hc:X.calm=true:=by rfl) (i0:X.env.scope=sc:=by rfl) (hN:X.N=N:=by rfl) (hk:lJ sc scope N N'=true:=by decide +kernel) (hl:N'.length=N.length+n:=by rfl)
  (hs:∀ x,foldedSetIterable i1 X.env x=pure x:=by intro _;rfl):Ev X (.ListComp elt [⟨t1,i1,f1,0⟩,⟨t2,i2,f2,0⟩,⟨t3,i3,f3,0⟩] scope pos) σ H Q:=by
 refine⟨λpins s I=>?_⟩;subst i0 hN;have ck:=cj.of hk;rw [eval_ListComp];refine JZ (use:=none) rfl hs (A1 λx hx hf=>I.ok.has x.1<|ck.free x hx hf) ck.kind ck.names (aP (hi pins s σ H _ I h) λv s1 h1=>aP h1 λlh s2 h2=>?_);obtain⟨it,fp,tn,J,H2,e,I2,T,eV,l7,q⟩:=h2;subst e;refine B1 (e:= .ListComp elt [⟨t1,i1,f1,0⟩,⟨t2,i2,f2,0⟩,⟨t3,i3,f3,0⟩] scope pos) (newAcc:=newList []) (o0:={cls:= .type "list",dict:=none,data:= .seq ([]:List Value).toArray}) (u0:=λ_=> .lst []) (λ_ _ _ h=>CW h<|by show(0:Nat)<=sizeLine;exact Bt _) (λ_ _ _=>⟨Bt _,[],0,.nil,At _ rfl⟩) (Q:=Q) (RR:=λacc C=>compPost (model X.prog X.w) X.A X.xe none (EP X pins σ Q) acc C) hc ck hl (inner:=λacc env=>nZ (.ListComp elt [⟨t1,i1,f1,0⟩,⟨t2,i2,f2,0⟩,⟨t3,i3,f3,0⟩] scope pos) i2 1 acc env) (λ_ _=>q10) I2 T eV l7 q ?_;intro D C H' s' m IX hn hC c1 c2 c3 c4 qq;exact⟨m,hn,λh' jI=>⟨.ref D,H',IX.turned (t':=s'.toks) (λb o hb e=>jI.extBut b o hb e) hC (CK<|CK c1) (.inr c2) c3 c4,rfl,qq⟩⟩
end
section
variable{X:Cx}{tg:Expr}{ifs:List Expr}{inner:Sem Unit}{σ:St}{H:Hp}{a:Addr}{xs:List V}{after:St->Hp->Prop}
theorem k1j(Pv:Nat->St->Hp->Prop)(h0:Pv 0 σ H)(hl:∀ i σ' H',i<=xs.length->Pv i σ' H'->aI X.K H' a xs)
  (hs:∀ i x σ' H',xs[i]?=some x->Pv i σ' H'->Eg X tg x σ' H' λσ2 H3=>Ei X ifs σ2 H3 λb H4=>if b=true then iZ X inner σ2 H4 (Pv<|i+1) else Pv (i+1) σ2 H4)
  (hd:∀ σ' H',Pv xs.length σ' H'->after σ' H'):fm X tg ifs inner (wM X.K a) after σ H:=by
 refine⟨λi m σ' H'=>m=xs.length - i/\i<=xs.length/\Pv i σ' H',⟨_,rfl,Bt _,h0⟩,?_⟩;rintro i m σ' H' ⟨rfl,hi,p⟩;have q:=hl i σ' H' hi p
 by_cases aY:i < xs.length
 ·refine .inr ⟨⟨xs,xs[i],q,by simp [aY]⟩,Pv<|i+1,λσ' H' p'=>⟨xs.length - (i+1),by omega,rfl,aY,p'⟩,λx H2 y=>?_⟩;obtain⟨e,y⟩:=y;subst e;exact hs i x σ' _ (y xs q) p
 ·have e:i=xs.length:=by omega
  subst e;exact .inl ⟨⟨xs,q,Al _⟩,hd σ' H' p⟩
theorem j9u(Pv:Nat->St->Hp->Prop)(h0:Pv 0 σ H)(hl:∀ i σ' H',i<=xs.length->Pv i σ' H'->aq X.K H' a xs)
  (hs:∀(i:Nat) x T σ' H',xs[i]?=some x->Pv i σ' H'->H' T=none->Eg X tg (.ref T) σ' (upd H' T<|.tup [.int (i:Int),x]) λσ2 H3=>Ei X ifs σ2 H3 λb H4=>if b=true then iZ X inner σ2 H4 (Pv<|i+1) else Pv (i+1) σ2 H4)
  (hd:∀ σ' H',Pv xs.length σ' H'->after σ' H'):fm X tg ifs inner (Iv X.K a) after σ H:=by
 refine⟨λi m σ' H'=>m=xs.length - i/\i<=xs.length/\Pv i σ' H',⟨_,rfl,Bt _,h0⟩,?_⟩;rintro i m σ' H' ⟨rfl,hi,p⟩;have q:=hl i σ' H' hi p
 by_cases aY:i < xs.length
 ·refine .inr ⟨⟨xs,xs[i],q,by simp [aY]⟩,Pv<|i+1,λσ' H' p'=>⟨xs.length - (i+1),by omega,rfl,aY,p'⟩,λv H2 y=>?_⟩;obtain⟨T,x,hT,rfl,rfl,hx⟩:=y;exact hs i x T σ' _ (hx xs q) p hT
 ·have e:i=xs.length:=by omega
  subst e;exact .inl ⟨⟨xs,q,Al _⟩,hd σ' H' p⟩
end
theorem RA:∀{xs:List V} {us:List Value} (k:Nat),aw xs us->aw (xs.drop k) (us.drop k)
 | _,_,0,h=>h
 | _,_,k+1,.nil=> .nil
 | _,_,k+1,.cons _ t=>RA k t
theorem pick_from(its:List Value){k:Nat}(hk:k<=1):slicePick its.toArray (some (k:Int)) none (some 2)=(ah<|its.drop k).toArray:=by
 unfold slicePick;have hb:sliceBounds (some (k:Int)) none (some 2) its.toArray.size=(((min k its.length:Nat):Int),(its.length:Int),2):=by
  show(max 0<|min (if(k:Int) < 0 then(k:Int)+_ else(k:Int)) _,_,_)=_;rw [BK (by omega),Aw];refine HN ?_ rfl;show max 0 (min (k:Int) (its.length:Int))=_;omega
 rw [hb]
 congr 1
 show((sliceRange ((min k its.length:Nat):Int) (its.length:Int) 2).filterMap (its.toArray[·]?))=ah (its.drop k);have hr:sliceRange ((min k its.length:Nat):Int) (its.length:Int) 2=(List.range<|(its.length - k+1) / 2).map λi=>k+2 * i:=by
  unfold sliceRange;have e1:(if(2:Int) > 0 then(if((min k its.length:Nat):Int) < (its.length:Int) then((its.length:Int) - ((min k its.length:Nat):Int)+2 - 1) / 2 else 0) else(if((min k its.length:Nat):Int) > (its.length:Int) then(((min k its.length:Nat):Int) - (its.length:Int) - 2 - 1) / (-2) else 0)).toNat=(its.length - k+1) / 2:=by
   rw [BP<|by decide]
   split <;> omega
  show(List.range _).map _=_;rw [e1];refine Ao λi hi=>?_;have:=Bp.mp hi;omega
 rw [hr,List.filterMap_map];have hl:(its.drop k).length=its.length - k:=Cg;obtain⟨h1,h2⟩:=E2 (λi=>its.toArray[k+2 * i]?) ((its.length - k+1) / 2) λi hi=>⟨its[k+2 * i]'(by omega),by rw [<- Bq];exact Ab (l:=its)<|by omega⟩;apply Dl;intro i;show((List.range<|(its.length - k+1) / 2).filterMap λi=>its.toArray[k+2 * i]?)[i]?=_
 by_cases hi:i < (its.length - k+1) / 2
 ·rw [h2 i hi,jt,<- Bq,De]
 ·rw [Bc (by omega),Bc<|by rw [nr,hl];omega]
section
variable{X:Cx}{σ:St}{H:Hp}{Q:VK}
theorem RC{e lo:Expr}{j:Nat}{p1 p2 pos:Pos} (h:Ev X e σ H λx H1=>∃ a xs,x = .ref a/\aq X.K H1 a xs/\Ev X lo σ H1 λy H2=>∃ k:Nat,y = .int (k:Int)/\k<=1/\aq X.K H2 a xs/\∀ p,H2 p=none->Q (.ref p) (upd H2 p<|.lst<|ah<|xs.drop k)) :
  Ev X (.Subscript e (.Slice (some lo) none (some<|.Constant (.int 2) j p1) p2) pos) σ H Q:=by
 refine⟨λpins s I=>QX<|aP (h.run pins s I) λv s1 ⟨x,H1,I1,r1,a,xs,ex,hx1,Mh⟩=>?_⟩;subst ex;cases (show v=Value.ref a from r1);refine wpAny_Slice ?_;rw [QL];refine aP (Mh.run pins s1 I1) λv0 s1' ⟨y0,RE,I1',r0,k,ey0,hk,hx,q⟩=>?_;subst ey0;obtain⟨t0,rfl⟩:=r0;refine BL ?_;rw [QL];refine aP ((aD (X:=X) (i:=2) (j:=j) (p:=p1) (σ:=σ) (H:=RE) (Q:=λy H2=>y = .int 2/\H2=RE) ⟨rfl,rfl⟩).run pins s1' I1') λv2 s2 ⟨y,H2,I2,r2,ey,eh⟩=>?_;subst ey eh;obtain⟨t,rfl⟩:=r2;obtain⟨its,r,pl,hz⟩:=I2.list hx;have hlen:=r.length;have I3:Inv X pins σ H2 {s2 with heap:=s2.heap.push {cls:= .type "slice",data:= .fields #[.int (k:Int) t0,.none,.int 2 t]}}:=I2.kept (t':=s2.toks) λb ob q=>Ag _ q;have uo:=pl.isList.push {cls:= .type "slice",data:= .fields #[.int (k:Int) t0,.none,.int 2 t]};show wpAny (model X.prog X.w) X.A (subscriptTail e _ (.ref a)<|.ref s2.heap.objs.size) (EP X pins σ Q) X.xe {s2 with heap:=s2.heap.push {cls:= .type "slice",data:= .fields #[.int (k:Int) t0,.none,.int 2 t]}};refine tail_any (ops:=[.ref a,.ref s2.heap.objs.size]) (T:= "list") (Heap.IsList.typeIs (s:={s2 with heap:=s2.heap.push {cls:= .type "slice",data:= .fields #[.int (k:Int) t0,.none,.int 2 t]}}) uo) slot_list_getitem.lookup ?_ (by with_unfolding_all rfl);refine JX (s:={s2 with heap:=s2.heap.push {cls:= .type "slice",data:= .fields #[.int (k:Int) t0,.none,.int 2 t]}}) uo (Heap.IsSliceOf.new ..) (.int (k:Int) t0) .none (.int 2 t) (by decide) ?_ (by rw [Aw];omega);rw [pick_from its hk];exact⟨.ref _,_,I3.oJ (t':=s2.toks) (E1<|RA k r) (By (EZ _)<|by rw [Cg];omega),rfl,q _ I3.fresh⟩
end
end L2
namespace Nt
open PySem L2 Classical
def cn{α:Type}(k:Nat)(w:List α):List α:=ah<|w.drop k
def cq(k:Nat):Nat->List (List End)->List (Nat×End)
 | _,[]=>[]
 | m,w :: ws=>((cn k w).map λe=>(m,e))++cq k (m+1) ws
def bZ(k:Nat)(ws:List<|List End):List (Nat×End):=cq k 0 ws
theorem RF(k:Nat):∀(m:Nat) (ws vs:List<|List End),cq k m (ws++vs)=cq k m ws++cq k (m+ws.length) vs
 | m,[],vs=>rfl
 | m,w :: ws,vs=>by
  show _++cq k (m+1) (ws++vs)=(_++cq k (m+1) ws)++_;rw [RF k (m+1) ws vs,Aq,As,show m+1+ws.length=m+(ws.length+1) by omega]
theorem k9w(k:Nat)(ws:List<|List End)(w:List End):bZ k (ws++[w])=bZ k ws++(cn k w).map λe=>(ws.length,e):=by
 unfold bZ;rw [RF,Eb];show _++(_++[])=_;rw [Be]
theorem RH(k:Nat):∀(m:Nat) (ws:List<|List End),(cq k m ws).map (·.2)=ws.flatMap (cn k)
 | m,[]=>rfl
 | m,w :: ws=>by
  unfold cq;rw [Ak,RH k (m+1) ws,Cb,Cf]
  congr 1
  exact List.map_id' _
theorem vJ{n:Net}{e:End}:cn 1 (walker n e)=(ah<|walker n e).map (go 1 n):=by
 unfold walker cn;have l:=pQ n e<|uq n e;apply Dl;intro i;rw [Aj,jt,jt,De]
 by_cases h:i < uq n e
 ·rw [show 1+2 * i=2 * i+1 by omega,xZ n e _ i h,pR n e _ i h];rfl
 ·rw [Bc (by omega),Bc<|by omega];rfl
theorem RO{n:Net}:∀{ws:List (List End)},(∀ w∈ws,∃ e,e∈ends n/\w=walker n e)->ws.flatMap (cn 1)=(ws.flatMap ah).map (go 1 n)
 | [],_=>rfl
 | w :: ws,h=>by
  obtain⟨e,_,rfl⟩:=h w<|Ae ..;rw [Cf,Cf,Ak,vJ,RO λv hv=>h v<|Ah _ hv]
theorem RU{n:Net}(T:av n){k:Nat}(hk:k<=1):((bZ k<|aM n).map λp=>aA n p.2).Perm (((aM n).flatMap ah).map<|aA n):=by
 have e:((bZ k<|aM n).map λp=>aA n p.2)=((aM n).flatMap<|cn k).map (aA n):=by
  unfold bZ;rw [<- RH k 0<|aM n,Cb];rfl
 rw [e]
 match k,hk with
 | 0,_=>exact List.Perm.refl _
 | 1,_=>
  rw [RO (qv T).wk,Cb];exact Rm T
theorem IU{n:Net}(T:av n){k:Nat}(hk:k<=1):((bZ k<|aM n).map λp=>aA n p.2).Nodup:=(RU T hk).nodup_iff.mpr (qv T).nd
theorem q3q{n:Net}(T:av n){k:Nat}(hk:k<=1){z:Str}:z∈((bZ k<|aM n).map λp=>aA n p.2)↔z∈ag n:=by
 rw [(RU T hk).mem_iff];refine⟨λh=>?_,λh=>Dd.mp<|by rw [IG T h];exact Fm⟩;obtain⟨x,hx,rfl⟩:=An.mp h;obtain⟨y,hy⟩:=af.mp ((qv T).new x hx).1;rw [dj hy];exact dI hy
noncomputable def bR(n:Net)(k:Nat)(z:Str):List (Nat×End):=(bZ k<|aM n).filter λp=>decide (aA n p.2=z)
theorem yO{α:Type}{f:α->Str}:∀{l:List α},(l.map f).Nodup->∀{p:α},p∈l->(l.filter λx=>decide (f x=f p))=[p]
 | a :: l,hn,p,hp=>by
  rw [Bj,Bf] at hn;rw [Cp]
  by_cases h:f a=f p
  ·rw [BP<|BW h];have e:a=p:=by
    rcases Ai.mp hp with q | q
    ·exact q.symm
    ·exact absurd (by rw [h];exact An.mpr ⟨p,q,rfl⟩) hn.1
   subst e
   congr 1
   rw [Fc];intro x hx q;exact hn.1<|by rw [<- BX q];exact An.mpr ⟨x,hx,rfl⟩
  ·rw [BK λq=>h<|BX q]
   rcases Ai.mp hp with q | q
   ·exact absurd (by rw [q]) h
   ·exact yO hn.2 q
theorem yP{n:Net}(T:av n){k:Nat}(hk:k<=1){z:Str}(hz:z∈ag n):∃ p,p∈bZ k (aM n)/\aA n p.2=z/\bR n k z=[p]:=by
 obtain⟨p,hp,rfl⟩:=An.mp<|(q3q T hk).mpr hz;exact⟨p,hp,rfl,yO (IU T hk) hp⟩
theorem IY{n:Net}(T:av n):∀(es:List End) (told:List Str),(∀ e∈es,e∈ends n)->∀(i:Nat) w,(dM n es told)[i]?=some w ->
  ∃ e l r,es=l++e :: r/\(∀ x∈l,aA n x∈told++(((dM n es told).take i).flatMap ah).map (aA n))/\aA n e∉told++(((dM n es told).take i).flatMap ah).map (aA n)/\w=walker n e
 | [],told,_,i,w,h=>by simp [dM] at h
 | e :: r,told,hE,i,w,h=>by
  have hr:∀ a∈r,a∈ends n:=λa ha=>hE a<|Ah _ ha;unfold dM at h ⊢
  by_cases c:aA n e∈told
  ·rw [BP c] at h ⊢;obtain⟨x,l,r',h1,h2,h3,h4⟩:=IY T r told hr i w h;refine⟨x,e :: l,r',by rw [h1];rfl,λy hy=>?_,h3,h4⟩
   rcases Ai.mp hy with q | q
   ·rw [q];exact Bd _ c
   ·exact h2 y q
  ·rw [BK c] at h ⊢
   match i with
   | 0=>
    cases h;refine⟨e,[],r,rfl,λy hy=>(nomatch hy),?_,rfl⟩
    simpa using c
   | i+1=>
    obtain⟨x,l,r',h1,h2,h3,h4⟩:=IY T r (told++(ah<|walker n e).map (aA n)) hr i w h;have eq:(told++(((walker n e :: dM n r (told++(ah<|walker n e).map (aA n))).take<|i+1).flatMap ah).map (aA n))=(told++(ah<|walker n e).map (aA n))++(((dM n r<|told++(ah<|walker n e).map (aA n)).take i).flatMap ah).map (aA n):=by
     rw [List.take_succ_cons,Cf,Ak,Aq]
    rw [eq];refine⟨x,e :: l,r',by rw [h1];rfl,λy hy=>?_,h3,h4⟩
    rcases Ai.mp hy with q | q
    ·rw [q];refine Bd _<|Ax _<|An.mpr ⟨e,?_,rfl⟩;exact(jx T<|hE e<|Ae ..).mpr ⟨0,rfl⟩
    ·exact h2 y q
noncomputable def RY(n:Net)(i:Nat):List Str:=(((aM n).take i).flatMap ah).map<|aA n
theorem k5y{n:Net}(T:av n){i:Nat}{w:List End}(h:(aM n)[i]?=some w):∃ e l r,ends n=l++e :: r/\(∀ x∈l,aA n x∈RY n i)/\aA n e∉RY n i/\w=walker n e:=by
 obtain⟨e,l,r,h1,h2,h3,h4⟩:=IY T (ends n) [] (λ_ h=>h) i w h;exact⟨e,l,r,h1,h2,h3,h4⟩
theorem k2f{n:Net}(T:av n){e:End}(h:e∈ends n):(walker n e)[0]?=some e:=by
 obtain⟨k,p,_⟩:=rO T h;unfold walker;rw [ur p];have:=pR n e k 0 p.pos;exact this
structure gS(n:Net)(s:Str->Bool)(c:Nat->Bool)(χ:End->Bool):Prop where
 face:aO n s χ
 cut:∀ e z,aN n e=some z->s z=(c e.1 ^^ c (other n e).1)
def jl(n:Net)(c:Nat->Bool)(χ:End->Bool)(x:End):Bool:=c x.1 ^^ χ (other n x)
def sG(c:Nat->Bool)(χ:End->Bool)(y:End):Bool:=c y.1 ^^ χ y
section
variable{n:Net}{s:Str->Bool}{c:Nat->Bool}{χ:End->Bool}
theorem gS.odd(T:av n)(D:gS n s c χ){x:End}(hx:x∈ends n):sG c χ (go 1 n x)=jl n c χ x:=by
 obtain⟨z,hz⟩:=af.mp hx;have h1:=D.face.go x hx;rw [xY T hx] at h1;have h2:=D.face.cR x z hz;have h3:=D.cut x z hz;unfold sG jl;rw [h1,show(go 1 n x).1=(other n x).1 from rfl];rw [h2] at h3
 revert h3
 cases χ x <;> cases χ (other n x) <;> cases c x.1 <;> cases c (other n x).1 <;> simp
theorem gS.even(T:av n)(D:gS n s c χ){y:End}(hy:y∈ends n):jl n c χ (go (-1) n y)=sG c χ y:=by
 obtain⟨z,hz⟩:=af.mp hy;have h1:=D.face.go _<|cX T<|e9 T hy (c:=-1);rw [Iy T hy] at h1;have h2:=D.face.cR y z hz;have h3:=D.cut y z hz;unfold sG jl;rw [<- h1,show(go (-1) n y).1=(other n y).1 from rfl];rw [h2] at h3
 revert h3
 cases χ y <;> cases χ (other n y) <;> cases c y.1 <;> cases c (other n y).1 <;> simp
theorem gS.two(T:av n)(D:gS n s c χ){x:End}(hx:x∈ends n):jl n c χ (Nt.two n x)=jl n c χ x:=by
 rw [show Nt.two n x=go (-1) n (go 1 n x) from rfl,D.even T<|e9 T hx,D.odd T hx]
theorem gS.it(T:av n)(D:gS n s c χ){x:End}(hx:x∈ends n):∀ k,jl n c χ (Nt.it (Nt.two n) k x)=jl n c χ x
 | 0=>rfl
 | k+1=>by
  show jl n c χ (Nt.two n<|Nt.it (Nt.two n) k x)=_;rw [D.two T<|gD T hx k,D.it T hx k]
theorem R0(k:Nat):∀(m:Nat) (ws:List<|List End) {i:Nat} {e:End},(i,e)∈cq k m ws->∃ j w,ws[j]?=some w/\i=m+j/\e∈cn k w
 | m,[],i,e,h=>by simp [cq] at h
 | m,w :: ws,i,e,h=>by
  unfold cq at h
  rcases Am.mp h with h | h
  ·obtain⟨x,hx,q⟩:=An.mp h;cases q;exact⟨0,w,rfl,rfl,hx⟩
  ·obtain⟨j,v,h1,h2,h3⟩:=R0 k (m+1) ws h;exact⟨j+1,v,h1,by omega,h3⟩
theorem qz{k:Nat}{ws:List (List End)}{i:Nat}{e:End}(h:(i,e)∈bZ k ws):∃ w,ws[i]?=some w/\e∈cn k w:=by
 obtain⟨j,w,h1,h2,h3⟩:=R0 k 0 ws h;rw [Eb] at h2;subst h2;exact⟨w,h1,h3⟩
noncomputable def jm(n:Net)(c:Nat->Bool)(χ:End->Bool)(i:Nat):Bool:=match (aM n)[i]? with
 | some (e :: _)=>jl n c χ e
 | _=>false
theorem R1(T:av n){i:Nat}{e:End}(he:e∈ends n)(h:(aM n)[i]?=some (walker n e)):jm n c χ i=jl n c χ e:=by
 have h0:=k2f T he;unfold jm;rw [h];cases hw:walker n e with
 | nil=>rw [hw] at h0;cases h0
 | cons a l=>rw [hw] at h0;cases h0;rfl
theorem yQ(T:av n){i:Nat}{w:List End}(h:(aM n)[i]?=some w):∃ e,e∈ends n/\w=walker n e:=by
 obtain⟨e,l,r,heq,_,_,hw⟩:=k5y T h;exact⟨e,by rw [heq];simp,hw⟩
theorem gS.jE(T:av n)(D:gS n s c χ){i:Nat}{x:End}(h:(i,x)∈bZ 0 (aM n)):x∈ends n/\jl n c χ x=jm n c χ i:=by
 obtain⟨w,hw,hx⟩:=qz h;obtain⟨e,he,rfl⟩:=yQ T hw;have hx:x∈cU n e:=hx;obtain⟨k,rfl⟩:=(jx T he).mp hx;rw [R1 T he hw];exact⟨gD T he k,D.it T he k⟩
theorem gS.vK(T:av n)(D:gS n s c χ){i:Nat}{y:End}(h:(i,y)∈bZ 1 (aM n)):y∈ends n/\sG c χ y=jm n c χ i:=by
 obtain⟨w,hw,hy⟩:=qz h;obtain⟨e,he,rfl⟩:=yQ T hw;rw [vJ] at hy;obtain⟨x,hx,rfl⟩:=An.mp hy;have hx:x∈cU n e:=hx;obtain⟨k,rfl⟩:=(jx T he).mp hx;rw [R1 T he hw];have:=gD T he k;exact⟨e9 T this,by rw [D.odd T this,D.it T he k]⟩
theorem gS.cR(T:av n)(D:gS n s c χ){p q:Nat×End}(hp:p∈bZ 0 (aM n))(hq:q∈bZ 1 (aM n))(h:aA n p.2=aA n q.2):s (aA n p.2)=(jm n c χ p.1 ^^ jm n c χ q.1):=by
 obtain⟨i,x⟩:=p;obtain⟨j,y⟩:=q;obtain⟨hx,e1⟩:=D.jE T hp;obtain⟨hy,e2⟩:=D.vK T hq;show s (aA n x)=(jm n c χ i ^^ jm n c χ j);obtain⟨z,hz⟩:=af.mp hx;have h2:=D.face.cR x z hz;have h3:=D.cut x z hz;rw [<- e1,<- e2,dj hz];unfold jl sG
 rcases vD T hx hy h with k | k
 ·subst k;rw [h2];cases χ y <;> cases χ (other n y) <;> cases c y.1 <;> rfl
 ·subst k;rw [h3];cases χ (other n x) <;> cases c x.1 <;> cases c (other n x).1 <;> rfl
end
theorem q5z{α:Type}(k:Nat):cn k ([]:List α)=[]:=by unfold cn;rw [List.drop_nil];rfl
theorem R3(k i:Nat):∀(m:Nat) (ws:List<|List End),((cq k m ws).filter λp=>decide (p.1=i))=if m<=i then((cn k<|ws[i - m]?.getD []).map λe=>(i,e)) else []
 | m,[]=>by
  rw [List.getElem?_nil];show []=if m<=i then((cn k ([]:List End)).map λe=>(i,e)) else [];rw [q5z]
  split <;> rfl
 | m,w :: ws=>by
  unfold cq;rw [Cq,R3 k i (m+1) ws]
  by_cases h:m=i
  ·subst h;rw [BP<|Al _,BK (by omega),Be,VG];rw [List.filter_eq_self.mpr λa ha=>by obtain⟨x,_,rfl⟩:=An.mp ha;exact BW rfl];rfl
  ·rw [Fc.mpr λa ha=>by obtain⟨x,_,rfl⟩:=An.mp ha;exact λq=>h<|BX q,Fe]
   by_cases c:m<=i
   ·rw [BP c,BP (by omega),show i - m=(i - (m+1))+1 by omega];rfl
   ·rw [BK c,BK<|by omega]
theorem R5{α:Type}(f:α->Str)(z:Str):∀ l:List α,(l.map f).count z=(l.filter λx=>decide (f x=z)).length
 | []=>rfl
 | a :: l=>by
  rw [Bj,Cy,R5 f z l,Cp]
  by_cases h:f a=z
  ·rw [BP (by rw [h];exact LR z),BP<|BW h,As]
  ·rw [BK (by rw [JM];exact h),BK λq=>h<|BX q];rfl
theorem R9{n:Net}{k:Nat}{z:Str}{p:Nat×End}(hp:bR n k z=[p]){i:Nat}{w:List End}(hw:(aM n)[i]?=some w):((cn k w).map<|aA n).count z=if p.1=i then 1 else 0:=by
 have h1:=R3 k i 0<|aM n;rw [BP<|Bt _,VF,hw] at h1;have h1:(bZ k<|aM n).filter (λp=>decide (p.1=i))=(cn k w).map λe=>(i,e):=h1;have h2:(((bZ k<|aM n).filter λp=>decide (p.1=i)).filter λp=>decide (aA n p.2=z))=(bR n k z).filter λp=>decide (p.1=i):=by
  unfold bR;rw [List.filter_filter,List.filter_filter]
  congr 1
  funext p
  exact Fv ..
 rw [h1,hp,List.filter_map] at h2;have h3:=BZ List.length h2;rw [Aa] at h3;rw [R5];refine Eq.trans h3 ?_;rw [Cp]
 by_cases c:p.1=i
 ·rw [BP<|BW c,BP c];rfl
 ·rw [BK λq=>c<|BX q,BK c];rfl
theorem Sd{n:Net}(T:av n){z:Str}{p q:Nat×End}(hp:bR n 0 z=[p])(hq:bR n 1 z=[q]){i:Nat}{w:List End}(hw:(aM n)[i]?=some w):bE n w z=(decide (p.1=i) ^^ decide (q.1=i)):=by
 obtain⟨e,he,rfl⟩:=yQ T hw;have c0:=R9 hp hw;have c1:=R9 hq hw;rw [vJ,Cb] at c1;have c0:((cU n e).map<|aA n).count z=_:=c0;have c1:((cU n e).map λx=>aA n<|go 1 n x).count z=_:=c1;unfold bE;rw [(Rj T he).count_eq,Ep,c0,c1]
 by_cases a:p.1=i <;> by_cases b:q.1=i <;> simp [a,b]
theorem Se(k:Nat):∀(m:Nat) (ws:List<|List End) {j:Nat} {w:List End} {e:End},ws[j]?=some w->e∈cn k w->(m+j,e)∈cq k m ws
 | m,[],j,w,e,h,_=>by simp at h
 | m,v :: ws,0,w,e,h,he=>by
  cases h;unfold cq;exact Bd _<|An.mpr ⟨e,he,rfl⟩
 | m,v :: ws,j+1,w,e,h,he=>by
  unfold cq;refine Ax _ ?_;have:=Se k (m+1) ws (j:=j) h he;rw [show m+(j+1)=m+1+j by omega];exact this
theorem Sg{k:Nat}{ws:List (List End)}{i:Nat}{w:List End}{e:End}(h:ws[i]?=some w)(he:e∈cn k w):(i,e)∈bZ k ws:=by
 have:=Se k 0 ws h he;rw [Eb] at this;exact this
theorem Sh{n:Net}(T:av n){k:Nat}(hk:k<=1){p q:Nat×End}(hp:p∈bZ k (aM n))(hq:q∈bZ k (aM n))(h:aA n p.2=aA n q.2):p=q:=by
 have h1:=yO (IU T hk) hp;have h2:=yO (IU T hk) hq;have h3:(λx:Nat×End=>decide (aA n x.2=aA n p.2))=λx=>decide (aA n x.2=aA n q.2):=by rw [h]
 rw [h3] at h1;exact List.cons.inj (h1.symm.trans h2) |>.1
theorem Si{m a:Nat}(h:a < m)(f:Nat->Bool):aj ((List.range m).map λi=>f i && decide (a=i))=f a:=by
 induction m with
 | zero=>omega
 | succ m ih=>
  rw [Dh,Ak,jX];show(_ ^^ ((f m && decide (a=m)) ^^ false))=_;rw [Ez]
  by_cases c:a=m
  ·subst c;have:aj ((List.range a).map λi=>f i && decide (a=i))=false:=by
    have e:((List.range a).map λi=>f i && decide (a=i))=(List.range a).map λ_=>false:=Ao λi hi=>by
     rw [BR (λq=>by have:=Bp.mp hi;omega),Gs]
    rw [e,iH]
   rw [this,BW rfl,Bool.and_true,Fo]
  ·rw [ih (by omega),BR c,Gs,Ez]
theorem k4r{n:Net}(T:av n)(ch:Nat->Bool){z:Str}{p q:Nat×End}(hp:bR n 0 z=[p])(hq:bR n 1 z=[q]) :
  aj ((List.range (aM n).length).map λi=>ch i && bE n ((aM n)[i]?.getD []) z)=(ch p.1 ^^ ch q.1):=by
 have lt:∀{k:Nat} {p:Nat×End},bR n k z=[p]->p.1 < (aM n).length:=λ{k p} h=>by
  have:p∈bR n k z:=by rw [h];exact Ad.mpr rfl
  obtain⟨w,hw,_⟩:=qz (i:=p.1) (e:=p.2) (Ba.mp this).1;exact(Ac.mp hw).1
 have e:((List.range (aM n).length).map λi=>ch i && bE n ((aM n)[i]?.getD []) z)=(List.range (aM n).length).map λi=>(ch i && decide (p.1=i)) ^^ (ch i && decide (q.1=i)):=Ao λi hi=>by
  have hw:=Ab<|Bp.mp hi;have ho:=Sd T hp hq hw;rw [hw,Option.getD_some,ho];cases ch i <;> rfl
 rw [e,gy,Si<|lt hp,Si<|lt hq]
structure cr(n:Net)(cs:List<|List Str):Prop where
 len:cs.length=(aM n).length
 mem:∀(i:Nat) c w,cs[i]?=some c->(aM n)[i]?=some w->∀ z,z∈c↔(w.map<|aA n).count z=1
 mj:∀ c∈cs,bT c
noncomputable def mJ(cs:List<|List Str)(z:Str):List Nat:=(List.range cs.length).filter λi=>decide (z∈cs[i]?.getD [])
theorem IZ{a b:Nat}(h:a < b):∀ m,((List.range m).filter λi=>decide (a=i) ^^ decide (b=i))=(if a < m then [a] else [])++(if b < m then [b] else [])
 | 0=>rfl
 | m+1=>by
  rw [Dh,Cq,IZ h m]
  by_cases h1:a=m
  ·subst h1;rw [BK (by omega),BK (by omega),BP (by omega),BK<|by omega];have:([a].filter λi=>decide (a=i) ^^ decide (b=i))=[a]:=by
    rw [Cp,BP<|by rw [BW rfl,BR<|by omega];rfl];rfl
   rw [this];rfl
  ·by_cases h2:b=m
   ·subst h2;rw [BP (by omega),BK (by omega),BP (by omega),BP<|by omega];have:([b].filter λi=>decide (a=i) ^^ decide (b=i))=[b]:=by
     rw [Cp,BP<|by rw [BR h1,BW rfl];rfl];rfl
    rw [this];rfl
   ·have:([m].filter λi=>decide (a=i) ^^ decide (b=i))=[]:=by
     rw [Cp,BK<|by rw [BR h1,BR h2];decide];rfl
    rw [this,Be]
    by_cases c1:a < m <;> by_cases c2:b < m
    ·rw [BP c1,BP c2,BP (by omega),BP<|by omega]
    ·rw [BP c1,BK c2,BP (by omega),BK<|by omega]
    ·rw [BK c1,BP c2,BK (by omega),BP<|by omega]
    ·rw [BK c1,BK c2,BK (by omega),BK<|by omega]
section
variable{n:Net}{cs:List (List Str)}{ss zs:List Str}{c:Nat->Bool}{χ:End->Bool}
theorem cr.at'(C:cr n cs)(T:av n){i:Nat}(hi:i < (aM n).length){z:Str}(hz:z∈ag n):decide (z∈cs[i]?.getD [])=bE n ((aM n)[i]?.getD []) z:=by
 have h1:=Ab hi;have h2:=Ab (show i < cs.length by rw [C.len];exact hi);rw [h1,h2];exact IJ T (Bu hi) (C.mem i _ _ h2 h1) hz
theorem Sj{k:Nat}{z:Str}{p:Nat×End}(h:bR n k z=[p]):p.1 < (aM n).length:=by
 have:p∈bR n k z:=by rw [h];exact Ad.mpr rfl
 obtain⟨w,hw,_⟩:=qz (i:=p.1) (e:=p.2) (Ba.mp this).1;exact(Ac.mp hw).1
theorem q3u(C:cr n cs)(T:av n){z:Str}(hz:z∈ag n){p q:Nat×End}(hp:bR n 0 z=[p])(hq:bR n 1 z=[q]):mJ cs z=if p.1=q.1 then [] else [min p.1 q.1,max p.1 q.1]:=by
 have lp:=Sj hp;have lq:=Sj hq;have e:mJ cs z=(List.range (aM n).length).filter λi=>decide (p.1=i) ^^ decide (q.1=i):=by
  unfold mJ;rw [C.len];refine List.filter_congr λi hi=>?_;have hi:=Bp.mp hi;have hw:=Ab hi;rw [C.at' T hi hz,hw];exact Sd T hp hq hw
 rw [e]
 by_cases h:p.1=q.1
 ·rw [BP h,h,Fc];intro i _;cases decide (q.1=i) <;> decide
 ·rw [BK h]
  by_cases l:p.1 < q.1
  ·rw [IZ l,BP lp,BP lq,SN<|Cm l,Nat.max_eq_right<|Cm l];rfl
  ·have l:q.1 < p.1:=by omega
   have e2:(λi=>decide (p.1=i) ^^ decide (q.1=i))=λi=>decide (q.1=i) ^^ decide (p.1=i):=by funext i;exact Bool.xor_comm ..
   rw [e2,IZ l,BP lp,BP lq,RL<|Cm l,Nat.max_eq_left<|Cm l];rfl
theorem I0{α:Type}(g f:α->Bool):∀ l:List α,aj ((l.filter g).map f)=aj (l.map λi=>g i && f i)
 | []=>rfl
 | a :: l=>by
  rw [Cp];have ih:=I0 g f l;cases h:g a with
  | true=>
   rw [BP rfl];show(f a ^^ aj ((l.filter g).map f))=((g a && f a) ^^ aj (l.map λi=>g i && f i));rw [ih,h,VB]
  | false=>
   rw [BK (by decide),ih];show _=((g a && f a) ^^ aj (l.map λi=>g i && f i));rw [h,TX,Fo]
end
section
variable{n:Net}
end
abbrev b9(n:Net):List Str:=n.map (·.1)
noncomputable def bt(n:Net)(p:Str->Bool)(z:Str):Bool:=aj<|n.map λr=>p r.1 && decide (r.2.count z % 2=1)
noncomputable def kY(n:Net)(p s:Str->Bool):Bool:=aj<|n.map λr=>p r.1 && aj (r.2.map s)
noncomputable def pr(f:Str->Bool)(os:List Str):Bool:=aj<|os.map f
theorem Ja{α:Type}(b:Bool)(f:α->Bool)(l:List α):(b && aj (l.map f))=aj (l.map λx=>b && f x):=by
 cases b
 ·show false=aj (l.map λ_=>false);rw [iH]
 ·rfl
theorem Jb{α:Type}(b:Bool)(f:α->Bool)(l:List α):(aj (l.map f) && b)=aj (l.map λx=>f x && b):=by
 rw [Fv,Ja]
 congr 1
 exact Ao λx _=>Fv _ _
theorem Jc{n:Net}{Z:List Str}(hz:Z.Nodup)(hm:∀ z∈ag n,z∈Z)(p s:Str->Bool):kY n p s=aZ Z (bt n p) s:=by
 unfold kY aZ bt;have e:(Z.map λz=>aj (n.map λr=>p r.1 && decide (r.2.count z % 2=1)) && s z)=Z.map λz=>aj (n.map λr=>p r.1 && (s z && decide (r.2.count z % 2=1))):=Ao λz _=>by
  rw [Jb]
  congr 1
  refine Ao λr _=>?_;cases p r.1 <;> cases s z <;> simp
 rw [e,sy λz (r:Str×List Str)=>p r.1 && (s z && decide (r.2.count z % 2=1))]
 congr 1
 refine Ao λr hr=>?_;rw [<- Ja]
 congr 1
 exact(yK (n:=n) hz λy hy=>hm y<|Gj.mpr ⟨r,hr,hy⟩).symm
theorem qA(Z:List Str)(s t:Str->Bool):aZ Z s t=aZ Z t s:=by
 unfold aZ
 congr 1
 exact Ao λz _=>Fv _ _
theorem yR{Z:List Str}{s s' t t':Str->Bool}(h:∀ z∈Z,s z=s' z)(k:∀ z∈Z,t z=t' z):aZ Z s t=aZ Z s' t':=by
 unfold aZ
 congr 1
 exact Ao λz hz=>by rw [h z hz,k z hz]
theorem sym{n:Net}(p q:Str->Bool):kY n p (bt n q)=kY n q (bt n p):=by
 obtain⟨Z,hs,hm⟩:=kU<|ag n;rw [Jc (gP hs) λz hz=>(hm z).mpr hz,Jc (gP hs) λz hz=>(hm z).mpr hz,qA]
theorem k56{c:List Str}(h:c.Nodup)(z:Str):decide (c.count z % 2=1)=decide (z∈c):=by
 by_cases k:z∈c
 ·have:c.count z=1:=Nat.le_antisymm (Go.mp h z)<|Dd.mpr k;rw [this,BW k];rfl
 ·rw [Dx k,BR k];rfl
theorem vL{Z c:List Str}(hz:Z.Nodup)(hc:c.Nodup)(hm:∀ z∈c,z∈Z)(f:Str->Bool):pr f c=aZ Z f (λz=>decide (z∈c)):=by
 unfold pr;rw [<- yK (n:=[]) hz hm];exact yR (λ_ _=>rfl) λz _=>k56 hc z
abbrev fO(a b c:List Str):Prop:=∀ z,z∈c↔(if z∈a then z∉b else z∈b)
theorem vM{a b c:List Str}(h:fO a b c)(z:Str):decide (z∈c)=(decide (z∈a) ^^ decide (z∈b)):=by
 have:=h z
 by_cases x:z∈a <;> by_cases y:z∈b <;> simp [x,y] at this <;> simp [x,y,this]
theorem q86{a b c:List Str}(ha:a.Nodup)(hb:b.Nodup)(hc:c.Nodup)(h:fO a b c)(f:Str->Bool):pr f c=(pr f a ^^ pr f b):=by
 obtain⟨Z,hs,hm⟩:=kU<|a++b;have nz:=gP hs;rw [vL nz ha λz hz=>(hm z).mpr<|Am.mpr<|.inl hz,vL nz hb λz hz=>(hm z).mpr<|Am.mpr<|.inr hz,
  vL nz hc (λz hz=>(hm z).mpr (by
   have:=(h z).mp hz;rw [Am]
   by_cases k:z∈a
   ·exact .inl k
   ·rw [BK k] at this;exact .inr this))]
 rw [qA Z f,qA Z f,qA Z f,<- yJ];exact yR (λz _=>vM h z) λ_ _=>rfl
noncomputable def cC(s:Str->Bool)(r:Str×List Str):Bool:=aj<|r.2.map s
def cV(n:Net)(s:Str->Bool)(os:List Str):Prop:=os.Perm ((n.filter<|cC s).map (·.1))
theorem cV.pr{n:Net}{s:Str->Bool}{os:List Str}(h:cV n s os)(f:Str->Bool):pr f os=kY n f s:=by
 unfold Nt.pr kY;rw [O1<|h.map f,Cb,I0]
 congr 1
 exact Ao λr _=>Fv _ _
theorem cV.nd{n:Net}{s:Str->Bool}{os:List Str}(h:cV n s os)(hN:(b9 n).Nodup):os.Nodup:=h.nodup_iff.mpr<|hN.sublist<|List.filter_sublist.map _
theorem cV.sub{n:Net}{s:Str->Bool}{os:List Str}(h:cV n s os):∀ x∈os,x∈b9 n:=λx hx=>by
 obtain⟨r,hr,rfl⟩:=An.mp<|h.mem_iff.mp hx;exact An.mpr ⟨r,(Ba.mp hr).1,rfl⟩
theorem Sl{n:Net}(hN:(b9 n).Nodup){r q:Str×List Str}(hr:r∈n)(hq:q∈n)(h:r.1=q.1):r=q:=IH hN r hr q hq h
theorem cV.mem{n:Net}{s:Str->Bool}{os:List Str}(h:cV n s os)(hN:(b9 n).Nodup){r:Str×List Str}(hr:r∈n):decide (r.1∈os)=cC s r:=by
 cases k:cC s r
 ·refine BR λhx=>?_;obtain⟨q,hq,e⟩:=An.mp<|h.mem_iff.mp hx;obtain⟨q1,q2⟩:=Ba.mp hq;rw [Sl hN q1 hr e,k] at q2;cases q2
 ·exact BW<|h.mem_iff.mpr<|An.mpr ⟨r,Ba.mpr ⟨hr,k⟩,rfl⟩
theorem q55{n:Net}(hN:(b9 n).Nodup){r:Str×List Str}(hr:r∈n)(s:Str->Bool):kY n (λx=>decide (x=r.1)) s=cC s r:=by
 unfold kY;have e:(n.map λq=>decide (q.1=r.1) && aj (q.2.map s))=n.map λq=>decide (q=r) && aj (r.2.map s):=Ao λq hq=>by
  by_cases k:q.1=r.1
  ·rw [Sl hN hq hr k,BW rfl,BW rfl]
  ·rw [BR k,BR λe=>k<|by rw [e]];rfl
 rw [e,<- Jb];have one:∀{l:List (Str×List Str)},l.Nodup->r∈l->aj (l.map λq=>decide (q=r))=true:=by
  intro l
  induction l with
  | nil=>intro _ h;cases h
  | cons a l ih=>
   intro nd h;have uz:=Bf.mp nd;show(decide (a=r) ^^ aj (l.map _))=true
   by_cases k:a=r
   ·have:(l.map λq=>decide (q=r))=l.map λ_=>false:=Ao λq hq=>BR λe=>uz.1 (by rw [k,<- e];exact hq);rw [this,iH,BW k];rfl
   ·rw [BR k,ih uz.2<|by rcases Ai.mp h with e | e;exact absurd e.symm k;exact e];rfl
 rw [one (II hN) hr];rfl
noncomputable def cv(n:Net)(ps:List Str)(r:Str×List Str):Bool:=cC (bt n λy=>decide (y∈ps)) r
theorem q1k(n:Net)(p q:Str->Bool)(z:Str):bt n (λy=>p y ^^ q y) z=(bt n p z ^^ bt n q z):=by
 unfold bt;rw [<- gy]
 congr 1
 refine Ao λr _=>?_;show((p r.1 ^^ q r.1) && decide (r.2.count z % 2=1))=_;generalize decide (r.2.count z % 2=1)=c;generalize p r.1=a;generalize q r.1=b;cases a <;> cases b <;> cases c <;> rfl
theorem q1t{n:Net}{a b c:List Str}(h:fO a b c)(r:Str×List Str):cv n c r=(cv n a r ^^ cv n b r):=by
 unfold cv cC;rw [<- gy]
 congr 1
 refine Ao λz _=>?_;rw [<- q1k]
 congr 1
 funext y
 exact vM h y
theorem Jd{n:Net}(T:av n)(ps:List Str)(z:Str):bt n (λy=>decide (y∈ps)) z=decide (dS n ps z):=by
 have h:=Pb T ps z;rw [decide_eq_decide.mpr h];unfold bt;rw [sw];have fl:∀ l:Net,aj ((ag l).map λy=>decide (z=y))=aj (l.map λr=>decide (r.2.count z % 2=1)):=by
  intro l
  induction l with
  | nil=>rfl
  | cons a l ih=>
   show aj ((a.2++ag l).map _)=(_ ^^ aj (l.map _));rw [Ak,jX,ih,<- sw]
 rw [fl,I0]
abbrev cW:=List<|List Str×List Str
structure Je(n:Net)(st:cW):Prop where
 ne:∀ s∈st,s.2≠[]
 nd:∀ s∈st,s.1.Nodup/\s.2.Nodup
 sub:∀ s∈st,(∀ x∈s.1,x∈b9 n)/\∀ x∈s.2,x∈b9 n
 im:∀ s∈st,∀ r∈n,cv n s.1 r=decide (r.1∈s.2)
 Jf:st.Pairwise λa b=>∀ p,a.2.head?=some p->p∉b.2
structure gE(n:Net)(st:cW)(ps os cF bS:List Str):Prop where
 nd:cF.Nodup/\bS.Nodup
 sub:(∀ x∈cF,x∈b9 n)/\∀ x∈bS,x∈b9 n
 fn:∀ f:Str->Bool,(∀ s∈st,pr f s.2=false)->pr f bS=pr f os
 yS:∀ s∈st,∀ p,s.2.head?=some p->p∉bS
 im:∀ r∈n,(decide (r.1∈bS) ^^ cv n cF r)=(decide (r.1∈os) ^^ cv n ps r)
theorem gE.start{n:Net}{ps os:List Str}(h1:ps.Nodup)(h2:os.Nodup)(h3:∀ x∈ps,x∈b9 n)(h4:∀ x∈os,x∈b9 n):gE n [] ps os ps os:=⟨⟨h1,h2⟩,⟨h3,h4⟩,λ_ _=>rfl,λs h=>(by cases h),λ_ _=>rfl⟩
theorem vN{α:Type}{l:List α}{i:Nat}{a:α}(h:l[i]?=some a):l.take (i+1)=l.take i++[a]:=by rw [Cj,h];rfl
theorem gE.skip{n:Net}{st:cW}{i:Nat}{s:List Str×List Str}{ps os cF bS:List Str}(h:gE n (st.take i) ps os cF bS)(hs:st[i]?=some s){p:Str}(hp:s.2.head?=some p)(hn:p∉bS):gE n (st.take<|i+1) ps os cF bS:=by
 rw [vN hs];refine⟨h.nd,h.sub,λf hf=>h.fn f λs hs=>hf s<|Am.mpr<|.inl hs,λt ht q hq=>?_,h.im⟩
 rcases Am.mp ht with k | k
 ·exact h.yS t k q hq
 ·rw [Ad.mp k,hp] at hq;cases hq;exact hn
theorem Sn{l:List Str}{p:Str}(h:l.head?=some p):p∈l:=by
 cases l with
 | nil=>cases h
 | cons a l=>cases h;exact Ae
theorem gE.step{n:Net}{st:cW}(I:Je n st){i:Nat}{s:List Str×List Str}{ps os cF bS p2 o2:List Str}(h:gE n (st.take i) ps os cF bS)(hs:st[i]?=some s){p:Str}(hp:s.2.head?=some p)(hn:p∈bS)
  (n1:p2.Nodup) (n2:o2.Nodup) (x1:fO cF s.1 p2) (x2:fO bS s.2 o2):gE n (st.take<|i+1) ps os p2 o2:=by
 have iI:=Ap hs;have jM:=(Ac.mp hs).1;rw [vN hs];have un:∀{a b c:List Str},fO a b c->(∀ x∈a,x∈b9 n)->(∀ x∈b,x∈b9 n)->∀ x∈c,x∈b9 n:=λ{a b c} X ha hb x hx=>by
  have:=(X x).mp hx
  by_cases k:x∈a
  ·exact ha x k
  ·rw [BK k] at this;exact hb x this
 refine⟨⟨n1,n2⟩,⟨un x1 h.sub.1 (I.sub s iI).1,un x2 h.sub.2 (I.sub s iI).2⟩,λf hf=>?_,λt ht q hq=>?_,λr hr=>?_⟩
 ·rw [q86 h.nd.2 (I.nd s iI).2 n2 x2,hf s<|Am.mpr<|.inr<|Ad.mpr rfl,Ez];exact h.fn f λs hs=>hf s<|Am.mpr<|.inl hs
 ·rw [x2 q]
  rcases Am.mp ht with k | k
  ·rw [BK<|h.yS t k q hq];obtain⟨j,hj⟩:=Bh k;have kQ:=(Ac.mp hj).1;rw [Bk] at kQ;have fN:st[j]?=some t:=by rw [Do<|by omega] at hj;exact hj
   have ej:=(Ac.mp fN).2;have ei:=(Ac.mp hs).2;have:=Bs.mp I.Jf j i (by omega) jM (by omega);rw [ej,ei] at this;exact this q hq
  ·rw [Ad.mp k] at hq;rw [hp] at hq;cases hq;rw [BP hn];exact λk=>k<|Sn hp
 ·rw [vM x2,q1t x1,I.im s iI r hr,<- h.im r hr];cases decide (r.1∈bS) <;> cases decide (r.1∈s.2) <;> cases cv n cF r <;> rfl
theorem Sq:∀{st:cW},(∀ s∈st,s.2≠[])->(∀ s∈st,s.2.Nodup)->(st.Pairwise λa b=>∀ p,a.2.head?=some p->p∉b.2)->∀{o:List Str},o.Nodup->o≠[]->(∀ s∈st,∀ p,s.2.head?=some p->p∉o)->∃ f:Str->Bool,(∀ s∈st,pr f s.2=false)/\pr f o=true
 | [],_,_,_,o,nd,ne,_=>by
  cases o with
  | nil=>exact absurd rfl ne
  | cons a o=>
   refine⟨λx=>decide (x=a),λs h=>(by cases h),?_⟩;have:(o.map λx=>decide (x=a))=o.map λ_=>false:=Ao λx hx=>BR λe=>(Bf.mp nd).1 (by rw [<- e];exact hx);show(decide (a=a) ^^ aj (o.map λx=>decide (x=a)))=true;rw [this,iH,BW rfl];rfl
 | s :: st,h1,h2,h3,o,nd,ne,hp=>by
  obtain⟨f,f1,f2⟩:=Sq (st:=st) (λt ht=>h1 t<|Ah _ ht) (λt ht=>h2 t<|Ah _ ht) (Ct.mp h3).2 nd ne λt ht=>hp t<|Ah _ ht;obtain⟨p,Jg⟩:∃ p,s.2.head?=some p:=by
   cases k:s.2 with
   | nil=>exact absurd k<|h1 s Ae
   | cons a l=>exact⟨a,rfl⟩
  have add:∀(l:List Str),l.Nodup->pr (λx=>f x ^^ decide (x=p)) l=(pr f l ^^ decide (p∈l)):=λl hl=>by
   show aj (l.map _)=_;rw [gy]
   congr 1
   have:=vL (Z:=l) hl hl (λ_ h=>h) λx=>decide (x=p);have e2:aj (l.map λx=>decide (x=p))=pr (λx=>decide (x=p)) l:=rfl
   by_cases k:p∈l
   ·rw [e2,this,sE hl k]
   ·rw [BR k];have:(l.map λx=>decide (x=p))=l.map λ_=>false:=Ao λx hx=>BR λe=>k (by rw [<- e];exact hx);rw [this,iH]
  cases k:pr f s.2
  ·refine⟨f,λt ht=>?_,f2⟩
   rcases Ai.mp ht with rfl | ht
   ·exact k
   ·exact f1 t ht
  ·refine⟨λx=>f x ^^ decide (x=p),λt ht=>?_,?_⟩
   ·rw [add _<|h2 t ht]
    rcases Ai.mp ht with rfl | ht
    ·rw [k,BW<|Sn Jg];rfl
    ·rw [f1 t ht,BR<|(Ct.mp h3).1 t ht p Jg];rfl
   ·rw [add _ nd,f2,BR<|hp s Ae p Jg];rfl
structure jy(n:Net)(k:Nat)(st:cW):Prop where
 cw:Je n st
 len:st.length<=k
 span:∀ f:Str->Bool,(∀ s∈st,pr f s.2=false)->∀ x∈(b9 n).take k,kY n f (bt n λy=>decide (y∈[x]))=false
theorem jy.start(n:Net):jy n 0 []:=⟨⟨λs h=>(by cases h),λs h=>(by cases h),λs h=>(by cases h),λs h=>(by cases h),List.Pairwise.nil⟩,Al _,λf _ x hx=>(by rw [UW] at hx;cases hx)⟩
theorem q7j{n:Net}{x:Str}{st:cW}(hN:(b9 n).Nodup){os cF bS:List Str}(hO:cV n (bt n λy=>decide (y∈[x])) os)(h:gE n st [x] os cF bS):∀ r∈n,cv n cF r=decide (r.1∈bS):=λr hr=>by
 have a:=h.im r hr;rw [hO.mem hN hr] at a;have:cv n [x] r=cC (bt n λy=>decide (y∈[x])) r:=rfl;rw [this,Ff] at a
 revert a
 cases decide (r.1∈bS) <;> cases cv n cF r <;> simp
theorem jy.skip{n:Net}(hN:(b9 n).Nodup){k:Nat}{st:cW}(I:jy n k st){x:Str}(hx:(b9 n)[k]?=some x){os cF:List Str}(hO:cV n (bt n λy=>decide (y∈[x])) os)(h:gE n st [x] os cF []):jy n (k+1) st:=by
 refine⟨I.cw,Nat.le_succ_of_le I.len,λf hf y hy=>?_⟩;rw [vN hx] at hy
 rcases Am.mp hy with q | q
 ·exact I.span f hf y q
 ·rw [Ad.mp q,<- hO.pr,<- h.fn f hf];rfl
theorem jy.step{n:Net}(hN:(b9 n).Nodup){k:Nat}{st:cW}(I:jy n k st){x:Str}(hx:(b9 n)[k]?=some x){os cF bS:List Str}(hO:cV n (bt n λy=>decide (y∈[x])) os)(h:gE n st [x] os cF bS)(bB:bS≠[]):jy n (k+1) (st++[(cF,bS)]):=by
 have al:∀{P:List Str×List Str->Prop},(∀ s∈st,P s)->P (cF,bS)->∀ s∈st++[(cF,bS)],P s:=λ{P} a b s hs=>by
  rcases Am.mp hs with q | q
  ·exact a s q
  ·rw [Ad.mp q];exact b
 refine⟨⟨al I.cw.ne bB,al I.cw.nd h.nd,al I.cw.sub h.sub,al I.cw.im<|q7j hN hO h,?_⟩,by rw [Af];exact Nat.succ_le_succ I.len,λf hf y hy=>?_⟩
 ·rw [List.pairwise_append];refine⟨I.cw.Jf,Gb _ _,λa ha b hb p hp=>?_⟩;rw [Ad.mp hb];exact h.yS a ha p hp
 ·have Ss:∀ s∈st,pr f s.2=false:=λs hs=>hf s<|Am.mpr<|.inl hs;rw [vN hx] at hy
  rcases Am.mp hy with q | q
  ·exact I.span f Ss y q
  ·rw [Ad.mp q,<- hO.pr,<- h.fn f Ss];exact hf (cF,bS)<|Am.mpr<|.inr<|Ad.mpr rfl
def mK(n:Net)(s:Str->Bool):Prop:=∀ f:Str->Bool,(∀ r∈n,cC (bt n f) r=false)->kY n f s=false
theorem jy.whole{n:Net}(hN:(b9 n).Nodup){st:cW}(I:jy n n.length st){s:Str->Bool}(ho:mK n s){os cF bS:List Str}(hO:cV n s os)(h:gE n st [] os cF bS):∀ r∈n,cv n cF r=cC s r:=by
 have he:bS=[]:=by
  refine DR λbB=>?_;obtain⟨f,f1,f2⟩:=Sq I.cw.ne (λs hs=>(I.cw.nd s hs).2) I.cw.Jf h.nd.2 bB h.yS;have hd:∀ r∈n,cC (bt n f) r=false:=λr hr=>by
   rw [<- q55 hN hr,sym];have:=I.span f f1 r.1 (by rw [Cr<|by rw [Aa];exact Al _];exact An.mpr ⟨r,hr,rfl⟩);have e:(λy=>decide (y∈[r.1]))=λy=>decide (y=r.1):=by
    funext y
    exact decide_eq_decide.mpr Ad
   rw [e] at this;exact this
  have:=ho f hd;rw [<- hO.pr,<- h.fn f f1,f2] at this;cases this
 subst he;intro r hr;have a:=h.im r hr;have z:cv n [] r=false:=by
  unfold cv cC bt;have:(r.2.map λz=>aj<|n.map λq=>decide (q.1∈([]:List Str)) && decide (q.2.count z % 2=1))=r.2.map λ_=>false:=Ao λz _=>by
   have:(n.map λq=>decide (q.1∈([]:List Str)) && decide (q.2.count z % 2=1))=n.map λ_=>false:=Ao λq _=>by
    rw [BR (λh=>by cases h),TX]
   rw [this,iH]
  rw [this,iH]
 rw [z,hO.mem hN hr,Ez,BR (λh=>by cases h),Fo] at a;exact a
theorem q6y{n:Net}{i:Nat}(h:i < n.length):∃ r∈n,row n i=r.2:=⟨n[i],Bu h,by unfold row;rw [Ab h];rfl⟩
theorem q5b{n:Net}(T:av n)(hf:HF n){cs:List (List Str)}(C:cr n cs){s:Str->Bool}(h:∀ c∈cs,aj (c.map s)=false):mK n s:=λf hd=>by
 obtain⟨Z,hs,hm⟩:=kU<|ag n;have nz:=gP hs;have Sv:∀ z∈ag n,z∈Z:=λz hz=>(hm z).mpr hz;rw [Jc nz Sv];have ev:dP n (bt n f):=λi=>by
  by_cases hi:i < n.length
  ·obtain⟨r,hr,e⟩:=q6y hi;rw [e];exact hd r hr
  ·unfold row;rw [Bc<|by omega];rfl
 obtain⟨χ,hχ⟩:=hf.2.2 _ ev;have eU:∀ e z,aN n e=some z->bt n f z=(f (aE n e.1) ^^ f (aE n (other n e).1)):=λe z hz=>by
  have hp:∀ x∈b9 n,decide (x∈(b9 n).filter f)=f x:=λx hx=>by
   cases k:f x
   ·exact BR λq=>by rw [(Ba.mp q).2] at k;cases k
   ·exact BW<|Ba.mpr ⟨hx,k⟩
  have e1:bt n f z=bt n (λy=>decide (y∈(b9 n).filter f)) z:=by
   unfold bt
   congr 1
   refine Ao λr hr=>?_;have:=hp r.1<|An.mpr ⟨r,hr,rfl⟩;show(f r.1 && _)=(decide (r.1∈(b9 n).filter f) && _);rw [<- this]
  have c:=kS T (ps:=(b9 n).filter f) hz;rw [hp _<|ja<|cK hz,hp _<|ja<|rS T hz] at c;rw [e1,Jd T,Ck,CJ,c]
 have D:gS n (bt n f) (λr=>f<|aE n r) χ:=⟨hχ,eU⟩;have e:∀ z∈Z,bt n f z=aj ((List.range (aM n).length).map λi=>jm n (λr=>f<|aE n r) χ i && bE n ((aM n)[i]?.getD []) z):=λz hz=>by
  have dC:=(hm z).mp hz;obtain⟨p,p1,p2,hpk⟩:=yP T (k:=0) (by decide) dC;obtain⟨q,q1,q2,hqk⟩:=yP T (k:=1) (by decide) dC;rw [k4r T _ hpk hqk,<- gS.cR T D p1 q1<|p2.trans q2.symm,p2]
 rw [yR e λ_ _=>rfl];unfold aZ;have e2:(Z.map λz=>aj ((List.range (aM n).length).map λi=>jm n (λr=>f<|aE n r) χ i && bE n ((aM n)[i]?.getD []) z) && s z)=Z.map λz=>aj ((List.range (aM n).length).map λi=>jm n (λr=>f<|aE n r) χ i && (bE n ((aM n)[i]?.getD []) z && s z)):=Ao λz _=>by
  rw [Jb]
  congr 1
  exact Ao λi _=>Bool.and_assoc _ _ _
 rw [e2,sy λz i=>jm n (λr=>f<|aE n r) χ i && (bE n ((aM n)[i]?.getD []) z && s z)];have e3:((List.range (aM n).length).map λi=>aj<|Z.map λz=>jm n (λr=>f<|aE n r) χ i && (bE n ((aM n)[i]?.getD []) z && s z))=(List.range (aM n).length).map λ_=>false:=Ao λi hi=>by
  have hi:=Bp.mp hi;rw [<- Ja];have Sw:=Ab (show i < cs.length by rw [C.len];exact hi);have gQ:cs[i]'(by rw [C.len];exact hi)∈cs:=Bu _;have gT:=Ab hi;have a:=h _ gQ;have nd:=gP<|C.mj _ gQ;have w9:∀ z∈cs[i]'(by rw [C.len];exact hi),z∈ag n:=yM (λc hc=>(jU T (ends n) [] (λe he=>he) _<|Bu hi).ends c hc)<|C.mem i _ _ Sw gT;have b:=vL nz nd (λz hz=>Sv z<|w9 z hz) s;have c:aj (Z.map λz=>bE n ((aM n)[i]?.getD []) z && s z)=aZ Z s (λz=>decide (z∈cs[i]'(by rw [C.len];exact hi))):=by
   rw [qA];unfold aZ
   congr 1
   refine Ao λz hz=>?_;rw [<- C.at' T hi<|(hm z).mp hz,Sw,Option.getD_some]
  rw [c,<- b];show(_ && aj _)=false;rw [a,Gs]
 rw [e3,iH]
theorem k1k{n:Net}(T:av n){ss ps cs rs:List Str}(h:∀ r∈n,cv n ps r=cC (λz=>decide (z∈ss)) r)(hc:∀ z,z∈cs↔dS n ps z)(hx:fO ss cs rs):dR n rs=true:=by
 refine cS.mpr λr hr=>?_;have a:=h r hr;unfold cv cC at a;have e:(r.2.map<|bt n λy=>decide (y∈ps))=r.2.map λz=>decide (z∈cs):=Ao λz _=>by rw [Jd T,decide_eq_decide.mpr<|hc z]
 rw [e] at a;have b:aj (r.2.map λz=>decide (z∈rs))=false:=by
  have:(r.2.map λz=>decide (z∈rs))=r.2.map λz=>decide (z∈ss) ^^ decide (z∈cs):=Ao λz _=>vM hx z;rw [this,gy,a,Ff]
 have c:(r.2.filter λz=>rs.contains z)=r.2.filter λz=>decide (z∈rs):=by
  congr 1
  funext z
  rw [Ck,CJ];exact Bm
 rw [c];rw [rT] at b;have:=JD b;omega
def n8(n:Net)(ss:List Str):Prop:=∃ cs,cr n cs/\∀ c∈cs,(c.filter λz=>ss.contains z).length % 2=0
end Nt
namespace E8
open PySem L2 Nt bC bA
open PyProof.Rows (sortedS)
def yT:Sp:=λvs H Q _=>∃(R p:Addr) (as:List<|Addr×Addr) (n:Net) (ps:List Str),vs=[.ref R,.ref p]/\ao H R as n/\av n/\n.length<=60/\(ag n).length<=60/\H p=some (Ls ps) /\
 ∀(L:Addr) (cs:List Str) (H':Hp),au H H'->H L=none->H' L=some (Ls cs)->bT cs->(∀ z,z∈cs↔dS n ps z)->cs.length<=60->Q (.ref L) H'
def yU:Sp:=λvs H Q _=>∃(a b:Addr) (xs ys:List Str),vs=[.ref a,.ref b]/\H a=some (Ls xs)/\H b=some (Ls ys)/\xs.length+ys.length < 64 /\
 ∀ l ss H',au H H'->H l=none->H' l=some (Ls ss)->sortedS ss=true->ss.Nodup->(∀ z,z∈ss↔(if z∈xs then z∉ys else z∈ys))->Q (.ref l) H'
def Jh:Sp:=λvs H Q _=>∃(R:Addr) (as:List<|Addr×Addr) (n:Net),vs=[.ref R]/\ao H R as n/\n.length<=1000/\∀ L H',au H H'->H L=none->H' L=some (Ls (n.map (·.1)))->Q (.ref L) H'
section
variable{P:Program}{w:World}{K:PySem.W.Frag}{mg:Str->Option Value}{base:Heap}
def vO(ps:List Str)(x:Lk):Bool:=decide (x.2.1∈ps) != decide (x.2.2∈ps)
def dq(ps:List Str)(ls:List Lk):List Str:=(ls.filter<|vO ps).map (·.1)
theorem q2l{ps:List Str}{ls:List Lk}(h:yH ls):bT (dq ps ls):=by
 unfold bT dq;rw [Er];exact h.sublist Gr
theorem q0a{n:Net}(T:av n){ps:List Str}{ls:List Lk}(h:∀ x,x∈ls↔nI n x)(z:Str):z∈dq ps ls↔dS n ps z:=by
 unfold dq;rw [An]
 constructor
 ·rintro ⟨x,hx,rfl⟩;rw [Ba] at hx;exact(yd T<|(h x).mp hx.1).mpr hx.2
 ·intro hc;obtain⟨e,he,_⟩:=id hc
  rcases q1i T he with q | q
  ·exact⟨_,Ba.mpr ⟨(h _).mpr q,(yd T q).mp hc⟩,rfl⟩
  ·exact⟨_,Ba.mpr ⟨(h _).mpr q,(yd T q).mp hc⟩,rfl⟩
theorem Sx(ps:List Str)(ls:List Lk):(dq ps ls).length<=ls.length:=by
 unfold dq;rw [Aa];exact Dm _ _
theorem k9n(ps:List Str)(ls:List Lk)(x:Lk):dq ps (ls++[x])=dq ps ls++(if vO ps x=true then [x.1] else []):=by
 unfold dq;rw [Cq,Ak]
 congr 1
 cases h:vO ps x <;> simp [h]
theorem vP(zs:List Str)(z:Str):zs.contains z=decide (z∈zs):=by
 rw [Ck,CJ];exact Bm
abbrev Sy:List Str:=["rows","points"]
abbrev vQ:List Str:=["rows","points","tie","one","other"]
theorem Ji:ak Sy ["rows","points"] (aW xK):=⟨rfl,rfl,rfl,by decide +kernel,rfl,by decide +kernel,by decide +kernel⟩
theorem Jj:vQ.Nodup:=by decide +kernel
theorem q7t{f:Addr}{fd:FuncData}(F:bx K "cut_of" "cut_of" xK f fd)(T:Txt mg)
  (G:aS P w K mg base 1 "links_of" ["rows"] Iq) :
  aF P w K mg base bJ 2 f fd ["rows","points"] yT:=by
 refine F.gb Ji (λvs H Q E h=>?_) λb0 H vs Q E hr h=>?_
 ·obtain⟨R,p,as,n,ps,rfl,_⟩:=h;rfl
 obtain⟨R,p,as,n,ps,rfl,hR,hT,hn,ht,hp,q⟩:=h;show Run _ _ _ [some<|.ref R,some<|.ref p] H;refine bO (jH (aW xK) Sy vQ 3 (fQ bH)<|bz G hr<|ai<|ae 0<|az ⟨R,as,n,rfl,hR,hT,by omega,ht,λL us ls H1 s1 n1 eL c8 m9 ki hlen=>?_⟩);refine⟨L,rfl,⟨_,aq.of eL⟩,λD hD=>?_⟩;have Hj:L≠D:=bu eL hD;have vq:p≠D:=bu (s1 _ _ hp) hD;have HU:=c8.1;refine nn (xs:=us.map V.ref) (λi σ' H'=>(∃ v1 v2 v3,σ'=[some<|.ref R,some<|.ref p]++[v1,v2,v3])/\H'=upd H1 D (Ls<|dq ps<|ls.take i)) ⟨⟨_,_,_,rfl⟩,rfl⟩ ?_ ?_ ?_
 ·rintro i σ' H' _ ⟨_,rfl⟩;exact aq.of<|by rw [ay Hj];exact eL
 ·rintro i x σ' H' hx ⟨⟨v1,v2,v3,rfl⟩,rfl⟩;rw [Aj,Az] at hx;obtain⟨u,hG,rfl⟩:=hx;have hi:i < ls.length:=by
   have:=(Ac.mp hG).1;omega
  have kH:ls[i]?=some ls[i]:=Ab hi;have vw:=c8.2 i u _ hG kH;have jw:ls.take (i+1)=ls.take i++[ls[i]]:=by rw [Cj,kH];rfl
  rw [jw,k9n];generalize ls[i]=lx at vw;obtain⟨ti,on,ot⟩:=lx;have Jk:(upd H1 D<|Ls<|dq ps<|ls.take i) u=some (.tup [.str ti,.str on,.str ot]):=by rw [ay<|bu vw hD];exact vw
  have rX:(upd H1 D<|Ls<|dq ps<|ls.take i) p=some (Ls ps):=by rw [ay vq];exact s1 _ _ hp
  intro cl C' s₀ H₀ ex;refine k59 rfl (aI.of Jk) (bg 2 Jj<|bg 3 Jj<|bg 4 Jj ?_);intro cl C' s₀ H₀ ex;refine rd<|cE qT<|tR qU<|ae 3<|ae 1 ⟨p,_,rfl,.inl<|aq.of rX,rfl,pL _,?_⟩;refine tR qU<|ae 4<|ae 1 ⟨p,_,rfl,.inl<|aq.of rX,rfl,pL _,rfl,_,rfl,?_⟩;have fF:∀(x y:Bool),(if false=true then x else y)=y:=λ_ _=>rfl;rw [fF,fF,pK,pK,vP,vP,zS];show if vO ps (ti,on,ot)=true then _ else _;have i5:=By (Sx ps<|ls.take i) (show(ls.take i).length<=ls.length by rw [Bk];omega)
  by_cases hc:vO ps (ti,on,ot)=true
  ·rw [BP hc];intro cl C' s₀ H₀ ex;refine ae 2 ⟨_,aB,by rw [Aa];exact cz (by omega),⟨_,_,_,rfl⟩,?_⟩;rw [zu,BP hc];exact Od
  ·rw [BK hc];refine⟨⟨_,_,_,rfl⟩,?_⟩;rw [BK hc,Be]
 ·rintro σ' H' ⟨_,rfl⟩;rw [Aa,HU,Ca];have i5:=Sx ps ls;exact q D _ _ (s1.trans<|aT hD _) (hV s1 hD) aB (q2l m9) (q0a hT ki)<|by omega
def kj(ss:List Str)(r:Str×List Str):Bool:=(r.2.filter λz=>ss.contains z).length % 2 == 0
def yV:Sp:=λvs H Q _=>∃(R a:Addr) (as:List<|Addr×Addr) (n:Net) (ss:List Str),vs=[.ref R,.ref a]/\ao H R as n/\n.length<=60/\(ag n).length<=1000/\H a=some (Ls ss) /\
 ∀(L:Addr) (zs:List Str) (H':Hp),au H H'->H L=none->H' L=some (Ls zs)->zs.Perm ((n.filter λr=>!kj ss r).map (·.1))->Q (.ref L) H'
abbrev NR:List Str:=["rows","some"]
abbrev Jl:List Str:=["rows","some","point","ties"]
abbrev Sz:List Str:=["rows","some","point","ties","tie"]
theorem q9c:ak NR ["rows","some"] (aW g9):=⟨rfl,rfl,rfl,by decide +kernel,rfl,by decide +kernel,by decide +kernel⟩
theorem vR:Jl.Nodup:=by decide +kernel
theorem x0a:Sz.Nodup:=by decide +kernel
def x0h:Scope:=match iS g9 with
 | [.Return (some<|.Call _ [.ListComp _ _ sc _] _ _) _]=>sc
 | _=>aW g9
def Jm:Scope:=relabel x0h<|PyProof.Rows.envOfC "odd_points" (aW g9) 0 0 .none
theorem q9i{f:Addr}{fd:FuncData}(F:bx K "odd_points" "odd_points" g9 f fd)(T:Txt mg):aF P w K mg base bJ 1 f fd ["rows","some"] yV:=by
 refine F.gb q9c (λvs H Q E h=>?_) λb0 H vs Q E hr h=>?_
 ·obtain⟨R,a,as,n,ss,rfl,_⟩:=h;rfl
 obtain⟨R,a,as,n,ss,rfl,hR,hn,ht,ha,q⟩:=h;have bY:=hR.len;show Run _ _ _ [some<|.ref R,some<|.ref a] H;refine bO<|ce C6 T.sorted DW<|ai<|jH (aW g9) NR Jl 2 (fQ bH)<|ae 0 ⟨R,rfl,⟨_,aq.of hR.lst⟩,λD hD=>?_⟩;refine nn (xs:=as.map λa=>V.ref a.1) (λi σ' H'=>(∃ v1 v2,σ'=[some<|.ref R,some<|.ref a]++[v1,v2])/\H' D=some (.lst<|((n.take i).filter λr=>!kj ss r).map λr=>V.str r.1)/\au H H') ⟨⟨none,none,rfl⟩,aB,aT hD _⟩ ?_ ?_ ?_
 ·rintro i σ' H' _ ⟨_,_,sm⟩;exact aq.of<|sm _ _ hR.lst
 ·rintro i x σ' H' hx ⟨⟨v1,v2,rfl⟩,eD,sm⟩;have hi:i < n.length:=by
   have:=(Ac.mp hx).1;rw [Aa] at this;omega
  obtain⟨b,eb,d7,et,el,er⟩:=(hR.same sm).at hi;rw [Aj,eb] at hx;cases hx;have hU:(row n i).length<=1000:=By (js n i) ht;have pW:n.take (i+1)=n.take i++[n[i]]:=by rw [Cj,Ab hi];rfl
  intro cl C' s₀ H₀ ex;refine iE rfl (aI.of et) (bg 2 vR<|bg 3 vR ?_);intro cl C' s₀ H₀ ex;refine rd<|cE jC<|a9 cY<|ce dF T.len DP<|ai<|jH Jm Jl Sz 1 (fQ bH)<|ae 3 ⟨b.2,rfl,⟨_,aq.of el⟩,λD2 sr=>?_⟩;refine EJ (σ:=[some<|.ref R,some<|.ref a,some<|.str n[i].1,some<|.ref b.2]) (λz=>ss.contains z) (cz<|by omega) el sr (λcl C s₀ H₀ ex v v0 H' R' h=>bg 4 x0a h) (λcl C s₀ H₀ ex z ys T' h=>?_) (λcl C s₀ H₀ ex z H' R' h=>ae 4 h) ?_
  ·refine rd (cE qU<|ae 4<|ae 1 ⟨a,_,rfl,.inl (aq.of<|by rw [ay<|bu (sm _ _ ha) sr];exact sm _ _ ha),rfl,pL _,_,rfl,?_⟩);show T' (tH (.str z)<|ss.map V.str) _;rw [pK];exact h
  ·have nDD:D≠D2:=bu eD sr;have s2:=aT sr<|.lst<|((row n i).filter λz=>ss.contains z).map V.str;refine az ⟨D2,_,rfl,.inl<|aq.of aB,aD ⟨_,_,rfl,rfl,(by show(0:Int) < 2;decide),aD ⟨rfl,_,rfl,?_⟩⟩⟩;have ek:decide (V.int ((((((row n i).filter λz=>ss.contains z).map V.str).length:Nat):Int) % 2)=V.int 1) = !kj ss n[i]:=by
    unfold kj;rw [Aa,er]
    by_cases hc:(n[i].2.filter λz=>ss.contains z).length % 2=0
    ·rw [BR (λh=>by have:=V.int.inj h;omega),beq_iff_eq.mpr hc];rfl
    ·rw [BW (BZ V.int<|by omega),beq_eq_false_iff_ne.mpr hc];rfl
   show if decide (V.int ((((((row n i).filter λz=>ss.contains z).map V.str).length:Nat):Int) % 2)=V.int 1)=true then _ else _;rw [ek];refine jF (λc=>?_) λc=>?_
   ·intro cl C' s₀ H₀ ex;refine ae 2 ⟨_,s2 _ _ eD,?_,⟨_,_,rfl⟩,?_,gm (sm.trans s2) hD⟩
    ·rw [Aa];refine cz<|By (Dm ..) ?_;rw [Bk];omega
    ·rw [aB,pW,Cq,Ak];have:[n[i]].filter (λr=>!kj ss r)=[n[i]]:=by rw [RT<|by simpa using c];rfl
     rw [this];rfl
   ·refine⟨⟨_,_,rfl⟩,?_,sm.trans s2⟩;rw [pW,Cq];have:[n[i]].filter (λr=>!kj ss r)=[]:=by rw [List.filter_cons_of_neg<|by simpa using c];rfl
    rw [this,Be];exact s2 _ _ eD
 ·rintro σ' H' ⟨_,eD,sm⟩;rw [Aa,bY,Ca] at eD;have e2:((n.filter λr=>!kj ss r).map λr=>V.str r.1)=(((n.filter λr=>!kj ss r).map (·.1)).map V.str):=by rw [Cb];rfl
  rw [e2] at eD;refine az ⟨D,_,rfl,aq.of eD,?_,λl zs hl hp _=>?_⟩
  ·rw [Aa];exact QG (Dm ..)<|by omega
  ·exact q l zs _ (sm.trans<|aT hl _) (hV sm hl) aB hp
theorem q0o:ak ["one","other"] ["one","other"] (aW DM):=⟨rfl,rfl,rfl,by decide +kernel,rfl,by decide +kernel,by decide +kernel⟩
theorem k8n{f:Addr}{fd:FuncData}(F:bx K "summed" "summed" DM f fd)(T:Txt mg):aF P w K mg base bJ 1 f fd ["one","other"] yU:=by
 refine F.gb q0o (λvs H Q E h=>?_) λb0 H vs Q E hr h=>?_
 ·obtain⟨a,b,xs,ys,rfl,_⟩:=h;rfl
 obtain⟨a,b,xs,ys,rfl,ha,hb,hl,q⟩:=h;show Run _ _ _ [some<|.ref a,some<|.ref b] H;refine bO (ce (Ny rfl) T.sorted DW<|ai<|a9 Ye<|mY (Nx rfl) T.pH MN<|ai<|ae 0<|az ⟨a,xs,rfl,aq.of ha,by omega,λc hc=>?_⟩);have h1:=aT hc<|bd P w c<|made xs;refine mY (Nx rfl) T.pH MN (ai<|ae 1<|az ⟨b,ys,rfl,aq.of<|h1 _ _ hb,by omega,λd hd=>?_⟩);have h2:=aT hd<|bd P w d<|made ys;have l1:=CO xs;have l2:=CO ys;refine⟨c,d,made xs,made ys,rfl,rfl,h2 _ _ aB,aB,by omega,by omega,λe zc he hn hm=>?_⟩;have h3:=aT he<|bd P w e zc;have SA:∀ z,z∈zc↔(if z∈xs then z∉ys else z∈ys):=λz=>by
  rw [hm z];simp only [XN]
 have hlen:zc.length<=(xs++ys).length:=aX hn λz hz=>by
  have:=(SA z).mp hz;rw [Am]
  by_cases c:z∈xs
  ·exact .inl c
  ·rw [BK c] at this;exact .inr this
 rw [Af] at hlen;refine az ⟨e,zc,rfl,aB,by omega,λl ss hl hp hs=>?_⟩;have h4:=aT hl<|Ls ss;exact q l ss _ (h1.trans<|h2.trans<|h3.trans h4) (h1.free<|h2.free<|h3.free hl) aB hs (hp.nodup_iff.mpr hn) λz=>by
  rw [hp.mem_iff];exact SA z
abbrev SD:List Str:=["rows"]
abbrev vS:List Str:=["rows","point","ties"]
theorem Jn:ak SD ["rows"] (aW xI):=⟨rfl,rfl,rfl,by decide +kernel,rfl,by decide +kernel,by decide +kernel⟩
theorem SE:vS.Nodup:=by decide +kernel
theorem q66{f:Addr}{fd:FuncData}(F:bx K "points_of" "points_of" xI f fd)(T:Txt mg):aF P w K mg base bJ 1 f fd ["rows"] Jh:=by
 refine F.gb Jn (λvs H Q E h=>?_) λb0 H vs Q E hr h=>?_
 ·obtain⟨R,as,n,rfl,_⟩:=h;rfl
 obtain⟨R,as,n,rfl,hR,hn,q⟩:=h;have bY:=hR.len;show Run _ _ _ [some<|.ref R] H;refine bO<|jH (aW xI) SD vS 2 (fQ bH)<|ae 0 ⟨R,rfl,⟨_,aq.of hR.lst⟩,λD hD=>?_⟩;refine nn (xs:=as.map λa=>V.ref a.1) (λi σ' H'=>(∃ v1 v2,σ'=[some<|.ref R]++[v1,v2])/\H' D=some (Ls ((n.take i).map (·.1)))/\au H H') ⟨⟨none,none,rfl⟩,aB,aT hD _⟩ ?_ ?_ ?_
 ·rintro i σ' H' _ ⟨_,_,sm⟩;exact aq.of<|sm _ _ hR.lst
 ·rintro i x σ' H' hx ⟨⟨v1,v2,rfl⟩,eD,sm⟩;have hi:i < n.length:=by
   have:=(Ac.mp hx).1;rw [Aa] at this;omega
  obtain⟨b,eb,d7,et,el,er⟩:=(hR.same sm).at hi;rw [Aj,eb] at hx;cases hx;intro cl C' s₀ H₀ ex;refine iE rfl (aI.of et) (bg 1 SE<|bg 2 SE ?_);intro cl C' s₀ H₀ ex;refine gI<|cA ?_;intro cl C' s₀ H₀ ex;refine ae 1 ⟨_,eD,?_,⟨_,_,rfl⟩,?_,gm sm hD⟩
  ·rw [Aa,Aa,Bk];exact cz<|by omega
  ·rw [aB,Cj,Ab hi,Ak];show _=some (HO.lst<|List.map V.str<|_++_);rw [Ak];rfl
 ·rintro σ' H' ⟨_,eD,sm⟩;rw [Aa,bY,Ca] at eD;exact q D H' sm hD eD
end
end E8
namespace E8
open PySem L2 Nt bC
open PyProof.Rows (sortedS)
def Jo:Sp:=λvs H Q _=>∃(R W:Addr) (as:List<|Addr×Addr) (n:Net) (ts:List Addr) (es:List Nt.End),vs=[.ref R,.ref W]/\ao H R as n/\(n.map (·.1)).Nodup/\n.length<=1000/\(ag n).length<=1000/\H W=some (.lst<|ts.map V.ref)/\cT n H ts es/\(∀ e∈es,e∈ends n)/\es.length<=1000/\(∀ l:List Str,l.Nodup->(∀ z∈l,z∈es.map (aA n))->l.length < 64) /\
 ∀(l:Addr) (ss:List Str) (H':Hp),au H H'->H l=none->H' l=some (Ls ss)->bT ss->(∀ z,z∈ss↔(es.map<|aA n).count z=1)->Q (.ref l) H'
theorem SF(L:List Str):(L.filter λz=>decide (L.count z=1)).Nodup:=by
 rw [Go];intro z
 by_cases h:L.count z=1
 ·rw [List.count_filter<|by simpa using h];omega
 ·rw [Dx]
  ·omega
  ·intro hm;exact h<|BX (Ba.mp hm).2
theorem q2b(L:List Str)(z:Str):z∈(L.filter λz=>decide (L.count z=1))↔L.count z=1:=by
 rw [Ba,CJ];exact⟨λh=>h.2,λh=>⟨Dd.mp (by omega),h⟩⟩
section
variable{P:Program}{w:World}{K:PySem.W.Frag}{mg:Str->Option Value}{base:Heap}
abbrev Jp:List Str:=["rows","walker","names","gone"]
abbrev vT:List Str:=["rows","walker","names","gone","end"]
abbrev vU:List Str:=["rows","walker","names","gone","tie"]
theorem vV:ak Jp ["rows","walker"] (aW ub):=⟨rfl,rfl,rfl,by decide +kernel,rfl,by decide +kernel,by decide +kernel⟩
theorem q8u:vT.Nodup:=by decide +kernel
theorem q7q:vU.Nodup:=by decide +kernel
theorem q5w{f:Addr}{fd:FuncData}(F:bx K "core_of" "core_of" ub f fd)(T:Txt mg)
  (GT:aS P w K mg base 2 "ties_by_end" ["rows"] kd):aF P w K mg base bJ 3 f fd ["rows","walker"] Jo:=by
 refine F.gb vV (λvs H Q E h=>?_) λb0 H vs Q E hr h=>?_
 ·obtain⟨R,W,as,n,ts,es,rfl,_⟩:=h;rfl
 obtain⟨R,W,as,n,ts,es,rfl,hR,hN,hn,gR,hW,hE,um,hle,vW,q⟩:=h;have nd:=vV.nd;have hG:=hr.u1;have hl:=hE.1;show Run _ _ _ [some<|.ref R,some<|.ref W,none,none] H;refine a7 2 nd<|bz GT hr<|ai<|ae 0<|az ⟨R,as,n,rfl,hR,hN,hn,gR,λd kvs H1 s1 E9 ed o7=>?_⟩;show Run _ _ _ [some<|.ref R,some<|.ref W,some<|.ref d,none] H1;have SG:=s1 _ _ hW;have Jq:=hE.same s1;refine a7 3 nd<|jH (aW ub) Jp vT 1 (fQ bH)<|ae 1 ⟨W,rfl,⟨_,aq.of SG⟩,λD hD=>?_⟩;refine nn (xs:=ts.map V.ref) (λi σ' H'=>(∃ v,σ'=[some<|.ref R,some<|.ref W,some<|.ref d,none]++[v])/\au H1 H'/\H' D=some (Ls<|(es.take i).map<|aA n)) ⟨⟨none,rfl⟩,aT hD _,aB⟩ ?_ ?_ ?_
 ·rintro i σ' H' _ ⟨_,sm,_⟩;exact aq.of<|sm _ _ SG
 ·rintro i x σ' H' hx ⟨⟨v,rfl⟩,sm,eD⟩;rw [Aj,Az] at hx;obtain⟨t,ht,rfl⟩:=hx;have hi:i < es.length:=by have:=(Ac.mp ht).1;omega
  have he:es[i]?=some es[i]:=Ab hi;have pW:es.take (i+1)=es.take i++[es[i]]:=by rw [Cj,he];rfl
  generalize nU:es[i]=e at he pW;have ka:=sm _ _<|Jq.2 i t e ht he;have pN:=um e<|Ap he;obtain⟨z,hz⟩:=af.mp pN;have my:aA n e=z:=dj hz;intro cl C s₀ H₀ ex;refine bg 4 q8u ?_;intro cl C s₀ H₀ ex;refine gI ?_;rw [BP rfl];intro cl C s₀ H₀ ex;refine g8 hG<|ae 2<|ae 4 ⟨d,.str z,rfl,(by rw [<- o7 e z hz];exact bn.t (k:=key n e) (sm _ _ ed) ka),_,eD,?_,⟨_,rfl⟩,gm sm hD,?_⟩
  ·rw [Aa,Aa,Bk];exact cz<|by omega
  ·rw [aB,pW,Ak];show some (HO.lst<|((es.take i).map<|aA n).map V.str++[V.str z])=some (HO.lst<|((es.take i).map (aA n)++[aA n e]).map V.str);rw [Ak];show some (HO.lst<|((es.take i).map<|aA n).map V.str++[V.str z])=some (HO.lst<|((es.take i).map<|aA n).map V.str++[V.str<|aA n e]);rw [my]
 rintro σ' H' ⟨_,sm,eD⟩;have qB:es.take (ts.map V.ref).length=es:=Cr (by rw [Aa];omega);rw [qB] at eD;show Run _ _ _ [some<|.ref R,some<|.ref W,some<|.ref d,some<|.ref D] H';generalize hLL:es.map (aA n)=L at eD vW q;have Qp:L.length<=1000:=by rw [<- hLL,Aa];exact hle
 refine bO<|ce C6 T.sorted DW<|ai<|jH (aW ub) Jp vU 1 (fQ bH)<|ae 3 ⟨D,rfl,⟨_,aq.of eD⟩,λD3 Jr=>?_⟩;have n3:D≠D3:=bu eD Jr;refine EJ (λz=>decide (L.count z=1)) (cz<|by omega) eD Jr (λcl C s0 H0 ex v v0 H' R' h=>bg 4 q7q h) (λcl C s0 H0 ex z zs T' h=>rd<|cE jC<|C7 FT PySem.F.slot_list_count PySem.F.type_list_count k96<|ae 3 (v:= .ref D) ⟨Or.inl ⟨rfl,_,aq.of<|by rw [ay n3];exact eD⟩,ae 4 ⟨D,L,z,rfl,rfl,aq.of (by rw [ay n3];exact eD),aD ⟨rfl,_,rfl,?_⟩⟩⟩) (λcl C s0 H0 ex z H' R' h=>ae 4 h) ?_
 ·have ek:decide (V.int (L.count z:Int)=V.int 1)=decide (L.count z=1):=decide_eq_decide.mpr ⟨λk=>by have:=V.int.inj k;omega,λk=>by rw [k];rfl⟩;show T' (decide (V.int (L.count z:Int)=V.int 1)) _;rw [ek];exact h
 refine az ⟨D3,_,rfl,aq.of aB,vW _ (SF L) λz hz=>(Ba.mp hz).1,λl ss kC gK m9=>?_⟩;have s3:=s1.trans<|sm.trans<|aT Jr<|Ls<|L.filter λz=>decide (L.count z=1);exact q l ss _ (s3.trans<|aT kC _) (s3.free kC) aB (FH m9<|gK.nodup_iff.mpr<|SF L) λz=>by rw [gK.mem_iff];exact q2b L z
end
end E8
namespace L2
open PySem PySem.Spec PyProof.Rows bC
section
variable{X:Cx}
end
end L2
namespace L2
open PySem PySem.Spec PyProof.Rows
section
variable{X:Cx}{σ:St}{H:Hp}{D:Ends}{body rest:List Stmt}{a b:Expr}
end
end L2
namespace bA
open PySem SetTable
section
variable{t:SetTable}{es:Array (Int×Value)}{Z:List Ze}
end
section
variable{prog:Program}{w:World}{K:Type} [DecidableEq K]
variable{A:Around}{E:Value->Shared->Prop}{s:Shared}{a b:Addr}{knd:HeapKind prog w K}{k:K}{Y:List (Nat×K×Addr)}
end
section
variable{prog:Program}{w:World}{K:Type} [DecidableEq K] {knd:KeyKind prog w K}
end
end bA
namespace L2
open PySem PySem.Spec PyProof.Rows bA Classical
section
variable{prog:Program}{w:World}{A:Around}{E:Value->Shared->Prop}{s:Shared}{a b:Addr}{Y:List Yt}{k:List Key}
end
section
variable{X:Cx}{σ:St}{H:Hp}{Q:VK}{pins:List (Addr×Obj)}{s:Shared}{a b:Addr}{Y:List Yt}
end
end L2
namespace L2
open PySem PySem.Spec PyProof.Rows
section
variable{X:Cx}{σ:St}{H:Hp}{Q:VK}
end
section
variable{X:Cx}{elt tg:Expr}{ifs:List Expr}{scope:Scope}{σ:St}{H:Hp}{N':List Str}{A a:Addr}{xs:List V}{after:Hp->Prop}
end
end L2
namespace E8
open PySem L2 Nt bC bA
open PyProof.Rows (sortedS)
open Classical
def vX(H:Hp)(L:Addr)(us:List Addr)(cs:List<|List Str):Prop:=H L=some (.lst<|us.map V.ref)/\us.length=cs.length/\∀(i:Nat) u c,us[i]?=some u->cs[i]?=some c->H u=some (Ls c)
def Js:Sp:=λvs H Q _=>∃(R:Addr) (as:List<|Addr×Addr) (n:Net),vs=[.ref R]/\ao H R as n/\(n.map (·.1)).Nodup/\av n/\n.length<=60/\(ag n).length<=60 /\
 ∀(L:Addr) (us:List Addr) (cs:List<|List Str) (H':Hp),au H H'->H L=none->vX H' L us cs->cr n cs->(∀ u∈us,H u=none)->Q (.ref L) H'
structure mO(n:Net)(H:Hp)(D:Addr)(us:List Addr)(cs:List<|List Str)(i:Nat):Prop where
 lst:H D=some (.lst<|us.map V.ref)
 lu:us.length=i
 lc:cs.length=i
 at':∀(j:Nat) u c,us[j]?=some u->cs[j]?=some c->H u=some (Ls c)/\u≠D
 mem:∀(j:Nat) c w,cs[j]?=some c->(aM n)[j]?=some w->∀ z,z∈c↔(w.map<|aA n).count z=1
 mj:∀ c∈cs,bT c
theorem mO.step{n:Net}{H H2:Hp}{D k:Addr}{us:List Addr}{cs:List (List Str)}{i:Nat}{ks:List Str}{es:List Nt.End}(I:mO n H D us cs i)(s2:au H H2)(nk:H k=none)(e2:H2 k=some (Ls ks))(so:bT ks)(hw:(aM n)[i]?=some es)(m2:∀ z,z∈ks↔(es.map<|aA n).count z=1):mO n (upd H2 D<|.lst<|us.map V.ref++[.ref k]) D (us++[k]) (cs++[ks]) (i+1):=by
 have lu:=I.lu;have lc:=I.lc;have SH:k≠D:=λe=>by rw [e,I.lst] at nk;cases nk
 have zero:∀{α:Type} {l:List α} {a b:α} {j:Nat},¬ j < l.length->(l++[a])[j]?=some b->j=l.length/\a=b:=λ{α l a b j} h e=>by
  rw [Ay<|by omega] at e;have hj:j - l.length=0:=by have:=(Ac.mp e).1;simp at this;omega
  rw [hj] at e;exact⟨by omega,by cases e;rfl⟩
 refine⟨by rw [aB,Ak];rfl,by rw [Af,lu];rfl,by rw [Af,lc];rfl,λj u c h1 h2=>?_,λj c w h1 h2=>?_,λc hc=>?_⟩
 ·by_cases hj:j < us.length
  ·rw [Ar hj] at h1;rw [Ar<|by omega] at h2;obtain⟨q1,q2⟩:=I.at' j u c h1 h2;exact⟨by rw [ay q2];exact s2 _ _ q1,q2⟩
  ·obtain⟨_,rfl⟩:=zero hj h1;obtain⟨_,rfl⟩:=zero (by omega) h2;exact⟨by rw [ay SH];exact e2,SH⟩
 ·by_cases hj:j < cs.length
  ·rw [Ar hj] at h1;exact I.mem j c w h1 h2
  ·obtain⟨ej,rfl⟩:=zero hj h1;rw [ej,lc,hw] at h2;cases h2;exact m2
 ·rcases Am.mp hc with h | h
  ·exact I.mj c h
  ·rw [Ad.mp h];exact so
theorem mO.start{n:Net}{H:Hp}{D:Addr}(h:H D=some (.lst [])):mO n H D [] [] 0:=⟨h,rfl,rfl,λj u c h=>by simp at h,λj c w h=>by simp at h,λc h=>by cases h⟩
theorem mO.whole{n:Net}{H:Hp}{D:Addr}{us:List Addr}{cs:List (List Str)}(I:mO n H D us cs (aM n).length):vX H D us cs/\cr n cs:=⟨⟨I.lst,I.lu.trans I.lc.symm,λi u c a b=>(I.at' i u c a b).1⟩,I.lc,I.mem,I.mj⟩
theorem x0i{n:Net}{es:List Nt.End}(h:∀ e∈es,e∈ends n):∀ z∈es.map (aA n),z∈ag n:=λz hz=>by
 obtain⟨e,he,rfl⟩:=An.mp hz;obtain⟨y,hy⟩:=af.mp<|h e he;rw [dj hy];exact dI hy
section
variable{P:Program}{w:World}{K:PySem.W.Frag}{mg:Str->Option Value}{base:Heap}
abbrev SK:List Str:=["rows"]
abbrev vY:List Str:=["rows","walker"]
theorem vZ:ak SK ["rows"] (aW xM):=⟨rfl,rfl,rfl,by decide +kernel,rfl,by decide +kernel,by decide +kernel⟩
theorem q9g:vY.Nodup:=by decide +kernel
theorem q05{f:Addr}{fd:FuncData}(F:bx K "cores_of" "cores_of" xM f fd)(T:Txt mg)(GW:aS P w K mg base 4 "walkers_of" ["rows"] vh)(GC:aS P w K mg base 4 "core_of" ["rows","walker"] Jo):aF P w K mg base bJ 5 f fd ["rows"] Js:=by
 refine F.gb vZ (λvs H Q E h=>?_) λb0 H vs Q E hr h=>?_
 ·obtain⟨R,as,n,rfl,_⟩:=h;rfl
 obtain⟨R,as,n,rfl,hR,hN,hT,hn,gR,q⟩:=h;have nd:=vZ.nd;have pY:=i7 n;show Run _ _ _ [some<|.ref R] H;refine bO (jH (aW xM) SK vY 1 (fQ bH)<|bz GW hr<|ai<|ae 0<|az ⟨R,as,n,rfl,hR,hN,hT,by omega,by omega,λW ls H1 s1 n1 hW fW=>⟨W,rfl,⟨_,aq.of hW.lst⟩,λD hD=>?_⟩⟩);have wl:(aM n).length<=(ends n).length:=ut n (ends n) [];have km:=jU hT (ends n) [] λe he=>he;have sI:ls.length=(aM n).length:=hW.len;refine nn (xs:=ls.map V.ref) (λi σ' H'=>(∃ v,σ'=[some<|.ref R]++[v])/\au H1 H'/\∃ us cs,mO n H' D us cs i/\∀ u∈us,H u=none) ⟨⟨none,rfl⟩,aT hD _,[],[],mO.start aB,λu h=>(by cases h)⟩ ?_ ?_ ?_
 ·rintro i σ' H' _ ⟨_,sm,_⟩;exact aq.of<|sm _ _ hW.lst
 ·rintro i x σ' H' hx ⟨⟨v,rfl⟩,sm,us,cs,I,fu⟩;rw [Aj,Az] at hx;obtain⟨l,hl,rfl⟩:=hx;have jM:i < (aM n).length:=by have:=(Ac.mp hl).1;rw [<- sI];exact this
  have gT:=Ab jM;obtain⟨ts,el,hE⟩:=(hW.same sm).at' i l _ hl gT;have wk:=km _<|Ap gT;generalize (aM n)[i]=es at gT hE wk;have few:=wk.few;have lu:=I.lu;intro cl C s₀ H₀ ex;refine bg 1 q9g ?_;intro cl C s₀ H₀ ex;refine gI<|cA ?_;intro cl C s₀ H₀ ex;refine bz GC hr<|ai<|ae 0<|ai<|ae 1<|az ⟨R,l,as,n,ts,es,rfl,hR.same<|s1.trans sm,hN,by omega,by omega,el,hE,wk.ends,by omega,λl hn hm=>?_,λk ks H2 s2 n2 e2 so2 m2=>?_⟩
  ·have:=aX hn λz hz=>x0i wk.ends z<|hm z hz;omega
  exact⟨_,s2 _ _ I.lst,by rw [Aa];exact cz (by omega),⟨_,rfl⟩,gm (sm.trans s2) hD,_,_,I.step s2 n2 e2 so2 gT m2,λu hu=>(Am.mp hu).elim (fu u) λh=>by rw [Ad.mp h];exact(s1.trans sm).free n2⟩
 ·rintro σ' H' ⟨_,sm,us,cs,I,fu⟩;rw [Aa,sI] at I;exact q D us cs H' (s1.trans sm) (s1.free hD) I.whole.1 I.whole.2 fu
open PyProof.Rows (sortedS)
open Classical
structure gF(H:Hp)(S:Addr)(us:List<|Addr×Addr×Addr)(st:cW):Prop where
 lst:H S=some (.lst<|us.map λu=>V.ref u.1)
 len:us.length=st.length
 at':∀(i:Nat) u s,us[i]?=some u->st[i]?=some s->H u.1=some (.tup [.ref u.2.1,.ref u.2.2])/\H u.2.1=some (Ls s.1)/\H u.2.2=some (Ls s.2)
theorem gF.same{H H':Hp}{S:Addr}{us:List (Addr×Addr×Addr)}{st:cW}(h:gF H S us st)(s:au H H'):gF H' S us st:=⟨s _ _ h.lst,h.len,λi u x a b=>let q:=h.at' i u x a b;⟨s _ _ q.1,s _ _ q.2.1,s _ _ q.2.2⟩⟩
theorem q44(ss:List Str):(λr:Str×List Str=>!kj ss r)=cC λz=>decide (z∈ss):=by
 funext r
 unfold kj cC;rw [rT];have c:(r.2.filter λz=>ss.contains z)=r.2.filter λz=>decide (z∈ss):=by
  congr 1
  funext z
  rw [Ck,CJ];exact Bm
 rw [c];generalize (r.2.filter λz=>decide (z∈ss)).length=k
 rcases QM k with h | h <;> rw [h] <;> rfl
theorem SL{n:Net}{ss os:List Str}(h:os.Perm ((n.filter λr=>!kj ss r).map (·.1))):cV n (λz=>decide (z∈ss)) os:=by
 rw [q44] at h;exact h
theorem sub_len{n:Net}{l:List Str}(hn:n.length<=31)(h1:l.Nodup)(h2:∀ x∈l,x∈b9 n):l.length<=31:=by
 have:=aX h1 h2;rw [Aa] at this;omega
def Jt:Sp:=λvs H Q _=>∃(S p o:Addr) (us:List<|Addr×Addr×Addr) (n:Net) (st:cW) (ps os:List Str),vs=[.ref S,.ref p,.ref o]/\gF H S us st/\Je n st/\n.length<=31/\H p=some (Ls ps)/\H o=some (Ls os)/\gE n [] ps os ps os /\
 ∀(L p' o':Addr) (cF bS:List Str) (H':Hp),au H H'->H L=none->H' L=some (.tup [.ref p',.ref o'])->H' p'=some (Ls cF)->H' o'=some (Ls bS)->(p'=p\/H p'=none)->(o'=o\/H o'=none)->gE n st ps os cF bS->Q (.ref L) H'
noncomputable def qC:Sp:=λvs H Q _=>∃(R o:Addr) (as:List<|Addr×Addr) (n:Net) (os:List Str) (s:Str->Bool),vs=[.ref R,.ref o]/\ao H R as n/\(b9 n).Nodup/\av n/\n.length<=31/\(ag n).length<=60/\H o=some (Ls os)/\cV n s os/\mK n s /\
 ∀(L:Addr) (ps:List Str) (H':Hp),au H H'->H' L=some (Ls ps)->(∀ r∈n,cv n ps r=cC s r)->Q (.ref L) H'
def Ju:Sp:=λvs H Q _=>∃(R p:Addr) (as:List<|Addr×Addr) (n:Net) (ss:List Str),vs=[.ref R,.ref p]/\ao H R as n/\(b9 n).Nodup/\av n/\HF n/\n.length<=31/\(ag n).length<=60/\H p=some (Ls ss)/\ss.Nodup/\(∀ z∈ss,z∈ag n) /\
 (∀(t L:Addr) (c:List Str) (H':Hp),au H H'->H t=none->H L=none->H' t=some (.tup [.str "odd",.ref L])->H' L=some (Ls c)->(∃ cs,cr n cs/\c∈cs)->(c.filter λz=>ss.contains z).length % 2=1->Q (.ref t) H') /\
 (∀(t L M:Addr) (rs cs ps:List Str) (H':Hp),au H H'->H t=none->H L=none->H M=none->L≠M->H' t=some (.tup [.str "parts",.ref L,.ref M])->H' L=some (Ls rs)->H' M=some (Ls cs)->n8 n ss->bT rs->bT cs->dR n rs=true->(∀ z,z∈cs↔dS n ps z)->fO ss cs rs->Q (.ref t) H')
theorem q1s{n:Net}(T:av n)(hf:HF n){ss:List Str}(h:n8 n ss):mK n λz=>decide (z∈ss):=by
 obtain⟨cs,C,he⟩:=h;refine q5b T hf C λc hc=>?_;have:=he c hc;rw [rT];have e:(c.filter λz=>ss.contains z)=c.filter λz=>decide (z∈ss):=by
  congr 1
  funext z
  rw [Ck,CJ];exact Bm
 rw [e] at this;exact BR<|by omega
abbrev NLo:List Str:=["steps","points","odds","tried","left"]
theorem v5:ak NLo ["steps","points","odds"] (aW DT):=⟨rfl,rfl,rfl,by decide +kernel,rfl,by decide +kernel,by decide +kernel⟩
theorem q9n{f:Addr}{fd:FuncData}(F:bx K "lowered" "lowered" DT f fd)(T:Txt mg)(GM:aS P w K mg base 1 "summed" ["one","other"] yU):aF P w K mg base bJ 2 f fd ["steps","points","odds"] Jt:=by
 refine F.gb v5 (λvs H Q E h=>?_) λb0 H vs Q E hr h=>?_
 ·obtain⟨S,p,o,us,n,st,ps,os,rfl,_⟩:=h;rfl
 obtain⟨S,p,o,us,n,st,ps,os,rfl,hS,I,hn,hp,ho,lw,q⟩:=h;have nd:=v5.nd;have hl:=hS.len;show Run _ _ _ [some<|.ref S,some<|.ref p,some<|.ref o,none,none] H;refine kE<|ae 0 ⟨S,rfl,⟨_,aq.of hS.lst⟩,?_⟩;refine kF (xs:=us.map λu=>V.ref u.1) (λi σ H'=>∃(p1 o1:Addr) (ps1 os1:List Str) (u3 u4:Option V),au H H'/\H' p1=some (Ls ps1)/\H' o1=some (Ls os1)/\(p1=p\/H p1=none)/\(o1=o\/H o1=none)/\gE n (st.take i) ps os ps1 os1/\σ=[some<|.ref S,some<|.ref p1,some<|.ref o1,u3,u4]) ⟨p,o,ps,os,_,_,au.refl H,hp,ho,.inl rfl,.inl rfl,lw,rfl⟩ ?_ ?_ ?_
 ·rintro i σ H' _ ⟨_,_,_,_,_,_,sm,_⟩;exact aq.of<|sm _ _ hS.lst
 ·rintro i x σ H1 hx ⟨p1,o1,ps1,os1,u3,u4,sm,e1,e2,f1,f2,lo,rfl⟩;rw [Aj,Az] at hx;obtain⟨u,hu,rfl⟩:=hx;have hi:i < st.length:=by have:=(Ac.mp hu).1;omega
  have hs:=Ab hi;generalize st[i]=s at hs;have iI:=Ap hs;obtain⟨a1,a2,a3⟩:=(hS.same sm).at' i u s hu hs;obtain⟨y,l',hy⟩:∃ y l',s.2=y :: l':=by
   cases k:s.2 with
   | nil=>exact absurd k<|I.ne s iI
   | cons y l'=>exact⟨y,l',rfl⟩
  have hd:s.2.head?=some y:=by rw [hy];rfl
  have l1:=sub_len hn lo.nd.1 lo.sub.1;have l2:=sub_len hn lo.nd.2 lo.sub.2;have l3:=sub_len hn (I.nd s iI).1 (I.sub s iI).1;have l4:=sub_len hn (I.nd s iI).2 (I.sub s iI).2;refine iE rfl (aI.of a1) (bg 3 nd<|bg 4 nd ?_);show Run _ _ _ [some<|.ref S,some<|.ref p1,some<|.ref o1,some<|.ref u.2.1,some<|.ref u.2.2] H1;have ha:dY (s.2.map V.str) ((0:Nat):Int)=some (.str y):=xt (by rw [hy];rfl);refine eY<|cE qU<|aU cN<|ae 4<|aD ⟨u.2.2,_,_,.str y,rfl,rfl,aq.of a3,ha,ae 2 ⟨o1,_,rfl,.inl<|aq.of e2,rfl,pL _,_,rfl,?_⟩⟩;have fF:∀(x y:Bool),(if false=true then x else y)=y:=λ_ _=>rfl;rw [fF,pK,vP]
  by_cases hb:y∈os1
  ·rw [BW hb];refine cA (a7 1 nd<|bz GM hr<|ai<|ae 1<|ai<|ae 3<|az ⟨p1,u.2.1,ps1,s.1,rfl,e1,a2,by omega,λm ms H2 s2 n2 em _ ndm mm=>?_⟩);refine a7 2 nd (bz GM hr<|ai<|ae 2<|ai<|ae 4<|az ⟨o1,u.2.2,os1,s.2,rfl,s2 _ _ e2,s2 _ _ a3,by omega,λk ks H3 s3 n3 ek _ ndk mk=>?_⟩);exact bo<|bo ⟨m,k,ms,ks,_,_,(sm.trans s2).trans s3,s3 _ _ em,ek,.inr<|sm.free n2,.inr<|(sm.trans s2).free n3,lo.step I hs hd hb ndm ndk mm mk,rfl⟩
  ·rw [BR hb];exact bG<|bo<|bo ⟨p1,o1,ps1,os1,_,_,sm,e1,e2,f1,f2,lo.skip hs hd hb,rfl⟩
 ·rintro σ H1 ⟨p1,o1,ps1,os1,u3,u4,sm,e1,e2,f1,f2,lo,rfl⟩;rw [Aa,hl,Ca] at lo;refine bO<|dB<|ai<|ae 1<|ai<|ae 2<|az ⟨Z2,λt ht=>?_⟩;have sT:=aT ht<|.tup [.ref p1,.ref o1];exact q t p1 o1 ps1 os1 _ (sm.trans sT) (sm.free ht) aB (sT _ _ e1) (sT _ _ e2) f1 f2 lo
theorem q4k{n:Net}(T:av n){ps cs:List Str}(h:∀ z,z∈cs↔dS n ps z):(λz=>decide (z∈cs))=bt n λy=>decide (y∈ps):=by
 funext z
 rw [Jd T,decide_eq_decide.mpr<|h z]
abbrev NPb:List Str:=["rows","odds","steps","point","tried","left"]
theorem v6:ak NPb ["rows","odds"] (aW DS):=⟨rfl,rfl,rfl,by decide +kernel,rfl,by decide +kernel,by decide +kernel⟩
theorem x0y{f:Addr}{fd:FuncData}(F:bx K "points_by" "points_by" DS f fd)(T:Txt mg)(GP:aS P w K mg base 3 "points_of" ["rows"] Jh)(GL:aS P w K mg base 3 "lowered" ["steps","points","odds"] Jt)(GO:aS P w K mg base 3 "odd_points" ["rows","some"] yV)(GC:aS P w K mg base 3 "cut_of" ["rows","points"] yT):aF P w K mg base bJ 4 f fd ["rows","odds"] qC:=by
 refine F.gb v6 (λvs H Q E h=>?_) λb0 H vs Q E hr h=>?_
 ·obtain⟨R,o,as,n,os,s,rfl,_⟩:=h;rfl
 obtain⟨R,o,as,n,os,s,rfl,hR,hN,hT,hn,gR,ho,hO,rp,q⟩:=h;have nd:=v6.nd;show Run _ _ _ [some<|.ref R,some<|.ref o,none,none,none,none] H;refine a7 2 nd<|d3<|az ⟨Z0,λS hS=>?_⟩;have s0:=aT hS<|.lst [];have Jv:(upd H S<|.lst []) S=some (.lst []):=aB;show Run _ _ _ [some<|.ref R,some<|.ref o,some<|.ref S,none,none,none] (upd H S<|.lst []);generalize upd H S (.lst [])=H0 at s0 Jv;refine kE (bz GP hr<|ai<|ae 0<|az ⟨R,as,n,rfl,hR.same s0,by omega,λN H1 s1 n1 eN=>⟨N,rfl,⟨_,aq.of eN⟩,?_⟩⟩);have nNS:N≠S:=λe=>by rw [e,Jv] at n1;cases n1
 refine kF (xs:=(b9 n).map V.str) (λi σ H'=>∃(us:List<|Addr×Addr×Addr) (st:cW) (u3 u4 u5:Option V),au H H'/\H' N=some (Ls<|b9 n)/\gF H' S us st/\(∀ u∈us,u.2.1≠S/\u.2.2≠S)/\jy n i st/\σ=[some<|.ref R,some<|.ref o,some<|.ref S,u3,u4,u5]) ⟨[],[],_,_,_,s0.trans s1,eN,⟨s1 _ _ Jv,rfl,λi u s h=>by simp at h⟩,λu h=>(by cases h),jy.start n,rfl⟩ ?_ ?_ ?_
 ·rintro i σ H' _ ⟨_,_,_,_,_,_,eN,_⟩;exact aq.of eN
 ·rintro i x σ H2 hx ⟨us,st,u3,u4,u5,sm,SR,sJ,fS,I,rfl⟩;rw [Aj,Az] at hx;obtain⟨x,hx,rfl⟩:=hx;have E6:=Ap hx;have SU:=hR.same sm;have yW:=sJ.lst;refine bg 3 nd ?_;show Run _ _ _ [some<|.ref R,some<|.ref o,some<|.ref S,some<|.str x,u4,u5] H2;refine w6<|bz GL hr<|ai<|ae 2<|ai<|d3<|ai<|ae 3<|az ⟨Z1,λA hA=>ai<|bz GO hr<|ai<|ae 0<|ai<|bz GC hr<|ai<|ae 0<|ai<|d3<|ai<|ae 3<|az ⟨Z1,λB hB=>?_⟩⟩;have sA:=aT hA<|.lst [.str x];have sB:=aT hB<|.lst [.str x];have eA:(upd H2 A<|.lst [.str x]) A=some (Ls [x]):=aB;have eB:(upd (upd H2 A<|.lst [.str x]) B<|.lst [.str x]) B=some (Ls [x]):=aB;have eA:=sB _ _ eA;have v7:=sA.trans sB;generalize upd (upd H2 A<|.lst [.str x]) B (.lst [.str x])=H3 at eA eB v7;refine az ⟨R,B,as,n,[x],rfl,SU.same v7,hT,by omega,gR,eB,λC cs H4 s4 n4 eC soC mC lC=>?_⟩;refine az ⟨R,C,as,n,cs,rfl,(SU.same v7).same s4,by omega,by omega,eC,λO zs H5 s5 n5 eO pO=>?_⟩;have v8:=SL pO;rw [q4k hT mC] at v8;have v9:=s4.trans s5;have Jw:=v7.trans v9;refine az ⟨S,A,O,us,n,st,[x],zs,rfl,sJ.same Jw,I.cw,hn,v9 _ _ eA,eO,gE.start (Bf.mpr ⟨Bw,Ch⟩) (v8.nd hN) (λy hy=>by rw [Ad.mp hy];exact E6) v8.sub,λL p' o' cF bS H6 s6 n6 eL e1 e2 f1 f2 lo=>?_⟩;have yX:=Jw.trans s6;have SV:=sm.trans yX;have Jx:=yX _ _ yW;have SW:=Jw _ _ yW;have fp:p'≠S:=by
   rcases f1 with rfl | f1
   ·exact λe=>by rw [e,yW] at hA;cases hA
   ·exact λe=>by rw [e,SW] at f1;cases f1
  have fo:o'≠S:=by
   rcases f2 with rfl | f2
   ·exact λe=>by rw [e,s4 _ _<|v7 _ _ yW] at n5;cases n5
   ·exact λe=>by rw [e,SW] at f2;cases f2
  refine iE rfl (aI.of eL) (bg 4 nd<|bg 5 nd ?_);show Run _ _ _ [some<|.ref R,some<|.ref o,some<|.ref S,some<|.str x,some<|.ref p',some<|.ref o'] H6;refine eY (WL<|ae 5 (v:= .ref o') ⟨!bS.isEmpty,Or.inl ⟨_,aq.of e2,by cases bS <;> rfl⟩,?_⟩);have SY:=yX _ _ SR;have wa:=sJ.same yX;have lI:=I.len;have lN:=(Ac.mp hx).1;rw [Aa] at lN;cases bS with
  | nil=>exact bG<|bo<|bo ⟨us,st,_,_,_,SV,SY,wa,fS,I.skip hN hx v8 lo,rfl⟩
  | cons y l'=>
   refine cA<|gZ<|lV<|ae 2 ⟨S,rfl,⟨_,Jx⟩,dB<|ai<|ae 4<|ai<|ae 5<|az ⟨Z2,λt ht=>?_⟩⟩;have sT:=aT ht<|.tup [.ref p',.ref o'];have eT:(upd H6 t<|.tup [.ref p',.ref o']) t=some (.tup [.ref p',.ref o']):=aB;have tS:t≠S:=λe=>by rw [e,Jx] at ht;cases ht
   have hl:=sJ.len;generalize upd H6 t (.tup [.ref p',.ref o'])=H7 at sT eT;have wc:=wa.same sT;refine⟨_,sT _ _ Jx,by rw [Aa];exact cz (by omega),bo<|bo ⟨us++[(t,p',o')],st++[(cF,y :: l')],_,_,_,gm (SV.trans sT) hS,by rw [ay nNS];exact sT _ _ SY,⟨?_,by rw [Af,Af,hl];rfl,λj u s hu hs=>?_⟩,λu hu=>?_,I.step hN hx v8 lo (λe=>by cases e),rfl⟩⟩
   ·rw [aB,Ak];rfl
   ·by_cases hj:j < us.length
    ·rw [Ar hj] at hu;rw [Ar<|by omega] at hs;obtain⟨b1,b2,b3⟩:=wc.at' j u s hu hs;obtain⟨g1,g2⟩:=fS u<|Ap hu;exact⟨by rw [ay<|bU b1 wc.lst λz=>nomatch z];exact b1,by rw [ay g1];exact b2,by rw [ay g2];exact b3⟩
    ·rw [Ay<|by omega] at hu hs;have fN:j - us.length=0:=by
      have:=(Ac.mp hu).1;simp at this;omega
     rw [fN] at hu;rw [<- hl,fN] at hs;cases hu;cases hs;exact⟨by rw [ay tS];exact eT,by rw [ay fp];exact sT _ _ e1,by rw [ay fo];exact sT _ _ e2⟩
   ·rcases Am.mp hu with k | k
    ·exact fS u k
    ·rw [Ad.mp k];exact⟨fp,fo⟩
 ·rintro σ H2 ⟨us,st,u3,u4,u5,sm,SR,sJ,fS,I,rfl⟩;rw [Aa,Aa] at I;refine bO<|aU bF<|bz GL hr<|ai<|ae 2<|ai<|d3<|az ⟨Z0,λA hA=>ai<|ae 1<|az ?_⟩;have sA:=aT hA<|.lst [];have eA:(upd H2 A<|.lst []) A=some (Ls []):=aB;generalize upd H2 A (.lst [])=H3 at sA eA;refine⟨S,A,o,us,n,st,[],os,rfl,sJ.same sA,I.cw,hn,eA,sA _ _<|sm _ _ ho,gE.start Ch (hO.nd hN) (λy hy=>by cases hy) hO.sub,λL p' o' cF bS H6 s6 n6 eL e1 e2 f1 f2 lo=>aD ⟨L,_,_,.ref p',rfl,rfl,aI.of eL,rfl,?_⟩⟩;exact q p' cF H6 ((sm.trans sA).trans s6) e1<|I.whole hN rp hO lo
abbrev SZ:List Str:=["rows","some","core","cut"]
abbrev we:List Str:=["rows","some","core","cut","tie"]
theorem wg:ak SZ ["rows","some"] (aW xN):=⟨rfl,rfl,rfl,by decide +kernel,rfl,by decide +kernel,by decide +kernel⟩
theorem q69:we.Nodup:=by decide +kernel
theorem k6q{f:Addr}{fd:FuncData}(F:bx K "parted" "parted" xN f fd)(T:Txt mg)(GK:aS P w K mg base 5 "cores_of" ["rows"] Js)(GC:aS P w K mg base 5 "cut_of" ["rows","points"] yT)(GB:aS P w K mg base 5 "points_by" ["rows","odds"] qC)(GO:aS P w K mg base 5 "odd_points" ["rows","some"] yV)(GM:aS P w K mg base 5 "summed" ["one","other"] yU):aF P w K mg base bJ 6 f fd ["rows","some"] Ju:=by
 refine F.gb wg (λvs H Q E h=>?_) λb0 H vs Q E hr h=>?_
 ·obtain⟨R,p,as,n,ss,rfl,_⟩:=h;rfl
 obtain⟨R,p,as,n,ss,rfl,hR,hN,hT,hf,hn,gR,hp,hss,db,q1,q2⟩:=h;have nd:=wg.nd;have pY:=i7 n;have QP:=FL hT hss db;show Run _ _ _ [some<|.ref R,some<|.ref p,none,none] H;refine kE (bz GK hr<|ai<|ae 0<|az ⟨R,as,n,rfl,hR,hN,hT,by omega,gR,λC cu cs H1 s1 n1 hC m4 fC=>⟨C,rfl,⟨_,aq.of hC.1⟩,?_⟩⟩);have hCl:=hC.2.1;have wl:(aM n).length<=(ends n).length:=ut n (ends n) [];have km:=jU hT (ends n) [] λe he=>he;have lcs:=m4.len;refine kF (xs:=cu.map V.ref) (λi σ H'=>∃(u2:Option V),au H1 H'/\(∀ c∈cs.take i,(c.filter λz=>ss.contains z).length % 2=0)/\σ=[some<|.ref R,some<|.ref p,u2,none]) ⟨_,au.refl _,λc h=>(by rw [UW] at h;cases h),rfl⟩ ?_ ?_ ?_
 ·rintro i σ H' _ ⟨_,sm,_⟩;exact aq.of<|sm _ _ hC.1
 ·rintro i x σ H2 hx ⟨u2,sm,ji,rfl⟩;rw [Aj,Az] at hx;obtain⟨u,hu,rfl⟩:=hx;have hi:i < cs.length:=by have:=(Ac.mp hu).1;omega
  have hc:=Ab hi;have hG:=hC.2.2 i u _ hu hc;have gQ:cs[i]∈cs:=Bu hi;have gT:=Ab (show i < (aM n).length by omega);have wk:=km _<|Ap gT;have cin:=yM wk.ends<|m4.mem i _ _ hc gT;have S0:=m4.mj _ gQ;have jw:=vN hc;generalize cs[i]=c at hc hG gQ cin S0 jw;have i5:=FL hT (gP S0) cin;refine bg 2 nd ?_;show Run _ _ _ [some<|.ref R,some<|.ref p,some<|.ref u,none] H2;refine eY<|cE jC<|a9 cY<|ce dF T.len DP<|ai<|jH (aW xN) SZ we 1 (fQ bH)<|ae 2 ⟨u,rfl,⟨_,aq.of<|sm _ _ hG⟩,λD hD=>?_⟩;refine EJ (λz=>ss.contains z) (cz<|by omega) (sm _ _ hG) hD (λcl C s0 H0 ex v v0 H' R' h=>bg 4 q69 h) (λcl C s0 H0 ex z zs T' h=>rd<|cE qU<|ae 4<|ae 1 ⟨p,_,rfl,.inl (aq.of<|by rw [ay<|bu (sm _ _<|s1 _ _ hp) hD];exact sm _ _<|s1 _ _ hp),rfl,pL _,_,rfl,?_⟩) (λcl C s0 H0 ex z H' R' h=>ae 4 h) ?_
  ·have fF:∀(x y:Bool),(if false=true then x else y)=y:=λ_ _=>rfl;rw [fF,pK];exact h
  have s2:=aT hD<|.lst<|(c.filter λz=>ss.contains z).map V.str;refine az ⟨D,_,rfl,.inl<|aq.of aB,aD ⟨_,_,rfl,rfl,(by show(0:Int) < 2;decide),aD ⟨rfl,_,rfl,?_⟩⟩⟩;generalize upd H2 D (.lst<|(c.filter λz=>ss.contains z).map V.str)=H3 at s2;rw [Aa]
  by_cases k:(c.filter λz=>ss.contains z).length % 2=1
  ·rw [BW<|BZ V.int<|by omega];refine cA<|bO<|dB<|ai<|iX<|ai<|ae 2<|az ⟨Z2,λt ht=>?_⟩;have s3:=aT ht<|.tup [.str "odd",.ref u];have jn:=(s1.trans sm).trans s2;exact q1 t u c _ (jn.trans s3) (jn.free ht) (fC u<|Ap hu) aB (s3 _ _<|s2 _ _<|sm _ _ hG) ⟨cs,m4,gQ⟩ k
  ·rw [BR λh=>k<|by have:=V.int.inj h;omega];refine bG<|bo<|bo ⟨_,sm.trans s2,λd hd=>?_,rfl⟩;rw [jw] at hd
   rcases Am.mp hd with h | h
   ·exact ji d h
   ·rw [Ad.mp h];omega
 ·rintro σ H2 ⟨u2,sm,ji,rfl⟩;rw [Aa,hCl,Ca] at ji;have ec:n8 n ss:=⟨cs,m4,ji⟩;have Jy:=s1.trans sm;refine a7 3 nd (bz GC hr<|ai<|ae 0<|ai<|bz GB hr<|ai<|ae 0<|ai<|bz GO hr<|ai<|ae 0<|ai<|ae 1<|az ⟨R,p,as,n,ss,rfl,hR.same Jy,by omega,by omega,Jy _ _ hp,λO os H3 s3 n3 eO pO=>?_⟩);have jn:=Jy.trans s3;refine az ⟨R,O,as,n,os,_,rfl,hR.same jn,hN,hT,hn,gR,eO,SL pO,q1s hT hf ec,λA ps H4 s4 eA pc=>?_⟩;have Jz:=jn.trans s4;refine az ⟨R,A,as,n,ps,rfl,hR.same Jz,hT,by omega,gR,eA,λM ms H5 s5 n5 eM jz mM lM=>?_⟩;have JA:=Jz.trans s5;show Run _ _ _ [some<|.ref R,some<|.ref p,u2,some<|.ref M] H5;have hml:=FL hT (gP jz) λz hz=>nJ<|(mM z).mp hz;refine bO (dB<|ai<|iX<|ai<|bz GM hr<|ai<|ae 1<|ai<|ae 3<|az ⟨p,M,ss,ms,rfl,JA _ _ hp,eM,by omega,λL rs H6 s6 n6 eL sL nL mL=>ai<|ae 3<|az ⟨(by show 3<=sizeLine;decide),λt ht=>?_⟩⟩);have S6:=JA.trans s6;have s7:=aT ht<|.tup [.str "parts",.ref L,.ref M];exact q2 t L M rs ms ps _ (S6.trans s7) (S6.free ht) (JA.free n6) (Jz.free n5) (λe=>by rw [e,eM] at n6;cases n6) aB (s7 _ _ eL) (s7 _ _<|s6 _ _ eM) ec (FH sL nL) jz (k1k hT pc mM mL) mM mL
end
end E8
namespace L2
open PySem PySem.Spec PyProof.Rows
section
variable{X:Cx}{tg:Expr}
end
section
variable{X:Cx}{elt tg iter:Expr}{ifs:List Expr}{scope:Scope}{pos:Pos}{N':List Str}{n:Nat}{wi:TI}{g:TG}{tc:TT}{te:TE}
end
section
variable{X:Cx}{elt tg iter c:Expr}{ifs:List Expr}{scope:Scope}{pos p:Pos}{wi:TI}{σ:St}{H:Hp}{Q:VK}{T:Bool->Hp->Prop}{rest:List Stmt}{D:Ends}
end
section
variable{X:Cx}{k:Nat}{ps:List Str}{sp:Addr->Obj->Sp}{E:XK}{x:Str}{p pos:Pos}{e:Expr}{es:List Expr}{σ:St}{H:Hp}{Q:VK}
end
end L2
namespace E8
open PySem L2 Nt bC bA
open PyProof.Rows (sortedS)
def qD:Sp:=λvs H Q _=>∃(R:Addr) (as:List<|Addr×Addr) (n:Net),vs=[.ref R]/\ao H R as n/\n.length<=1000/\(ag n).length<=900/\(∀ zs:List Str,zs.Nodup->(∀ z∈zs,z∈ag n)->zs.length < 64) /\
 ∀(L:Addr) (ss:List Str) (H':Hp),au H H'->H L=none->H' L=some (Ls ss)->ss.Nodup->sortedS ss=true->(∀ z,z∈ss↔z∈ag n)->Q (.ref L) H'
theorem k2s{zs:List Str}{z:Str}(h:zs.Nodup):(added zs z).Nodup:=by
 unfold added
 split
 ·exact h
 ·rename_i hz;exact oO h hz
theorem k8o{zs:List Str}{z y:Str}:y∈added zs z↔y∈zs\/y=z:=by
 unfold added
 split
 ·rename_i hz;refine⟨.inl,λh=>h.elim id λe=>?_⟩;rw [e];exact hz
 ·rw [Am,Ad]
theorem S7{n:Net}{r:Nat}(h:r < n.length):ag (n.take<|r+1)=ag (n.take r)++row n r:=by
 rw [lX h];unfold ag;rw [Cj,Ab h,Du];simp
def c9:List Str:=["NoTie"]
structure Cl(K:PySem.W.Frag)(mg:Str->Option Value)(c:Str->Addr):Prop where
 net:mg "NetError" = some (.ref<|c "NetError")
 x0G:XC K<|c "NetError"
 at':∀ x∈c9,mg x=some (.ref<|c x)/\XC K (c x)/\Rw K (c x) (c "NetError")=true/\Rx K (c x)=true/\PySem.W.kitOne K (.ref<|c x) (.type "ValueError")=some true
 kit:∀ x∈c9,∀ y∈c9,PySem.W.kitOne K (.ref<|c x) (.ref<|c y)=some (decide (x=y))
def iL(K:PySem.W.Frag)(x:Str):Addr:=match PySem.W.nsIn K mainGlobals x with
 | some (some<|.ref a)=>a
 | _=>0
def JE(K:PySem.W.Frag):Bool:=(PySem.W.nsIn K mainGlobals "NetError" == some (some<|.ref<|iL K "NetError")) && PySem.W.excIn K (iL K "NetError") mI "ValueError.__new__" &&
 c9.all λx=>(PySem.W.nsIn K mainGlobals x == some (some<|.ref<|iL K x)) && PySem.W.excIn K (iL K x) mI "ValueError.__new__" && Rw K (iL K x) (iL K "NetError") && Rx K (iL K x) && (PySem.W.kitOne K (.ref<|iL K x) (.type "ValueError") == some true) &&
  c9.all λy=>PySem.W.kitOne K (.ref<|iL K x) (.ref<|iL K y) == some (decide (x=y))
theorem x0d{K:PySem.W.Frag}{h:Heap}{mg:Str->Option Value}(X:K.In h)(G:h.Ns mainGlobals mg)(q:JE K=true):Cl K mg (iL K):=by
 unfold JE at q;simp only [Bv,Ee,JM] at q;obtain⟨⟨q1,q2⟩,q3⟩:=q;exact⟨LC X G q1,q2,λx hx=>by obtain⟨⟨⟨⟨⟨a1,a2⟩,a3⟩,a4⟩,a5⟩,_⟩:=q3 x hx;exact⟨LC X G a1,a2,a3,a4,a5⟩,λx hx y hy=>(q3 x hx).2 y hy⟩
def JI(n:Net):Prop:=∀ zs:List Str,zs.Nodup->(∀ z∈zs,z∈ag n)->zs.length < 64
def yY(c:Str->Addr):Sp:=λvs H Q E=>∃(R:Addr) (as:List<|Addr×Addr) (n:Net) (z:Str),vs=[.ref R,.str z]/\ao H R as n/\n.length<=1000/\(ag n).length<=900/\JI n /\
 (z∉ag n->∀ H',au H H'->E (.ref<|c "NoTie") none H')/\(z∈ag n->∀ H',au H H'->Q .non H')
section
variable{P:Program}{w:World}{K:PySem.W.Frag}{mg:Str->Option Value}{base:Heap}
abbrev wj:List Str:=["rows"]
abbrev wm:List Str:=["rows","point","ties","tie"]
theorem ko:ak wj ["rows"] (aW xJ):=⟨rfl,rfl,rfl,by decide +kernel,rfl,by decide +kernel,by decide +kernel⟩
theorem JO:wm.Nodup:=by decide +kernel
theorem q5c{f:Addr}{fd:FuncData}(F:bx K "ties_of" "ties_of" xJ f fd)(T:Txt mg):aF P w K mg base bJ 1 f fd ["rows"] qD:=by
 refine F.gb ko (λvs H Q E h=>?_) λb0 H vs Q E hr h=>?_
 ·obtain⟨R,as,n,rfl,_⟩:=h;rfl
 obtain⟨R,as,n,rfl,hR,hn,ht,cI,q⟩:=h;have nd:=ko.nd;have bY:=hR.len;have sub:∀(zs:List Str) (r:Nat) (ys:List Str),zs.Nodup->(∀ z,z∈zs->z∈ag n)->zs.length < 64:=λzs r ys h1 h2=>cI zs h1 h2;have JP:∀ r,r < n.length->∀ z,z∈ag (n.take r)\/z∈row n r->z∈ag n:=λr pT z hz=>by
  have e:ag n=ag (n.take<|r+1)++ag (n.drop<|r+1):=by
   unfold ag;rw [<- Du,Db]
  rw [e,S7 pT]
  rcases hz with h | h <;> simp [h]
 show Run _ _ _ [some<|.ref R] H;refine bO<|ce (Ny rfl) T.sorted DW<|ai<|ZO (aW xJ) wj wm 3 (fQ bH)<|ae 0 ⟨R,rfl,⟨_,aq.of hR.lst⟩,λD hD cl C s₀ H₀ ex=>?_⟩;refine sk (xs:=as.map λa=>V.ref a.1) (λr σ' H'=>(∃ v1 v2 v3,σ'=[some<|.ref R]++[v1,v2,v3])/\∃ zs:List Str,au H H'/\H' D=some (bd P w D zs)/\zs.Nodup/\∀ z,z∈zs↔z∈ag (n.take r)) ⟨⟨none,none,none,rfl⟩,[],aT hD _,aB,Ch,λz=>Iff.rfl⟩ ?_ ?_ ?_
 ·rintro r σ' H' _ ⟨_,zs,sm,_⟩;exact aq.of<|sm _ _ hR.lst
 ·rintro r x σ' H' hx ⟨⟨v1,v2,v3,rfl⟩,zs,sm,eD,zn,zm⟩;have hi:r < n.length:=by
   have:=(Ac.mp hx).1;rw [Aa] at this;omega
  obtain⟨a,ea,d7,et,el,er⟩:=(hR.same sm).at hi;rw [Aj,ea] at hx;cases hx;refine iE rfl (aI.of et) (bg 1 JO<|bg 2 JO ?_);refine gI ?_;rw [BP rfl];refine ZN rfl rfl (fQ bH) (ae 2 ⟨a.2,rfl,⟨_,aq.of el⟩,?_⟩);have naD:a.2≠D:=bU el eD λz=>nomatch z;refine sk (xs:=(row n r).map V.str) (λp σ' bD=>(∃ v3,σ'=[some<|.ref R]++[some<|.str n[r].1,some<|.ref a.2,v3])/\∃ zs:List Str,(∀ b o,b≠D->H' b=some o->bD b=some o)/\bD D=some (bd P w D zs)/\zs.Nodup/\∀ z,z∈zs↔z∈ag (n.take r)\/z∈(row n r).take p)
   ⟨⟨_,rfl⟩,zs,λb o _ h=>h,eD,zn,λz=>by rw [zm z];simp⟩ ?_ ?_ ?_
  ·rintro p σ' bD _ ⟨_,zs,kb,_⟩;exact aq.of<|kb _ _ naD el
  ·rintro p x σ' bD hx ⟨⟨v3,rfl⟩,zs,kb,ia,yZ,y4⟩;rw [Aj,Az] at hx;obtain⟨z,hz,rfl⟩:=hx;refine bg 3 JO ?_;refine gI ?_;rw [BP rfl];have hl:zs.length < 64:=cI zs yZ λy hy=>JP r hi y<|((y4 y).mp hy).imp id λh=>List.mem_of_mem_take h;refine ZM (ae 3 ⟨z,zs,rfl,ia,by omega,⟨_,rfl⟩,added zs z,λb o hb h=>by rw [ay hb];exact kb b o hb h,aB,k2s yZ,λy=>?_⟩);rw [k8o,y4 y,Cj,hz,or_assoc];simp
  ·rintro σ' bD ⟨⟨v3,rfl⟩,zs,kb,ia,yZ,y4⟩;refine⟨⟨_,_,_,rfl⟩,zs,λb o h=>kb b o (bu h hD)<|sm _ _ h,ia,yZ,λz=>?_⟩;rw [y4 z,Aa,Ca,S7 hi,Am]
 ·rintro σ' H' ⟨_,zs,sm,eD,zn,zm⟩;rw [Aa,bY,Ca] at zm;refine az ⟨D,zs,rfl,eD,cI zs zn λy hy=>(zm y).mp hy,λl ss hl hp hs=>?_⟩;exact q l ss _ (sm.trans<|aT hl _) (hV sm hl) aB (hp.nodup_iff.mpr zn) hs λz=>by rw [hp.mem_iff,zm z]
abbrev NNd:List Str:=["rows","tie"]
theorem kq:ak NNd ["rows","tie"] (aW DJ):=⟨rfl,rfl,rfl,by decide +kernel,rfl,by decide +kernel,by decide +kernel⟩
theorem q6a{f:Addr}{fd:FuncData}{c:Str->Addr}(F:bx K "need_tie" "need_tie" DJ f fd)(T:Txt mg)(cl:Cl K mg c)(GT:aS P w K mg base 1 "ties_of" ["rows"] qD):aF P w K mg base (XF P w) 2 f fd ["rows","tie"] (yY c):=by
 refine F.gx kq (λvs H Q E h=>?_) λb0 H vs Q hr h=>?_
 ·obtain⟨R,as,n,z,rfl,_⟩:=h;rfl
 obtain⟨R,as,n,z,rfl,hR,hn,ht,cI,qE,qQ⟩:=h;have nd:=kq.nd;have mN:("NoTie" : Str)∈c9:=by decide
 show Run _ _ _ [some<|.ref R,some<|.str z] H;refine eY<|cE VX<|ae 1<|bz GT hr<|ai<|ae 0<|az ⟨R,as,n,rfl,hR,hn,ht,cI,λL ss H1 s1 n1 e1 snd so mem=>⟨L,_,rfl,.inl<|aq.of e1,rfl,pL _,_,rfl,?_⟩⟩;rw [BP rfl,pK,vP]
 by_cases hz:z∈ag n
 ·rw [BW<|(mem z).mpr hz];exact bG<|bo<|bo<|qQ hz _ s1
 ·rw [BR λk=>hz<|(mem z).mp k];refine cA<|k79 rzX (cl.at' _ mN).1 (cl.at' _ mN).2.1 rfl (ai<|iX<|az ⟨Z1,qE hz _ s1⟩)
end
end E8
namespace Nt
open PySem L2 Classical
abbrev less(T:List Str)(t:Str):List Str:=T.filter λz=>!decide (z=t)
theorem bf{T:List Str}{t z:Str}:z∈less T t↔z∈T/\z≠t:=by
 rw [Ba,KN,HJ]
def qF(n:Net)(z:Str)(w:Str)(ss:List Str):Prop:=bT ss/\(∀ y∈ss,y∈ag n)/\z∈ss /\
  ((w = "double" ∧ dR n ss = true ∧ (∃ sd, bb n ss sd) ∧ ∃ cs, cr n cs ∧ ss ∈ cs) ∨
   (w = "cut"/\(∃ sd,bb n ss sd)/\dR n (less ss z)=true/\n8 n [z]) \/
   (w = "round"/\dR n ss=true/\(∃ sd,bb n (less ss z) sd)/\n8 n [z]))
theorem q3v{n:Net}(T:av n)(hf:HF n)(hN:(b9 n).Nodup)(h0:0 < n.length){cs:List (List Str)}(C:cr n cs){c:List Str}(hc:c∈cs):bT c/\(∀ z∈c,z∈ag n)/\dR n c=true/\∃ sd,bb n c sd:=by
 obtain⟨i,hi⟩:=Bh hc;have jM:=(Ac.mp hi).1;rw [C.len] at jM;have gT:=Ab jM;have hw:=Ap gT;have wk:=jU T (ends n) [] (λe he=>he) _ hw;have m:=C.mem i _ _ hi gT;exact⟨C.mj c hc,yM wk.ends m,k54 T hw m,k5z T hf hN h0 hw m⟩
theorem S8{c:List Str}(h:c.Nodup)(z:Str):(c.filter λy=>[z].contains y).length=if z∈c then 1 else 0:=by
 have e:(c.filter λy=>[z].contains y)=c.filter λy=>y == z:=by
  congr 1
  funext y
  rw [Ck,Bm,Ad,JM]
 rw [e,<- List.count_eq_length_filter]
 by_cases k:z∈c
 ·rw [BP k];exact Nat.le_antisymm (Go.mp h z)<|Dd.mpr k
 ·rw [BK k];exact Dx k
theorem q5i{n:Net}(T:av n)(hf:HF n)(hN:(b9 n).Nodup)(h0:0 < n.length){cs:List (List Str)}(C:cr n cs){c:List Str}(hc:c∈cs){z:Str}(h:(c.filter λy=>[z].contains y).length % 2=1):qF n z "double" c:=by
 obtain⟨a1,a2,a3,a4⟩:=q3v T hf hN h0 C hc;rw [S8<|gP a1] at h;refine⟨a1,a2,?_,.inl ⟨rfl,a3,a4,cs,C,hc⟩⟩
 by_cases k:z∈c
 ·exact k
 ·rw [BK k] at h;cases h
theorem y7{ss:List Str}(h:bT ss)(z:Str):bT (less ss z):=h.sublist Gr
theorem q4e{a b:List Str}{z:Str}(ha:bT a)(hb:bT b)(hx:fO [z] a b)(h:z∈a):less a z=b:=by
 refine FI (y7 ha z) hb λy=>?_;rw [bf,hx y]
 by_cases k:y=z
 ·rw [BP<|Ad.mpr k,k];exact⟨λq=>absurd rfl q.2,λq=>absurd h q⟩
 ·rw [BK λq=>k<|Ad.mp q];exact⟨λq=>q.1,λq=>⟨q,k⟩⟩
theorem k95{a b:List Str}{z:Str}(ha:bT a)(hb:bT b)(hx:fO [z] a b)(h:z∉a):z∈b/\less b z=a:=by
 have hz:z∈b:=(hx z).mpr (by rw [BP<|Ad.mpr rfl];exact h);refine⟨hz,FI (y7 hb z) ha λy=>?_⟩;rw [bf,hx y]
 by_cases k:y=z
 ·rw [k];exact⟨λq=>absurd rfl q.2,λq=>absurd q h⟩
 ·rw [BK λq=>k<|Ad.mp q];exact⟨λq=>q.1,λq=>⟨q,k⟩⟩
theorem q3t{n:Net}(T:av n)(h0:0 < n.length){z:Str}{rs cs ps:List Str}(ec:n8 n [z])(qG:bT rs)(jz:bT cs)(ji:dR n rs=true)(eU:∀ y,y∈cs↔dS n ps y)(hx:fO [z] cs rs)(h:z∈cs):qF n z "cut" cs:=
 ⟨jz,λy hy=>nJ<|(eU y).mp hy,h,.inr<|.inl ⟨rfl,FO T h0 ⟨jz,ps,eU⟩,by rw [q4e jz qG hx h];exact ji,ec⟩⟩
theorem k8h{n:Net}(T:av n)(h0:0 < n.length){z:Str}(hz:z∈ag n){rs cs ps:List Str}(ec:n8 n [z])(qG:bT rs)(jz:bT cs)(ji:dR n rs=true)(eU:∀ y,y∈cs↔dS n ps y)(hx:fO [z] cs rs)(h:z∉cs):qF n z "round" rs:=by
 obtain⟨h1,h2⟩:=k95 jz qG hx h;refine⟨qG,λy hy=>?_,h1,.inr<|.inr ⟨rfl,ji,by rw [h2];exact FO T h0 ⟨jz,ps,eU⟩,ec⟩⟩;have:=(hx y).mp hy
 by_cases k:y∈[z]
 ·rw [Ad.mp k];exact hz
 ·rw [BK k] at this;exact nJ<|(eU y).mp this
end Nt
namespace E8
open PySem L2 Nt bC bA
open PyProof.Rows (sortedS)
open Classical
def JS(c:Str->Addr):Sp:=λvs H Q E=>∃(R:Addr) (as:List<|Addr×Addr) (n:Net) (z:Str),vs=[.ref R,.str z]/\ao H R as n/\(b9 n).Nodup/\av n/\HF n/\0 < n.length/\n.length<=31/\(ag n).length<=60 /\
 (z∉ag n->∀ H',au H H'->E (.ref<|c "NoTie") none H')/\(z∈ag n->∀(t L:Addr) (w:Str) (ss:List Str) (H':Hp),au H H'->H t=none->H L=none->H' t=some (.tup [.str w,.ref L])->H' L=some (Ls ss)->qF n z w ss->Q (.ref t) H')
section
variable{P:Program}{w:World}{K:PySem.W.Frag}{mg:Str->Option Value}{base:Heap}
abbrev NKi:List Str:=["rows","tie","told"]
theorem wn:ak NKi ["rows","tie"] (aW DU):=⟨rfl,rfl,rfl,by decide +kernel,rfl,by decide +kernel,by decide +kernel⟩
theorem q5d{f:Addr}{fd:FuncData}{c:Str->Addr}(F:bx K "kind_of" "kind_of" DU f fd)(T:Txt mg)(cl:Cl K mg c)(GN:dk P w K mg base 7 "need_tie" ["rows","tie"]<|yY c)(GP:aS P w K mg base 7 "parted" ["rows","some"] Ju) :
  aF P w K mg base (XF P w) 8 f fd ["rows","tie"] (JS c):=by
 refine F.gx wn (λvs H Q E h=>?_) λb0 H vs Q hr h=>?_
 ·obtain⟨R,as,n,z,rfl,_⟩:=h;rfl
 obtain⟨R,as,n,z,rfl,hR,hN,hT,hf,h0,hn,gR,qE,qQ⟩:=h;have nd:=wn.nd;have few:JI n:=λzs h1 h2=>by have:=aX h1 h2;omega
 show Run _ _ _ [some<|.ref R,some<|.str z,none] H;refine gZ (yN GN hr Rv<|ai<|ae 0<|ai<|ae 1<|az ⟨R,as,n,z,rfl,hR,by omega,by omega,few,λhz=>qE hz,λhz H1 s1=>?_⟩);refine a7 2 nd<|bz GP hr<|ai<|ae 0<|ai<|d3<|ai<|ae 1<|az ⟨Z1,λA hA=>?_⟩;have sA:=aT hA<|.lst [.str z];have eA:(upd H1 A<|.lst [.str z]) A=some (Ls [z]):=aB;generalize upd H1 A (.lst [.str z])=H2 at sA eA;have s2:=s1.trans sA;refine az ⟨R,A,as,n,[z],rfl,hR.same s2,hN,hT,hf,hn,gR,eA,Bf.mpr ⟨Bw,Ch⟩,λy hy=>by rw [Ad.mp hy];exact hz,λt L c H3 s3 nt nL et eL ⟨cs,C,hc⟩ rG=>?_,λt L M rs cs ps H3 s3 nt nL nM hLM et eL eM ec qG jz ji eU hx=>?_⟩
 ·show Run _ _ _ [some<|.ref R,some<|.str z,some<|.ref t] H3;refine eY<|cE jC<|aU bF<|ae 2<|aD ⟨t,_,_,.str "odd",rfl,rfl,aI.of et,rfl,iX ⟨rfl,_,rfl,?_⟩⟩;rw [BW rfl];refine cA<|bO<|dB<|ai<|iX<|ai<|aU bF<|ae 2<|aD ⟨t,_,_,.ref L,rfl,rfl,aI.of et,rfl,az ⟨Z2,λu hu=>?_⟩⟩;have su:=aT hu<|.tup [.str "double",.ref L];have jn:=s2.trans s3;exact qQ hz u L "double" c _ (jn.trans su) (jn.free hu) (s2.free nL) aB (su _ _ eL)<|q5i hT hf hN h0 C hc rG
 ·show Run _ _ _ [some<|.ref R,some<|.str z,some<|.ref t] H3;refine eY<|cE jC<|aU bF<|ae 2<|aD ⟨t,_,_,.str "parts",rfl,rfl,aI.of et,rfl,iX ⟨rfl,_,rfl,?_⟩⟩;rw [BR<|by decide];refine bG<|bo<|bO<|WK<|cE qU<|ae 1<|aU bF<|ae 2<|aD ⟨t,_,_,.ref M,rfl,rfl,aI.of et,rfl,M,_,rfl,.inl<|aq.of eM,rfl,pL _,_,rfl,?_⟩;have fF:∀(x y:Bool),(if false=true then x else y)=y:=λ_ _=>rfl;rw [fF,pK,vP];have jn:=s2.trans s3
  by_cases k:z∈cs
  ·rw [BW k];refine cA<|dB<|ai<|iX<|ai<|aU bF<|ae 2<|aD ⟨t,_,_,.ref M,rfl,rfl,aI.of et,rfl,az ⟨Z2,λu hu=>?_⟩⟩;have su:=aT hu<|.tup [.str "cut",.ref M];exact qQ hz u M "cut" cs _ (jn.trans su) (jn.free hu) (s2.free nM) aB (su _ _ eM)<|q3t hT h0 ec qG jz ji eU hx k
  ·rw [BR k];refine bG<|dB<|ai<|iX<|ai<|aU bF<|ae 2<|aD ⟨t,_,_,.ref L,rfl,rfl,aI.of et,rfl,az ⟨Z2,λu hu=>?_⟩⟩;have su:=aT hu<|.tup [.str "round",.ref L];exact qQ hz u L "round" rs _ (jn.trans su) (jn.free hu) (s2.free nL) aB (su _ _ eL)<|k8h hT h0 hz ec qG jz ji eU hx k
open PyProof.Rows (sortedS)
open Classical
def du(n:Net)(H:Hp)(L:Addr)(ts:List Addr)(ps:List<|Nat×Nt.End):Prop:=H L=some (.lst<|ts.map V.ref)/\ts.length=ps.length/\∀(i:Nat) t p,ts[i]?=some t->ps[i]?=some p->∃ u,H t=some (.tup [.int (p.1:Int),.ref u])/\H u=some (TN n p.2)
theorem du.same{n:Net}{H H':Hp}{L:Addr}{ts:List Addr}{ps:List (Nat×Nt.End)}(h:du n H L ts ps)(s:au H H'):du n H' L ts ps:=⟨s _ _ h.1,h.2.1,λi t p a b=>let ⟨u,q1,q2⟩:=h.2.2 i t p a b;⟨u,s _ _ q1,s _ _ q2⟩⟩
theorem du.snoc{n:Net}{H:Hp}{L t u:Addr}{ts:List Addr}{ps:List (Nat×Nt.End)}{p:Nat×Nt.End}(h:du n H L ts ps)(ht:H t=some (.tup [.int (p.1:Int),.ref u]))(hu:H u=some (TN n p.2)):du n (upd H L<|.lst<|ts.map V.ref++[.ref t]) L (ts++[t]) (ps++[p]):=by
 obtain⟨h1,h2,h3⟩:=h;have k:∀ b xs,H b=some (.tup xs)->(upd H L<|.lst<|ts.map V.ref++[.ref t]) b=some (.tup xs):=λb xs q=>by rw [ay<|bU q h1 λz=>nomatch z];exact q
 refine⟨by rw [aB,Ak];rfl,by rw [Af,Af,h2];rfl,λi a x ha hx=>?_⟩
 by_cases hi:i < ts.length
 ·rw [Ar hi] at ha;rw [Ar<|by omega] at hx;obtain⟨v,q1,q2⟩:=h3 i a x ha hx;exact⟨v,k _ _ q1,k _ _ q2⟩
 ·rw [Ay<|by omega] at ha hx;have e:i - ts.length=0:=by
   have:=(Ac.mp ha).1;simp at this;omega
  rw [e] at ha;rw [<- h2,e] at hx;cases ha;cases hx;exact⟨u,k _ _ ht,k _ _ hu⟩
noncomputable def fz(n:Net)(z:Str)(l:List<|Nat×Nt.End):List (Nat×Nt.End):=l.filter λp=>decide (aA n p.2=z)
noncomputable def wo(n:Net)(z:Str):List (Nat×Nt.End):=fz n z (bZ 0<|aM n)++fz n z (bZ 1<|aM n)
def JU(c:Str->Addr):Sp:=λvs H Q E=>∃(R:Addr) (as:List<|Addr×Addr) (n:Net) (z:Str),vs=[.ref R,.str z]/\ao H R as n/\(n.map (·.1)).Nodup/\av n/\n.length<=60/\(ag n).length<=60 /\
 (z∉ag n->∀ H',au H H'->E (.ref<|c "NoTie") none H')/\(z∈ag n->∀ L ts H',au H H'->H L=none->du n H' L ts (wo n z)->Q (.ref L) H')
theorem q4o(n:Net)(z:Str)(l:List<|Nat×Nt.End)(p:Nat×Nt.End):fz n z (l++[p])=fz n z l++(if aA n p.2=z then [p] else []):=by
 unfold fz;rw [Cq,Cp]
 by_cases h:aA n p.2=z
 ·rw [BP<|BW h,BP h];rfl
 ·rw [BK λq=>h<|BX q,BK h];rfl
abbrev S9:List Str:=["rows","tie","names","walkers"]
abbrev wq:List Str:=["rows","tie","names","walkers","turn","number","walker","end"]
theorem wt:ak S9 ["rows","tie"] (aW xL):=⟨rfl,rfl,rfl,by decide +kernel,rfl,by decide +kernel,by decide +kernel⟩
theorem y8:wq.Nodup:=by decide +kernel
theorem q9u{f:Addr}{fd:FuncData}{c:Str->Addr}(F:bx K "passes_of" "passes_of" xL f fd)(T:Txt mg)(cl:Cl K mg c)(GN:dk P w K mg base 4 "need_tie" ["rows","tie"]<|yY c)(GB:aS P w K mg base 4 "ties_by_end" ["rows"] kd)(GW:aS P w K mg base 4 "walkers_of" ["rows"] vh) :
  aF P w K mg base (XF P w) 5 f fd ["rows","tie"] (JU c):=by
 refine F.gx wt (λvs H Q E h=>?_) λb0 H vs Q hr h=>?_
 ·obtain⟨R,as,n,z,rfl,_⟩:=h;rfl
 obtain⟨R,as,n,z,rfl,hR,hN,hT,hn,gR,qE,qQ⟩:=h;have nd:=wt.nd;have hu:=hr.u1;have few:JI n:=λzs h1 h2=>by have:=aX h1 h2;omega
 have pY:=i7 n;show Run _ _ _ [some<|.ref R,some<|.str z,none,none] H;refine gZ (yN GN hr Rv<|ai<|ae 0<|ai<|ae 1<|az ⟨R,as,n,z,rfl,hR,by omega,by omega,few,λhz=>qE hz,λhz H1 s1=>?_⟩);refine a7 2 nd (bz GB hr<|ai<|ae 0<|az ⟨R,as,n,rfl,hR.same s1,hN,by omega,by omega,λd kvs H2 s2 n2 e2 JY=>?_⟩);refine a7 3 nd (bz GW hr<|ai<|ae 0<|az ⟨R,as,n,rfl,hR.same<|s1.trans s2,hN,hT,by omega,by omega,λW ls H3 s3 n3 hW fW=>?_⟩);have ed3:=s3 _ _ e2;have s13:=s1.trans<|s2.trans s3;have wl:(aM n).length<=(ends n).length:=ut n (ends n) [];have km:=jU hT (ends n) [] λe he=>he;have sI:=hW.len;show Run _ _ _ [some<|.ref R,some<|.str z,some<|.ref d,some<|.ref W] H3;refine bO<|k99 (aW xL) S9 wq 4 (U7 bH)<|dB<|ai<|aD<|ai<|aD<|az ⟨Z2,λtp htp=>⟨tp,rfl,⟨_,aI.of aB⟩,λD hD cl' C' s₀ H₀ ex=>?_⟩⟩;have s4:=aT htp<|.tup [.int 0,.int 1];have Ta:(upd H3 tp<|.tup [.int 0,.int 1]) tp=some (.tup [.int 0,.int 1]):=aB;have y9:=hW.same s4;have J0:=s4 _ _ ed3;have J1:=s13.trans s4;generalize upd H3 tp (.tup [.int 0,.int 1])=H4 at s4 Ta y9 J0 J1 hD;have qk:=hV J1 hD;have sD:=aT hD<|.lst [];refine k1j (xs:=[.int 0,.int 1]) (λt σ' H'=>(∃ v1 v2 v3 v4,σ'=[some<|.ref R,some<|.str z,some<|.ref d,some<|.ref W]++[v1,v2,v3,v4])/\au H4 H'/\∃ ts,ts.length<=10000 * t/\du n H' D ts (if t=0 then [] else if t=1 then fz n z (bZ 0<|aM n) else wo n z)) ⟨⟨none,none,none,none,rfl⟩,sD,[],Bt _,aB,rfl,λi t p h=>by simp at h⟩ ?_ ?_ ?_
 ·rintro t σ' H' _ ⟨_,sm,_⟩;exact aI.of<|sm _ _ Ta
 ·rintro t x σ' H' hx ⟨⟨v1,v2,v3,v4,rfl⟩,sm,ts,kZ,hP⟩;have ht:t < 2:=(Ac.mp hx).1;obtain rfl:x = .int (t:Int):=by
   match t,ht with
   | 0,_=>cases hx;rfl
   | 1,_=>cases hx;rfl
  refine bg 4 y8 ?_;refine gI<|cA ?_;refine Ry q1g rfl rfl (q6p rfl T.enum iw) (ai<|ae 3<|az ⟨W,rfl,⟨_,aq.of<|sm _ _ y9.lst⟩,?_⟩);generalize pc:(if t=0 then [] else if t=1 then fz n z (bZ 0<|aM n) else wo n z)=wu at hP;have J2:(if t+1=0 then [] else if t+1=1 then fz n z (bZ 0<|aM n) else wo n z)=wu++fz n z (bZ t<|aM n):=by
   rcases (show t=0\/t=1 by omega) with q | q
   ·rw [<- pc,q];rfl
   ·rw [<- pc,q];rfl
  rw [J2];refine j9u (xs:=ls.map V.ref) (λi σ' bD=>(∃ v2 v3 v4,σ'=[some<|.ref R,some<|.str z,some<|.ref d,some<|.ref W]++[some<|.int (t:Int),v2,v3,v4])/\au H4 bD/\∃ ts,ts.length<=10000 * t+130 * i/\du n bD D ts (wu++fz n z (bZ t<|(aM n).take i))) ⟨⟨_,_,_,rfl⟩,sm,ts,by omega,by
    rw [UW];show du n H' D ts (wu++[]);rw [Be];exact hP⟩ ?_ ?_ ?_
  ·rintro i σ' bD _ ⟨_,sm,_⟩;exact aq.of<|sm _ _ y9.lst
  ·rintro i x Tq σ' bD hx ⟨⟨v2,v3,v4,rfl⟩,sm,ts,kZ,hP⟩ hTq;rw [Aj,Az] at hx;obtain⟨l,hl,rfl⟩:=hx;have jM:i < (aM n).length:=by have:=(Ac.mp hl).1;rw [<- sI];exact this
   have gT:=Ab jM;have jw:(aM n).take (i+1)=(aM n).take i++[(aM n)[i]]:=by rw [Cj,gT];rfl
   obtain⟨us,elw,hE⟩:=(y9.same sm).at' i l _ hl gT;have wk:=km _<|Ap gT;generalize (aM n)[i]=es at jw hE wk;have sq:=aT hTq<|.tup [.int (i:Int),.ref l];have qB:=hE.1;have x0H:=wk.few;have J3:((aM n).take i).length=i:=by rw [Bk];omega
   refine iE rfl (aI.of aB) (bg 5 y8<|bg 6 y8 ?_);refine gI<|cA ?_;have Tc:=sq _ _ elw;refine Ry q1v rfl rfl (fQ bH) (RC<|ae 6 ⟨l,_,rfl,aq.of Tc,ae 4 ⟨t,rfl,by omega,aq.of Tc,λpl iR=>⟨pl,rfl,⟨_,aq.of aB⟩,?_⟩⟩⟩);rw [<- Gw,yy];have hE2:cT n bD (L2.ah<|us.drop t) (cn t es):=cT.ah ⟨by rw [Cg,Cg,qB],λj a b h1 h2=>by rw [De] at h1 h2;exact hE.2 _ a b h1 h2⟩;have hw2:∀ e∈cn t es,e∈ends n:=λe he=>by
    obtain⟨m,hm⟩:=Bh he;unfold cn at hm;rw [jt,De] at hm;exact wk.ends e<|Ap hm
   have lpr:(cn t es).length<=es.length:=by unfold cn;exact By (EZ _)<|by rw [Cg];omega
   have sp:=aT iR<|.lst<|(L2.ah<|us.drop t).map V.ref;have zg:=sq.trans sp;have rV:(upd (upd bD Tq<|.tup [.int (i:Int),.ref l]) pl<|.lst<|(L2.ah<|us.drop t).map V.ref) pl=some (.lst<|(L2.ah<|us.drop t).map V.ref):=aB;have zh:=hE2.same zg;have zi:=hP.same zg;have sm3:=sm.trans zg;generalize upd (upd bD Tq<|.tup [.int (i:Int),.ref l]) pl (.lst<|(L2.ah<|us.drop t).map V.ref)=H5 at zg rV zh zi sm3;have J5:pl≠D:=λe=>by rw [e] at iR;rw [sq _ _ hP.1] at iR;cases iR
   have bnd:∀(m:Nat) (l:List<|Nat×Nt.End),(fz n z l).length<=l.length:=λm l=>Dm ..;refine sk (xs:=(L2.ah<|us.drop t).map V.ref) (λm σ' H6=>(∃ v4,σ'=[some<|.ref R,some<|.str z,some<|.ref d,some<|.ref W]++[some<|.int (t:Int),some<|.int (i:Int),some<|.ref l,v4])/\(∀ b o,b≠D->H5 b=some o->H6 b=some o)/\∃ ts,ts.length<=10000 * t+130 * i+m/\du n H6 D ts (wu++fz n z (bZ t ((aM n).take i)++((cn t es).take m).map λe=>(i,e)))) ⟨⟨_,rfl⟩,λb o _ h=>h,ts,by omega,by
     show du n H5 D ts (wu++fz n z (_++[]));rw [Be];exact zi⟩ ?_ ?_ ?_
   ·rintro m σ' H6 _ ⟨_,kb,_⟩;exact aq.of<|kb _ _ J5 rV
   ·rintro m x σ' H6 hx ⟨⟨v4,rfl⟩,kb,ts,kZ,hP⟩;rw [Aj,Az] at hx;obtain⟨te,ka,rfl⟩:=hx;have l3:=zh.1;have hm:m < (cn t es).length:=by have:=(Ac.mp ka).1;omega
    have gK:=Ab hm;have sj:((cn t es).take<|m+1).map (λe=>(i,e))=((cn t es).take m).map (λe=>(i,e))++[(i,(cn t es)[m])]:=by rw [Cj,gK,Ak];rfl
    have J6:=zh.2 m te _ ka gK;have pN:=hw2 _<|Ap gK;generalize (cn t es)[m]=e at sj J6 pN;have wv:=kb _ _ (bU J6 zi.1 λz=>nomatch z) J6;have ed6:H6 d=some (.dT kvs):=kb _ _ (bU (sm3 _ _ J0) zi.1 λz=>nomatch z)<|sm3 _ _ J0;obtain⟨y,hy⟩:=af.mp pN;have hdg:bn H6 d (.ref te) (some<|.str y):=by rw [<- JY e y hy];exact bn.t (k:=key n e) ed6 wv
    refine bg 7 y8 ?_;refine rd<|cE jC<|g8 hu<|ae 2<|ae 7 ⟨d,.str y,rfl,hdg,ae 1 ⟨rfl,_,rfl,?_⟩⟩;have ek:decide (V.str y=V.str z)=decide (aA n e=z):=by rw [dj hy];exact decide_eq_decide.mpr ⟨λk=>V.str.inj k,λk=>by rw [k]⟩
    show if decide (V.str y=V.str z)=true then _ else _;rw [ek,sj,<- Aq,q4o]
    by_cases c1:aA n e=z
    ·rw [BW c1,BP c1,<- Aq];refine cA<|B4<|dB<|ai<|ae 5<|ai<|ae 7<|az ⟨Z2,λtt htt=>?_⟩;have st:=aT htt<|.tup [.int (i:Int),.ref te];have Td:=hP.same st;have qH:ts.length<=100000:=by omega
     refine⟨_,Td.1,by rw [Aa];exact cz qH,⟨_,rfl⟩,λb o hb h=>by rw [ay hb];exact st _ _<|kb b o hb h,ts++[tt],by rw [Af];show ts.length+1<=_;omega,Td.snoc (p:=(i,e)) aB<|st _ _ wv⟩
    ·rw [BR c1,BK c1,Be];exact bG ⟨⟨_,rfl⟩,kb,ts,by omega,hP⟩
   ·rintro σ' H6 ⟨⟨v4,rfl⟩,kb,ts,kZ,hP⟩;have l3:=zh.1;rw [Aa,l3,Ca] at hP;rw [Aa,l3] at kZ;refine⟨⟨_,_,_,rfl⟩,λb o h=>kb b o (bu h hD)<|sm3 _ _ h,ts,by omega,?_⟩;rw [jw,k9w,J3];exact hP
  ·rintro σ' bD ⟨⟨v2,v3,v4,rfl⟩,sm,ts,kZ,hP⟩;rw [Aa,sI] at kZ;have kZ:ts.length<=10000 * t+130 * (aM n).length:=kZ;rw [Aa,show(aM n).take ls.length=aM n from Cr<|by rw [sI];exact Al _] at hP;exact⟨⟨_,_,_,_,rfl⟩,sm,ts,by omega,hP⟩
 ·rintro σ' H' ⟨_,sm,ts,_,hP⟩;exact qQ hz D ts H' (J1.trans sm) qk hP
end
end E8
namespace Nt
open PySem L2 Classical
def KK(n:Net)(z:Str)(w:Str)(ss:List Str):Prop:=bT ss/\(∀ y∈ss,y∈ag n)/\z∈ss /\
 ((w = "double"/\dR n ss=true/\∃ sd,bb n ss sd)\/(w = "cut"/\(∃ sd,bb n ss sd)/\dR n (less ss z)=true)\/(w = "round"/\dR n ss=true/\∃ sd,bb n (less ss z) sd))
theorem qF.kk{n:Net}{z w:Str}{ss:List Str}(h:qF n z w ss):KK n z w ss:=by
 obtain⟨a,b,c,⟨rfl,d,e,_⟩ | ⟨rfl,d,e,_⟩ | ⟨rfl,d,e,_⟩⟩:=h
 ·exact⟨a,b,c,.inl ⟨rfl,d,e⟩⟩
 ·exact⟨a,b,c,.inr<|.inl ⟨rfl,d,e⟩⟩
 ·exact⟨a,b,c,.inr<|.inr ⟨rfl,d,e⟩⟩
noncomputable def mt(a b:List Str):Bool:=aj<|a.map λz=>decide (z∈b)
theorem J7(a b:List Str):mt a b=decide ((a.filter λz=>b.contains z).length % 2=1):=by
 unfold mt;rw [rT];have e:(a.filter λz=>b.contains z)=a.filter λz=>decide (z∈b):=by
  congr 1
  funext z
  rw [Ck,CJ];exact Bm
 rw [e]
theorem Te{n:Net}(T:av n){a b sd:List Str}(ha:dR n a=true)(hn:a.Nodup)(hb:bb n b sd):mt a b=false:=by
 rw [J7,k88 T ha hn hb.cut];rfl
theorem q4b{a b:List Str}(ha:a.Nodup)(hb:b.Nodup):mt a b=mt b a:=by rw [J7,J7,q0t ha hb]
theorem Tg{n:Net}(T:av n){z:Str}{d a b sd sb:List Str}(hd:dR n d=true)(dn:d.Nodup)(J8:bb n d sd)(hz:z∈d)(ha:dR n a=true)(an:a.Nodup)(hb:bb n b sb)(hx:fO a b [z]):False:=by
 have h1:mt d b=false:=Te T hd dn hb;have h2:mt d a=false:=by rw [q4b dn an];exact Te T ha an J8
 have h3:mt d [z]=(mt d a ^^ mt d b):=by
  unfold mt;rw [<- gy]
  congr 1
  exact Ao λy _=>vM hx y
 rw [h1,h2] at h3;have h4:mt d [z]=true:=by
  unfold mt;have e:(d.map λy=>decide (y∈[z]))=d.map λy=>decide (y=z) && true:=Ao λy _=>by
   rw [Bool.and_true];exact decide_eq_decide.mpr Ad
  rw [e];exact sE (s:=λ_=>true) dn hz
 rw [h4] at h3;cases h3
theorem Ti{a:List Str}{z:Str}(h:z∈a):fO (less a z) a [z]:=λy=>by
 rw [Ad]
 by_cases k:y=z
 ·subst k;have:y∉less a y:=λq=>(bf.mp q).2 rfl;rw [BK this];exact⟨λ_=>h,λ_=>rfl⟩
 ·by_cases m:y∈a
  ·rw [BP<|bf.mpr ⟨m,k⟩];exact⟨λq=>absurd q k,λq=>absurd m q⟩
  ·rw [BK λq=>m (bf.mp q).1];exact⟨λq=>absurd q k,λq=>absurd q m⟩
theorem q50{a b c:List Str}(h:fO a b c):fO b a c:=λy=>by
 have:=h y
 by_cases p:y∈a <;> by_cases q:y∈b <;> simp [p,q] at this <;> simp [p,q,this]
theorem J9{n:Net}(T:av n){z:Str}{a b:List Str}(h:KK n z "double" a)(k:KK n z "cut" b):False:=by
 obtain⟨a1,a2,a3,⟨_,a4,sd,a5⟩ | ⟨q,_⟩ | ⟨q,_⟩⟩:=h
 case inr.inl=>exact absurd q<|by decide
 case inr.inr=>exact absurd q<|by decide
 obtain⟨b1,b2,b3,⟨q,_⟩ | ⟨_,⟨sb,b4⟩,b5⟩ | ⟨q,_⟩⟩:=k
 ·exact absurd q<|by decide
 ·exact Tg T a4 (gP a1) a5 a3 b5 (gP<|y7 b1 z) b4<|Ti b3
 ·exact absurd q<|by decide
theorem Tj{n:Net}(T:av n){z:Str}{a b:List Str}(h:KK n z "double" a)(k:KK n z "round" b):False:=by
 obtain⟨a1,a2,a3,⟨_,a4,sd,a5⟩ | ⟨q,_⟩ | ⟨q,_⟩⟩:=h
 case inr.inl=>exact absurd q<|by decide
 case inr.inr=>exact absurd q<|by decide
 obtain⟨b1,b2,b3,⟨q,_⟩ | ⟨q,_⟩ | ⟨_,b4,sb,b5⟩⟩:=k
 ·exact absurd q<|by decide
 ·exact absurd q<|by decide
 ·exact Tg T a4 (gP a1) a5 a3 b4 (gP b1) b5<|q50<|Ti b3
theorem bb.wx{n:Net}{ss sd:List Str}(so:bT ss)(h:bb n ss sd):j5 n ss:=⟨so,sd,h.cut⟩
theorem q6w(a b:List Str):∃ c,bT c/\fO a b c:=by
 obtain⟨c,h1,h2⟩:=kU<|(a++b).filter λz=>decide (z∈a) ^^ decide (z∈b);refine⟨c,h1,λz=>?_⟩;rw [h2,Ba,Am]
 by_cases p:z∈a <;> by_cases q:z∈b <;> simp [p,q]
theorem Tl{n:Net}(T:av n)(h0:0 < n.length){z:Str}{a b:List Str}(h:KK n z "cut" a)(k:KK n z "round" b):False:=by
 have h':=h;obtain⟨a1,a2,a3,⟨q,_⟩ | ⟨_,⟨sa,a4⟩,a5⟩ | ⟨q,_⟩⟩:=h
 ·exact absurd q<|by decide
 case inr.inr=>exact absurd q<|by decide
 obtain⟨b1,b2,b3,⟨q,_⟩ | ⟨q,_⟩ | ⟨_,b4,sb,b5⟩⟩:=k
 ·exact absurd q<|by decide
 ·exact absurd q<|by decide
 obtain⟨d,d1,d2⟩:=q6w a<|less b z;have dc:=q3s T (a4.wx a1) (b5.wx<|y7 b1 z) d1 d2;have dx:fO (less a z) b d:=λy=>by
  rw [d2 y];have l1:y∈less b z↔y∈b/\y≠z:=bf;have l2:y∈less a z↔y∈a/\y≠z:=bf
  by_cases e:y=z
  ·subst e;rw [BP a3,BK λq=>(l2.mp q).2 rfl];exact⟨λ_=>b3,λ_ q=>(l1.mp q).2 rfl⟩
  ·by_cases p:y∈a
   ·rw [BP p,BP<|l2.mpr ⟨p,e⟩];exact⟨λq k=>q<|l1.mpr ⟨k,e⟩,λq k=>q (l1.mp k).1⟩
   ·rw [BK p,BK λq=>p (l2.mp q).1];exact⟨λq=>(l1.mp q).1,λq=>l1.mpr ⟨q,e⟩⟩
 have de:=q06 a5 b4 dx;obtain⟨sd,J8⟩:=FO T h0 dc;have hz:z∈d:=(d2 z).mpr (by rw [BP a3];exact λq=>(bf.mp q).2 rfl);refine J9 T (a:=d) ⟨d1,λy hy=>?_,hz,.inl ⟨rfl,de,sd,J8⟩⟩ h';have:=(d2 y).mp hy
 by_cases p:y∈a
 ·exact a2 y p
 ·rw [BK p] at this;exact b2 y (bf.mp this).1
theorem To{n:Net}{z w:Str}{a:List Str}(h:KK n z w a):w = "double"\/w = "cut"\/w = "round":=by
 obtain⟨_,_,_,⟨q,_⟩ | ⟨q,_⟩ | ⟨q,_⟩⟩:=h
 ·exact .inl q
 ·exact .inr<|.inl q
 ·exact .inr<|.inr q
theorem q71{n:Net}(T:av n)(h0:0 < n.length){z w v:Str}{a b:List Str}(h:KK n z w a)(k:KK n z v b):w=v:=by
 rcases To h with rfl | rfl | rfl <;> rcases To k with rfl | rfl | rfl
 ·rfl
 ·exact(J9 T h k).elim
 ·exact(Tj T h k).elim
 ·exact(J9 T k h).elim
 ·rfl
 ·exact(Tl T h0 h k).elim
 ·exact(Tj T k h).elim
 ·exact(Tl T h0 k h).elim
 ·rfl
def dv(n:Net)(x:End):Nat->List End
 | 0=>[]
 | m+1=>dv n x m++[go 1 n<|it (two n) m x,it (two n) (m+1) x]
theorem q8d{P:Nat->Prop}(h:∃ m,P m):∃ m,P m/\∀ k,k < m->¬ P k:=by
 obtain⟨m,hm⟩:=h
 induction m using Nat.strongRecOn with
 | ind m ih=>
  by_cases q:∃ k,k < m/\P k
  ·obtain⟨k,hk,pk⟩:=q;exact ih k hk pk
  ·exact⟨m,hm,λk hk pk=>q ⟨k,hk,pk⟩⟩
section
variable{n:Net}
theorem J'(T:av n){x:End}(hx:x∈ends n):∀ m,∀ e∈dv n x m,e∈ends n
 | 0,e,h=>by cases h
 | m+1,e,h=>by
  rcases Am.mp h with h | h
  ·exact J' T hx m e h
  ·rcases Ai.mp h with rfl | h
   ·exact e9 T<|gD T hx m
   ·rw [Ad.mp h];exact gD T hx<|m+1
theorem Tr(T:av n){x:End}(hx:x∈ends n){t:Str->Bool}{χ:End->Bool}(h:aO n t χ):∀ m,aj ((dv n x m).map λe=>t<|aA n e)=(χ x ^^ χ (go 1 n<|it (two n) m x))
 | 0=>by
  show false=(χ x ^^ χ (go 1 n x));rw [<- xY T hx,h.go x hx,Ff]
 | m+1=>by
  have a1:=gD T hx m;have a2:=e9 (c:=1) T a1;have a3:=gD T hx<|m+1;have tm:∀ e∈ends n,t (aA n e)=(χ e ^^ χ (other n e)):=λe he=>by
   obtain⟨z,hz⟩:=af.mp he;rw [dj hz];exact h.cR e z hz
  have b1:χ (other n<|it (two n) (m+1) x)=χ (other n<|go 1 n<|it (two n) m x):=by
   have q:=h.go (other n<|it (two n) (m+1) x)<|cX T a3;have e:it (two n) (m+1) x=go (-1) n (go 1 n<|it (two n) m x):=rfl;rw [e,Iy T a2] at q;rw [e];exact q.symm
  have b2:χ (go 1 n<|it (two n) (m+1) x)=χ (it (two n) (m+1) x):=by rw [<- xY T a3];exact h.go _ a3
  show aj ((dv n x m++[go 1 n<|it (two n) m x,it (two n) (m+1) x]).map _)=_;rw [Ak,jX,Tr T hx h m];show((_ ^^ _) ^^ (t (aA n<|go 1 n<|it (two n) m x) ^^ (t (aA n<|it (two n) (m+1) x) ^^ false)))=_;rw [tm _ a2,tm _ a3,b1,b2];generalize χ x=p;generalize χ (go 1 n<|it (two n) m x)=q;generalize χ (other n<|go 1 n<|it (two n) m x)=r;generalize χ (it (two n) (m+1) x)=s;cases p <;> cases q <;> cases r <;> cases s <;> rfl
theorem Ts(T:av n){x:End}(hx:x∈ends n)(r:Nat):∀ m,aj ((dv n x m).map λe=>decide (r=e.1) ^^ decide (r=(other n e).1))=(decide (r=(other n x).1) ^^ decide (r=(go 1 n<|it (two n) m x).1))
 | 0=>by
  show false=(decide (r=(other n x).1) ^^ decide (r=(other n x).1));rw [Ff]
 | m+1=>by
  have e1:(it (two n) (m+1) x).1=(other n<|go 1 n<|it (two n) m x).1:=rfl;have e2:(go 1 n<|it (two n) (m+1) x).1=(other n<|it (two n) (m+1) x).1:=rfl;show aj ((dv n x m++[go 1 n<|it (two n) m x,it (two n) (m+1) x]).map _)=_;rw [Ak,jX,Ts T hx r m];show((_ ^^ _) ^^ ((decide (r=(go 1 n<|it (two n) m x).1) ^^ decide (r=(other n<|go 1 n<|it (two n) m x).1)) ^^ ((decide (r=(it (two n) (m+1) x).1) ^^ decide (r=(other n<|it (two n) (m+1) x).1)) ^^ false)))=_;rw [e2,e1];generalize decide (r=(other n x).1)=p;generalize decide (r=(go 1 n<|it (two n) m x).1)=q;generalize decide (r=(other n<|go 1 n<|it (two n) m x).1)=u;generalize decide (r=(other n<|it (two n) (m+1) x).1)=v;cases p <;> cases q <;> cases u <;> cases v <;> rfl
theorem q3y(T:av n){x:End}(hx:x∈ends n)(m r:Nat):aj ((row n r).map<|bE n<|dv n x m)=(decide (r=(other n x).1) ^^ decide (r=(go 1 n<|it (two n) m x).1)):=by
 have e1:(row n r).map (bE n<|dv n x m)=(row n r).map λz=>aj ((dv n x m).map λe=>decide (z=aA n e)):=Ao λz _=>by
  unfold bE;rw [sw,Cb];rfl
 rw [e1,sy λz e=>decide (z=aA n e),<- Ts T hx r m]
 congr 1
 refine Ao λe he=>?_;obtain⟨z,hz⟩:=af.mp<|J' T hx m e he;rw [dj hz];exact ye T hz r
theorem Tv(T:av n){Z:List Str}(hz:Z.Nodup)(hm:∀ z,z∈Z↔z∈ag n){x:End}(hx:x∈ends n)(m:Nat){t:Str->Bool}{χ:End->Bool}(h:aO n t χ):aZ Z t (bE n<|dv n x m)=(χ x ^^ χ (go 1 n<|it (two n) m x)):=by
 have:=yK (n:=n) hz (t:=t) (L:=(dv n x m).map<|aA n) λy hy=>by
  obtain⟨e,he,rfl⟩:=An.mp hy;obtain⟨y,hy⟩:=af.mp<|J' T hx m e he;rw [dj hy];exact(hm _).mpr<|dI hy
 show aZ Z t (λz=>decide (((dv n x m).map<|aA n).count z % 2=1))=_;rw [this,Cb,<- Tr T hx h m];rfl
theorem q93(n:Net)(s:Str->Bool):∃ ss,bT ss/\∀ z,z∈ss↔z∈ag n/\s z=true:=by
 obtain⟨ss,h1,h2⟩:=kU<|(ag n).filter s;exact⟨ss,h1,λz=>by rw [h2,Ba]⟩
theorem Tw{ss:List Str}{s:Str->Bool}(h:∀ z,z∈ss↔z∈ag n/\s z=true){z:Str}(hz:z∈ag n):decide (z∈ss)=s z:=by
 cases k:s z
 ·exact BR λq=>by rw [((h z).mp q).2] at k;cases k
 ·exact BW<|(h z).mpr ⟨hz,k⟩
theorem Tx{ss:List Str}{s:Str->Bool}(h:∀ z,z∈ss↔z∈ag n/\s z=true)(e:dP n s):dR n ss=true:=Pk e λz hz=>by
 rw [<- Tw h hz,Ck,CJ];exact Bm
theorem Tz(T:av n)(hf:HF n)(hN:(b9 n).Nodup)(h0:0 < n.length){ss:List Str}{s:Str->Bool}(h:∀ z,z∈ss↔z∈ag n/\s z=true)(o:∀ Z:List Str,Z.Nodup->(∀ z,z∈Z↔z∈ag n)->∀ t χ,aO n t χ->aZ Z t s=false):∃ sd,bb n ss sd:=by
 obtain⟨Z,hs,hm⟩:=kU<|ag n;have nz:=gP hs;refine Q9 T hf.1 hN h0 nz hm (λz hz=>((h z).mp hz).1) λt ht=>?_;obtain⟨χ,hχ⟩:=hf.2.2 t ht;rw [<- o Z nz hm t χ hχ];exact yR (λ_ _=>rfl) λz hz=>Tw h<|(hm z).mp hz
theorem q1b(n:Net){z:Str}(hz:z∈ag n){s:Str->Bool}(h:s z=false):∃ ss,bT ss/\z∈ss/\(∀ y,y∈ss↔y∈ag n/\(s y ^^ decide (y=z))=true)/\∀ y,y∈less ss z↔y∈ag n/\s y=true:=by
 obtain⟨ss,h1,h2⟩:=q93 n λy=>s y ^^ decide (y=z);refine⟨ss,h1,(h2 z).mpr ⟨hz,by rw [h,BW rfl];rfl⟩,h2,λy=>?_⟩;rw [bf,h2]
 by_cases k:y=z
 ·rw [k,h];exact⟨λq=>absurd rfl q.2,λq=>by cases q.2⟩
 ·rw [BR k,Ez];exact⟨λq=>q.1,λq=>⟨q,k⟩⟩
theorem k86(T:av n)(hf:HF n)(hN:(b9 n).Nodup)(h0:0 < n.length){i:Nat}{x y:End}(hp:(i,x)∈bZ 0 (aM n))(hq:(i,y)∈bZ 1 (aM n))(h:aA n x=aA n y):∃ ss,KK n (aA n x) (if x=y then "round" else "cut") ss:=by
 obtain⟨w,hw,hx⟩:=qz hp;obtain⟨w',TB,hy⟩:=qz hq;rw [hw] at TB;cases TB;obtain⟨e,he,rfl⟩:=yQ T hw;have hx:x∈cU n e:=hx;rw [vJ] at hy;obtain⟨u,hu,huy⟩:=An.mp hy;have hu:u∈cU n e:=hu;have d6:=vE T he x hx;have ob:∀ k,it (two n) k x∈cU n e:=λk=>by
  induction k with
  | zero=>exact hx
  | succ k ih=>exact yL T he ih
 obtain⟨m,hm,wy⟩:∃ m,go 1 n (it (two n) m x)=y/\∀ k,k < m->go 1 n (it (two n) k x)≠y:=by
  have ex:∃ m,go 1 n (it (two n) m x)=y:=by
   obtain⟨a,ha⟩:=(jx T he).mp hx;obtain⟨b,hb⟩:=(jx T he).mp hu;obtain⟨k,k0,_,hk⟩:=xr (λa ha=>kR T ha) (λa ha b hb=>rN T ha hb) he;refine⟨b+(k * a - a),?_⟩;rw [<- huy]
   congr 1
   rw [<- ha,<- mH,<- hb];have:a+(b+(k * a - a))=k * a+b:=by
    have:a<=k * a:=Nat.le_mul_of_pos_left a k0;omega
   rw [this,mH,IC hk a]
  exact q8d ex
 obtain⟨z,hz⟩:=af.mp d6;have TC:=dj hz;have dC:=dI hz;have sF:y∈ends n:=by rw [<- hm];exact e9 T<|gD T d6 m
 have not:bE n (dv n x m) (aA n x)=false:=by
  unfold bE;refine BR λq=>?_;have hc:((dv n x m).map<|aA n).count (aA n x)=0:=by
   refine Dx λki=>?_;obtain⟨c,hc,ec⟩:=An.mp ki;have key:∀ k,c∈dv n x k->∃ j,j < k/\(c=go 1 n (it (two n) j x)\/c=it (two n) (j+1) x):=λk=>by
    induction k with
    | zero=>intro h;cases h
    | succ k ih=>
     intro h
     rcases Am.mp h with h | h
     ·obtain⟨j,h1,h2⟩:=ih h;exact⟨j,by omega,h2⟩
     ·rcases Ai.mp h with h | h
      ·exact⟨k,by omega,.inl h⟩
      ·exact⟨k,by omega,.inr<|Ad.mp h⟩
   obtain⟨j,hj,rfl | rfl⟩:=key m hc
   ·have iV:(i,go 1 n<|it (two n) j x)∈bZ 1 (aM n):=Sg hw (by rw [vJ];exact An.mpr ⟨_,ob j,rfl⟩);have:=Sh T (by decide) iV hq<|ec.trans h;exact wy j hj (BZ (·.2) this)
   ·have iV:(i,it (two n) (j+1) x)∈bZ 0 (aM n):=Sg hw<|ob<|j+1;have:=BZ (·.2) (Sh T (by decide) iV hp ec);have this:it (two n) (j+1) x=x:=this;refine wy (m - (j+1)) (by omega) ?_;have e1:it (two n) m x=it (two n) (m - (j+1)) x:=by
     have:m=(j+1)+(m - (j+1)):=by omega
     rw [this,mH,‹it (two n) (j+1) x=x›]
     congr 1
     omega
    rw [<- e1];exact hm
  rw [hc] at q;cases q
 rw [TC] at not h ⊢;obtain⟨ss,s1,s2,s3,s4⟩:=q1b n dC not;have pz:∀ r,aj ((row n r).map λy=>decide (y=z))=(decide (r=x.1) ^^ decide (r=(other n x).1)):=ye T hz;have pr:=λr=>q3y T d6 m r;have px:∀ r,aj ((row n r).map λy=>bE n (dv n x m) y ^^ decide (y=z))=((decide (r=(other n x).1) ^^ decide (r=y.1)) ^^ (decide (r=x.1) ^^ decide (r=(other n x).1))):=λr=>by
  rw [gy (bE n<|dv n x m) λy=>decide (y=z),pr r,pz r,hm]
 have dz:∀ Z:List Str,Z.Nodup->(∀ z,z∈Z↔z∈ag n)->∀ t χ,aO n t χ->aZ Z t (λy=>bE n (dv n x m) y ^^ decide (y=z))=((χ x ^^ χ y) ^^ (χ x ^^ χ (other n x))):=λZ nz hZ t χ hF=>by
  rw [qA,yJ Z (bE n<|dv n x m) (λy=>decide (y=z)) t,qA,Tv T nz hZ d6 m hF,hm,sE nz<|(hZ z).mpr dC,hF.cR x z hz]
 refine⟨ss,s1,λy hy=>((s3 y).mp hy).1,s2,?_⟩
 by_cases k:x=y
 ·rw [BP k];subst k;refine .inr<|.inr ⟨rfl,Tx s3 λr=>?_,Tz T hf hN h0 s4 λZ nz hZ t χ hF=>?_⟩
  ·rw [px r];generalize decide (r=(other n x).1)=p;generalize decide (r=x.1)=q;cases p <;> cases q <;> rfl
  ·rw [Tv T nz hZ d6 m hF,hm,Ff]
 ·rw [BK k];have hyo:y=other n x:=by
   rcases vD T d6 sF (by rw [TC];exact h) with q | q
   ·exact absurd q.symm k
   ·exact q
  subst hyo;refine .inr<|.inl ⟨rfl,Tz T hf hN h0 s3 λZ nz hZ t χ hF=>?_,Tx s4 λr=>?_⟩
  ·rw [dz Z nz hZ t χ hF,Ff]
  ·rw [pr r,hm,Ff]
theorem k2t(T:av n)(hf:HF n)(hN:(b9 n).Nodup)(h0:0 < n.length){z w:Str}{ss:List Str}(hz:z∈ag n)(h:qF n z w ss){p q:Nat×End}(hp:bR n 0 z=[p])(hq:bR n 1 z=[q]):w=if p.1=q.1 then(if p.2=q.2 then("round" : Str) else("cut" : Str)) else("double" : Str):=by
 have mp:p∈bZ 0 (aM n)/\aA n p.2=z:=by
  have:p∈bR n 0 z:=by rw [hp];exact Ad.mpr rfl
  exact⟨(Ba.mp this).1,BX (Ba.mp this).2⟩
 have mq:q∈bZ 1 (aM n)/\aA n q.2=z:=by
  have:q∈bR n 1 z:=by rw [hq];exact Ad.mpr rfl
  exact⟨(Ba.mp this).1,BX (Ba.mp this).2⟩
 by_cases e:p.1=q.1
 ·rw [BP e];obtain⟨i,x⟩:=p;obtain⟨j,y⟩:=q;have e:i=j:=e;subst e;obtain⟨ts,k⟩:=k86 T hf hN h0 mp.1 mq.1<|mp.2.trans mq.2.symm;rw [show aA n x=z from mp.2] at k;exact q71 T h0 h.kk k
 ·rw [BK e];have no:¬ n8 n [z]:=λ⟨cs,C,hc⟩=>by
   have b:=q3u C T hz hp hq;rw [BK e] at b;have hm:min p.1 q.1∈mJ cs z:=by rw [b];exact Ae
   obtain⟨h1,h2⟩:=Ba.mp hm;have hl:=Bp.mp h1;have h2:=BX h2;rw [Ab hl,Option.getD_some] at h2;have:=hc _<|Bu hl;rw [S8<|gP<|C.mj _<|Bu hl,BP h2] at this;cases this
  obtain⟨_,_,_,⟨q,_⟩ | ⟨_,_,_,q⟩ | ⟨_,_,_,q⟩⟩:=h
  ·exact q
  ·exact absurd q no
  ·exact absurd q no
end
end Nt
namespace Nt
open PySem L2
section
variable{n:Net}{z:Str}{r k:Nat}
end
end Nt
namespace PySem
section
variable{prog:Program}{w:World}{K:Type} [DecidableEq K] {knd:HeapKind prog w K} {A:Around} {E:Value->Shared->Prop} {s:Shared}
end
end PySem
namespace L2
open PySem PySem.Spec PyProof.Rows
section
variable{X:Cx}{σ:St}{H:Hp}{Q:VK}{o e:Expr}{pos:Pos}
def oa(c:Addr->Bool)(u:Value):Bool:=match u with
 | .ref a=>c a
 | _=>false
theorem Ka{c:Addr->Bool}:∀{as:List Addr} {us:List Value},aw (as.map V.ref) us->us.any (oa c)=as.any c
 | [],[],.nil=>rfl
 | a :: as,u :: us,.cons r t=>by
  cases (show u=Value.ref a from r);rw [Eu,Eu,Ka t];rfl
theorem Kb{k:Nat}{x:V}{c:Addr->Bool}{pins:List (Addr×Obj)}{s:Shared}{A:Around}{v:Value}(I:Inv X pins σ H s)(hA:A.units+k < cLine)(rx:RelV x v) :
  ∀{as:List Addr} {us:List Value},aw (as.map V.ref) us->(∀ a∈as,i6 X H k (.ref a) x<|c a)->∀ u∈us,SeqAt.EqAt A s u v<|oa c u
 | [],[],.nil,_=>λu hu=>by cases hu
 | a :: as,u :: us,.cons r t,h=>λu' hu=>by
  rcases Ai.mp hu with rfl | hu
  ·cases (show u'=Value.ref a from r);exact h a (Ae ..) pins σ s A _ _ I hA r rx
  ·exact Kb I hA rx t (λb hb=>h b<|Ah _ hb) u' hu
theorem q7u(hu:X.A.units+100 < cLine):cG X (compareOp .In) (λx y H Q=>∃(p:Addr) (as:List Addr) (k:Nat) (c:Addr->Bool),y = .ref p/\aq X.K H p (as.map V.ref)/\k < 99/\(∀ a∈as,i6 X H k (.ref a) x<|c a)/\Q (.bl<|as.any c) H):=by
 intro pins s σ H x y v u Q I rx ry h;obtain⟨p,as,k,c,rfl,hq,hk,he,q⟩:=h;cases ry;obtain⟨its,r,pl,hz⟩:=I.list hq;refine SeqAt.in_listAt (oa c) pl.isList (λw hw=>Kb I (by show X.A.units+1+k < cLine;omega) rx r he w<|by simpa using hw) ⟨.bl _,H,I,rfl,?_⟩;rw [show its.toArray.any (oa c)=its.any (oa c) by simp,Ka r];exact q
theorem k6c(hu:X.A.units+100 < cLine):cG X (compareOp .NotIn) (λx y H Q=>∃(p:Addr) (as:List Addr) (k:Nat) (c:Addr->Bool),y = .ref p/\aq X.K H p (as.map V.ref)/\k < 99/\(∀ a∈as,i6 X H k (.ref a) x<|c a)/\Q (.bl (!(as.any c))) H):=by
 intro pins s σ H x y v u Q I rx ry h;obtain⟨p,as,k,c,rfl,hq,hk,he,q⟩:=h;cases ry;obtain⟨its,r,pl,hz⟩:=I.list hq;refine SeqAt.notIn_listAt (oa c) pl.isList (λw hw=>Kb I (by show X.A.units+1+k < cLine;omega) rx r he w<|by simpa using hw) ⟨.bl _,H,I,rfl,?_⟩;rw [show its.toArray.any (oa c)=its.any (oa c) by simp,Ka r];exact q
end
end L2
namespace E8
open PySem L2 Nt bC bA
open PyProof.Rows (sortedS)
open Classical
theorem TD{X:Cx}{P:Program}{w:World}:ll (XF P w) X (λ_ _ _=>False):=λ_ _ _ _ _ _ _ h=>by
 obtain⟨_,_,_,_,_,h,_⟩:=h;exact h.elim
theorem q6b{n:Net}(T:av n){z:Str}(h:z∈ag n):∃ x,aN n x=some z/\aN n (other n x)=some z/\pos n z=[x,other n x]:=by
 rw [cm] at h;obtain⟨e,he⟩:=Ef _ h;obtain⟨a,b,hp,ft,_⟩:=nh T<|aG.mp he;have ha:aN n a=some z:=aG.mp (by rw [hp];exact Ae ..);have hb:aN n b=some z:=aG.mp (by rw [hp];simp);have e:b=other n a:=by
  rcases (j4 T ha).mp hb with q | q
  ·exact absurd q.symm ft
  ·exact q
 subst e;exact⟨a,ha,hb,hp⟩
def Kc:Sp:=λvs H Q _=>∃(R l t u:Addr) (as:List<|Addr×Addr) (n:Net) (e g:Nt.End),vs=[.ref R,.ref l]/\ao H R as n/\H l=some (.lst [.ref t,.ref u])/\H t=some (Tp e)/\H u=some (Tp g)/\e.1 < n.length/\g.1 < n.length /\
 ∀ L a b H',au H H'->H' L=some (.lst [.ref a,.ref b])->H' a=some (TN n e)->H' b=some (TN n g)->Q (.ref L) H'
theorem TH{X:Cx}{H:Hp}{n:Net}(hN:(n.map (·.1)).Nodup){ts:List Addr}{w:List Nt.End}(hw:∀ c∈w,c∈ends n)(c8:cT n H ts w){x:Nt.End}(hx:x∈ends n){t:Addr}(ht:H t=some (TN n x)) :
  (∀ a∈ts,i6 X H 1 (.ref a) (.ref t)<|decide (H a=some (TN n x)))/\ts.any (λa=>decide (H a=some (TN n x)))=decide (x∈w):=by
 have Kd:∀{c d:Nt.End},c∈ends n->d∈ends n->(TN n c=TN n d↔c=d):=λ{c d} hc hd=>by
  constructor
  ·intro h;have:=yx hN hc hd;have h1:nameAt n c.1=nameAt n d.1/\(c.2:Int)=(d.2:Int):=by
    unfold TN at h
    injection h with h
    injection h with h1 h2
    injection h2 with h2 _
    exact⟨V.str.inj h1,V.int.inj h2⟩
   rw [BW h1] at this;exact BX this.symm
  ·rintro rfl;rfl
 have tsl:=c8.1;have get:∀ a∈ts,∃ c∈w,H a=some (TN n c):=λa ha=>by
  obtain⟨j,hj⟩:=Bh ha;have kQ:=(Ac.mp hj).1;exact⟨w[j]'(by omega),Bu _,c8.2 j a _ hj<|Ab<|by omega⟩
 constructor
 ·intro a ha;obtain⟨c,hc,e⟩:=get a ha;have e1:decide (H a=some (TN n x))=decide (nameAt n c.1=nameAt n x.1/\(c.2:Int)=(x.2:Int)):=by
   rw [yx hN (hw c hc) hx,e];exact decide_eq_decide.mpr ⟨λq=>(Kd (hw c hc) hx).mp<|Option.some.inj q,λq=>by rw [q]⟩
  rw [e1]
  by_cases q:a=t
  ·subst q;rw [ht] at e;have:=(Kd hx<|hw c hc).mp<|Option.some.inj e;subst this;rw [BW ⟨rfl,rfl⟩];exact Yf
  ·exact Yg q<|Qj e ht
 ·refine Ck.mpr ?_;rw [List.any_eq_true,CJ]
  constructor
  ·rintro ⟨a,ha,q⟩;obtain⟨c,hc,e⟩:=get a ha;have q:=BX q;rw [e] at q;rw [<- (Kd (hw c hc) hx).mp<|Option.some.inj q];exact hc
  ·intro q;obtain⟨j,hj⟩:=Bh q;have kQ:=(Ac.mp hj).1;exact⟨ts[j]'(by omega),Bu _,BW<|c8.2 j _ x (Ab<|by omega) hj⟩
theorem k5t{kvs:List (Key×V)}{ks:List Str}(h:kvs.map (·.1)=ks.map Sum.inr):(kvs.map λp=>kV p.1)=ks.map V.str:=by
 have e:(kvs.map λp=>kV p.1)=(kvs.map (·.1)).map kV:=by rw [Cb];rfl
 rw [e,h,Cb];rfl
theorem k76{n:Net}{H:Hp}{ts:List Addr}{es:List Nt.End}(h:cT n H ts es)(k:Nat):cT n H (ah<|ts.drop k) (cn k es):=by
 have hl:=h.1;refine⟨by unfold cn;rw [nr,nr,Cg,Cg,hl],λi t e h1 h2=>?_⟩;unfold cn at h2;rw [jt,De] at h1 h2;exact h.2 _ t e h1 h2
def k4(n:Net)(H:Hp)(t:Addr)(p:Nat×Nt.End):Prop:=∃ u,H t=some (.tup [.int (p.1:Int),.ref u])/\H u=some (TN n p.2)
theorem k4.same{n:Net}{H H':Hp}{t:Addr}{p:Nat×Nt.End}(h:k4 n H t p)(s:au H H'):k4 n H' t p:=let ⟨u,a,b⟩:=h;⟨u,s _ _ a,s _ _ b⟩
def Ke:Sp:=λvs H Q _=>∃(W t:Addr) (k:Nat) (n:Net) (ls:List Addr) (p:Nat×Nt.End),vs=[.ref W,.ref t,.int (k:Int)]/\k<=1/\jg n H W ls (aM n)/\(n.map (·.1)).Nodup/\av n/\k4 n H t p/\p∈bZ k (aM n)/\∀ H',au H H'->Q (.bl true) H'
noncomputable def Kf(p q:Nat×Nt.End):Str:=if p.1=q.1 then(if p.2=q.2 then("round" : Str) else("cut" : Str)) else("double" : Str)
noncomputable def Kg:Sp:=λvs H Q _=>∃(v:V) (L t u:Addr) (n:Net) (p q:Nat×Nt.End),vs=[v,.ref L]/\(n.map (·.1)).Nodup/\H L=some (.lst [.ref t,.ref u])/\k4 n H t p/\k4 n H u q/\p.2∈ends n/\q.2∈ends n/\Q (.str<|Kf p q) H
def zj(K:PySem.W.Frag):Sp:=λvs H Q _=>∃(a:Addr) (ns:List Int),vs=[.ref a]/\aq K H a (ns.map V.int)/\ns.length<=63/\∀ H',Q (.bl true) H'
theorem TK{n:Net}(T:av n){k:Nat}(hk:k<=1){p:Nat×Nt.End}(h:p∈bZ k (aM n)):p.2∈ends n/\∃ w,(aM n)[p.1]?=some w/\p.2∈cn k w:=by
 obtain⟨w,hw,hx⟩:=qz (i:=p.1) (e:=p.2) h;refine⟨?_,w,hw,hx⟩;have wk:=jU T (ends n) [] (λe he=>he) _<|Ap hw;refine wk.ends _ ?_;obtain⟨m,hm⟩:=Bh hx;unfold cn at hm;rw [jt,De] at hm;exact Ap hm
section
variable{P:Program}{w:World}{K:PySem.W.Frag}{mg:Str->Option Value}{base:Heap}
abbrev TL:List Str:=["_law_rows","_law_ends"]
abbrev wz:List Str:=["_law_rows","_law_ends","_law_end"]
theorem Kh:ak TL ["_law_rows","_law_ends"] (aW xP):=⟨rfl,rfl,rfl,by decide +kernel,rfl,by decide +kernel,by decide +kernel⟩
theorem q7g:wz.Nodup:=by decide +kernel
theorem q0b{f:Addr}{fd:FuncData}(F:bx K "_law_named" "_law_named" xP f fd)(T:Txt mg):aF P w K mg base bJ 1 f fd ["_law_rows","_law_ends"] Kc:=by
 refine F.gb Kh (λvs H Q E h=>?_) λb0 H vs Q E hr h=>?_
 ·obtain⟨R,l,t,u,as,n,e,g,rfl,_⟩:=h;rfl
 obtain⟨R,l,t,u,as,n,e,g,rfl,hR,hl,ht,hg,he,hgn,q⟩:=h;show Run _ _ _ [some<|.ref R,some<|.ref l] H;refine bO<|jH (aW xP) TL wz 1 (fQ bH)<|ae 1 ⟨l,rfl,⟨_,aq.of hl⟩,λD hD=>?_⟩;refine nn (xs:=[.ref t,.ref u]) (λi σ' H'=>(∃ v,σ'=[some<|.ref R,some<|.ref l]++[v])/\au H H'/\∃ us:List Addr,us.length=i/\H' D=some (.lst<|us.map V.ref)/\cT n H' us ([e,g].take i)) ⟨⟨none,rfl⟩,aT hD _,[],rfl,aB,rfl,λj a b h=>by simp at h⟩ ?_ ?_ ?_
 ·rintro i σ' H' _ ⟨_,sm,_⟩;exact aq.of<|sm _ _ hl
 ·rintro i x σ' H' hx ⟨⟨v,rfl⟩,sm,us,Ki,wA,c8⟩;have hi:i < 2:=(Ac.mp hx).1;obtain⟨t',c,rfl,hc,fG,TR⟩:∃ t' c,x = .ref t'/\[e,g][i]?=some c/\H' t'=some (Tp c)/\c.1 < n.length:=by
   match i,hi with
   | 0,_=>cases hx;exact⟨t,e,rfl,rfl,sm _ _ ht,he⟩
   | 1,_=>cases hx;exact⟨u,g,rfl,rfl,sm _ _ hg,hgn⟩
  obtain⟨a,ea,d7,et,el,er⟩:=(hR.same sm).at TR;intro cl C' s₀ H₀ ex;refine bg 2 q7g ?_;intro cl C' s₀ H₀ ex;refine gI ?_;rw [BP rfl];intro cl C' s₀ H₀ ex;refine dB<|ai<|aU bF<|aU cN<|ae 0<|aU bF<|ae 2<|aD ⟨t',_,_,.int (c.1:Int),rfl,rfl,aI.of fG,rfl,R,_,_,.ref a.1,rfl,rfl,aq.of<|sm _ _ hR.lst,d7,aD ⟨a.1,_,_,.str n[c.1].1,rfl,rfl,aI.of et,rfl,?_⟩⟩;refine ai<|aU bF<|ae 2<|aD ⟨t',_,_,.int (c.2:Int),rfl,rfl,aI.of fG,rfl,az ⟨Z2,λp hp=>?_⟩⟩;have su:=aT hp<|.tup [.str n[c.1].1,.int (c.2:Int)];have vq:p≠D:=λq=>by rw [q,wA] at hp;cases hp
  have ept:(upd (upd H' p<|.tup [.str n[c.1].1,.int (c.2:Int)]) D<|.lst<|us.map V.ref++[.ref p]) p=some (TN n c):=by
   rw [ay vq,aB];unfold TN;rw [nQ TR]
  refine⟨us.map V.ref,su _ _ wA,by rw [Aa];exact cz (by omega),⟨_,rfl⟩,gm (sm.trans su) hD,us++[p],by rw [Af,Ki];rfl,by rw [aB,Ak];rfl,?_⟩;have jw:[e,g].take (i+1)=[e,g].take i++[c]:=by rw [Cj,hc];rfl
  rw [jw];refine(c8.keep λt p' j h=>?_).append ⟨rfl,λj x y h1 h2=>?_⟩
  ·rw [ay<|bU (su _ _ h) (su _ _ wA) λz=>nomatch z];exact su _ _ h
  ·match j with
   | 0=>cases h1;cases h2;exact ept
   | j+1=>simp at h1
 ·rintro σ' H' ⟨_,sm,us,Ki,wA,c8⟩
  match us,Ki with
  | [a,b],_=>exact q D a b H' sm wA (c8.2 0 a e rfl rfl)<|c8.2 1 b g rfl rfl
abbrev TU:List Str:=["_law_walkers","_law_pair","_law_turn"]
theorem Kj:ak TU ["_law_walkers","_law_pair","_law_turn"] (aW xQ):=⟨rfl,rfl,rfl,by decide +kernel,rfl,by decide +kernel,by decide +kernel⟩
theorem k8b{f:Addr}{fd:FuncData}(F:bx K "_law_passed" "_law_passed" xQ f fd)(T:Txt mg):aF P w K mg base bJ 1 f fd ["_law_walkers","_law_pair","_law_turn"] Ke:=by
 refine F.gb Kj (λvs H Q E h=>?_) λb0 H vs Q E hr h=>?_
 ·obtain⟨W,t,k,n,ls,p,rfl,_⟩:=h;rfl
 obtain⟨W,t,k,n,ls,p,rfl,hk,hW,hN,hT,⟨u,et,eu⟩,hp,q⟩:=h;have un:=hr.f7;have hl:=hW.len;obtain⟨Ia,wl,hw,hpw⟩:=TK hT hk hp;have iR:=(Ac.mp hw).1;have wk:=jU hT (ends n) [] (λe he=>he) _<|Ap hw;have kH:=Ab (show p.1 < ls.length by omega);generalize ls[p.1]=l at kH;obtain⟨ts,el,hE⟩:=hW.at' p.1 l wl kH hw;show Run _ _ _ [some<|.ref W,some<|.ref t,some<|.int (k:Int)] H;refine eY<|qZ<|mZ<|tT<|qY<|ce tN T.uc FQ<|ai<|ae 1<|ai<|tQ (.ty "tuple") T.jO RV rfl (az ⟨_,_,_,true,rfl,.tup et,uU K,true,rfl,bG ?_⟩);refine mZ<|cE qT<|ce dF T.len DP<|ai<|ae 1<|az ⟨t,_,rfl,.inr<|aI.of et,aD ⟨rfl,_,rfl,bG ?_⟩⟩;refine mZ<|tT<|qY<|ce tN T.uc FQ<|ai<|aU bF<|ae 1<|aD ⟨t,_,_,.int (p.1:Int),rfl,rfl,aI.of et,rfl,ai<|tQ (.ty "int") T.pG MK rfl (az ⟨_,_,_,true,rfl,.int _,Hn K,true,rfl,bG ?_⟩)⟩;refine tU<|qY<|ce tN T.uc FQ<|ai<|aU bF<|ae 1<|aD ⟨t,_,_,.int (p.1:Int),rfl,rfl,aI.of et,rfl,ai<|tQ (.ty "bool") T.ud PyProof.Rows.boot_bool rfl (az ⟨_,_,_,false,rfl,.int _,Ho K,false,rfl,bG<|bo ?_⟩)⟩;refine eY<|qZ<|mZ<|cE LA<|aU bF<|ae 1<|aD ⟨t,_,_,.int (p.1:Int),rfl,rfl,aI.of et,rfl,aD ⟨_,_,rfl,rfl,_,rfl,?_⟩⟩;rw [BR<|by omega];refine bG<|tU<|cE Vk<|aU bF<|ae 1<|aD ⟨t,_,_,.int (p.1:Int),rfl,rfl,aI.of et,rfl,ce dF T.len DP<|ai<|ae 0<|az ⟨W,_,rfl,.inl<|aq.of hW.lst,_,_,rfl,rfl,_,rfl,?_⟩⟩;rw [Aa,BR<|by omega];refine bG<|bo ?_;refine bO<|tR (q7u un)<|aU bF<|ae 1<|aD ⟨t,_,_,.ref u,rfl,rfl,aI.of et,rfl,?_⟩;refine RC (aU cN<|ae 0<|aU bF<|ae 1<|aD ⟨t,_,_,.int (p.1:Int),rfl,rfl,aI.of et,rfl,W,_,_,.ref l,rfl,rfl,aq.of hW.lst,lr (by rw [Aj,kH];rfl),l,_,rfl,aq.of el,ae 2 ⟨k,rfl,hk,aq.of el,λD hD=>?_⟩⟩);rw [<- Gw,yy];have s1:=aT hD<|.lst<|(ah<|ts.drop k).map V.ref;have eD:(upd H D<|.lst<|(ah<|ts.drop k).map V.ref) D=some (.lst<|(ah<|ts.drop k).map V.ref):=aB;generalize upd H D (.lst<|(ah<|ts.drop k).map V.ref)=H1 at s1 eD;have Jq:=(k76 (hE.same s1) k);have dv:=λX=>TH (X:=X) hN (w:=cn k wl) (λc hc=>by
  obtain⟨m,hm⟩:=Bh hc;unfold cn at hm;rw [jt,De] at hm;exact wk.ends _<|Ap hm) Jq Ia<|s1 _ _ eu
 refine⟨D,_,1,_,rfl,aq.of eD,by decide,(dv _).1,?_⟩;rw [(dv<|B5 TU "_law_passed" (aW xQ) P w K mg base b0).2,BW hpw];exact q _ s1
abbrev NWd:List Str:=["_law_ends","_law_passes"]
theorem Kk:ak NWd ["_law_ends","_law_passes"] (aW D6):=⟨rfl,rfl,rfl,by decide +kernel,rfl,by decide +kernel,by decide +kernel⟩
theorem q6m{f:Addr}{fd:FuncData}(F:bx K "_law_word" "_law_word" D6 f fd)(T:Txt mg):aF P w K mg base bJ 1 f fd ["_law_ends","_law_passes"] Kg:=by
 refine F.gb Kk (λvs H Q E h=>?_) λb0 H vs Q E hr h=>?_
 ·obtain⟨v,L,t,u,n,p,q,rfl,_⟩:=h;rfl
 obtain⟨v,L,t,u,n,p,q,rfl,hN,eL,⟨a,et,ea⟩,⟨b,eu,eb⟩,hp,hq,fin⟩:=h;have un:=hr.f7;have tl:∀{x y:Nt.End},x∈ends n->y∈ends n->decide (nameAt n x.1=nameAt n y.1/\(x.2:Int)=(y.2:Int))=decide (x=y):=λ{x y} hx hy=>yx hN hx hy;show Run _ _ _ [some v,some<|.ref L] H;refine eY<|cE qT<|aU bF<|aU cN<|ae 1<|aD ⟨L,_,_,.ref t,rfl,rfl,aq.of eL,rfl,aD ⟨t,_,_,.int (p.1:Int),rfl,rfl,aI.of et,rfl,aU bF<|aU cN<|ae 1<|aD ⟨L,_,_,.ref u,rfl,rfl,aq.of eL,rfl,aD ⟨u,_,_,.int (q.1:Int),rfl,rfl,aI.of eu,rfl,rfl,_,rfl,?_⟩⟩⟩⟩;unfold Kf at fin
 by_cases c:p.1=q.1
 ·rw [BP c] at fin;rw [c,BW rfl];refine bG (bo<|eY<|cE (NM un)<|aU bF<|aU cN<|ae 1<|aD ⟨L,_,_,.ref t,rfl,rfl,aq.of eL,rfl,aD ⟨t,_,_,.ref a,rfl,rfl,aI.of et,rfl,aU bF<|aU cN<|ae 1<|aD ⟨L,_,_,.ref u,rfl,rfl,aq.of eL,rfl,aD ⟨u,_,_,.ref b,rfl,rfl,aI.of eu,rfl,1,_,by decide,Qj ea eb,_,rfl,?_⟩⟩⟩⟩);rw [tl hp hq]
  by_cases d:p.2=q.2
  ·rw [BP d] at fin;rw [BW d];exact cA<|bO<|iX fin
  ·rw [BK d] at fin;rw [BR d];exact bG<|bo<|bO<|iX fin
 ·rw [BK c] at fin;rw [BR λh=>c<|by have:=V.int.inj h;omega];exact cA<|bO<|iX fin
abbrev NW:List Str:=["_law_script","_law_rows","_law_seats_here","_law_walkers","_law_tie","_law_ends","_law_passes","_law_turn","_law_told"]
theorem og:ak NW ["_law_script"] (aW lW):=⟨rfl,rfl,rfl,by decide +kernel,rfl,by decide +kernel,by decide +kernel⟩
theorem q9z{f:Addr}{fd:FuncData}{c:Str->Addr}(F:bx K "law" "law" lW f fd)(T:Txt mg)(cl:Cl K mg c)(GC:aS P w K mg base 9 "_law_cell_at" ["_law_script","_law_k"]<|xR K)(GB:aS P w K mg base 9 "_law_big" ["_law_script","_law_at"]<|D7 K)(GN:aS P w K mg base 9 "_law_net_by" ["_law_big_here","_law_most","_law_stem"] F7)(GS:aS P w K mg base 9 "_law_seats" ["_law_rows"] xS)(GY:aS P w K mg base 9 "_law_copy" ["_law_rows"] GI)(GW:aS P w K mg base 9 "walkers_of" ["rows"] vh)(GA:aS P w K mg base 9 "_law_named" ["_law_rows","_law_ends"] Kc)(GP:dk P w K mg base 9 "passes_of" ["rows","tie"]<|JU c)(GD:aS P w K mg base 9 "_law_passed" ["_law_walkers","_law_pair","_law_turn"] Ke)(GK:dk P w K mg base 9 "kind_of" ["rows","tie"]<|JS c)(GO:aS P w K mg base 9 "_law_word" ["_law_ends","_law_passes"] Kg):aF P w K mg base bJ 10 f fd ["_law_script"] (zj K):=by
 refine F.gb og (λvs H Q E h=>?_) λb0 H vs Q E hr h=>?_
 ·obtain⟨a,ns,rfl,_⟩:=h;rfl
 obtain⟨a,ns,rfl,hS,h63,q⟩:=h;have nd:=og.nd;have un:=hr.f7;have hu:=hr.u1;show Run _ _ _ [some<|.ref a,none,none,none,none,none,none,none,none] H;refine a7 1 nd (bz GN hr<|ai<|bz GB hr<|ai<|ae 0<|ai<|aD<|az ⟨a,ns,0,rfl,hS,by decide,λb1 H1 s1=>?_⟩);refine ai (aD<|ai<|bz GC hr<|ai<|ae 0<|ai<|aD<|az ⟨a,ns,1,rfl,s1.seq hS,by decide,λc2=>?_⟩);refine az ⟨b1,24,c2,rfl,by decide,by decide,λR as n H2 s2 n2 hR hT qI hF T1 gR Ie has=>?_⟩;have e24:((24:Int)).toNat=24:=rfl;rw [e24] at gR Ie;have h0:0 < n.length:=Dk.mpr hF.some;show Run _ _ _ [some<|.ref a,some<|.ref R,none,none,none,none,none,none,none] H2;refine a7 2 nd (bz GS hr<|ai<|ae 1<|az ⟨R,as,n,rfl,hR,by omega,by omega,λds ks H3 s3 n3 hSe=>?_⟩);refine a7 3 nd (bz GW hr<|ai<|bz GY hr<|ai<|ae 1<|az ⟨R,as,n,rfl,hR.same s3,by omega,λM bs H4 s4 n4 f4 hM=>az ⟨M,bs,n,rfl,hM,qI,hT,by omega,by omega,λW ls H5 s5 n5 hW fW=>?_⟩⟩);have v9:=s4.trans s5;have yg:=hR.same<|s3.trans v9;have wB:=hSe.same v9;show Run _ _ _ [some<|.ref a,some<|.ref R,some<|.ref ds,some<|.ref W,none,none,none,none,none] H5;obtain⟨kvs,hk1,hk2,hk3⟩:=wB.dict;have Zu:ks.length<=48:=By (aX wB.nodup λz hz=>(wB.mem z).mp hz) (by omega);refine kE<|ce C6 T.sorted DW<|ai<|mY (Zk rfl) T.jP KZ<|ai<|ae 2<|az ⟨ds,kvs,rfl,.inl hk1,λl hl=>?_⟩;rw [k5t hk2];refine az ⟨l,ks,rfl,aq.of aB,by omega,λl2 tt kC gK m9=>⟨l2,rfl,⟨_,aq.of aB⟩,?_⟩⟩;have s6:=(aT hl<|Ls ks).trans<|aT kC<|.lst<|tt.map V.str;have et:(upd (upd H5 l<|Ls ks) l2<|.lst<|tt.map V.str) l2=some (Ls tt):=aB;generalize upd (upd H5 l<|Ls ks) l2 (.lst<|tt.map V.str)=H6 at s6 et;have m3:∀ z∈tt,z∈ag n:=λz hz=>(wB.mem z).mp<|gK.mem_iff.mp hz;have yh:=yg.same s6;have hW6:=hW.same s6;have hS6:=wB.same s6;refine kF (xs:=tt.map V.str) (λi σ H'=>∃ u4 u5 u6 u7 u8:Option V,au H6 H'/\σ=[some<|.ref a,some<|.ref R,some<|.ref ds,some<|.ref W,u4,u5,u6,u7,u8]) ⟨_,_,_,_,_,au.refl _,rfl⟩ ?_ ?_ ?_
 ·rintro i σ H' _ ⟨_,_,_,_,_,sm,_⟩;exact aq.of<|sm _ _ et
 ·rintro i x σ H7 hx ⟨u4,u5,u6,u7,u8,sm,rfl⟩;rw [Aj,Az] at hx;obtain⟨z,hz,rfl⟩:=hx;have dC:=m3 z<|Ap hz;obtain⟨p,p1,p2,hp⟩:=yP hT (k:=0) (by decide) dC;obtain⟨g,g1,g2,hg⟩:=yP hT (k:=1) (by decide) dC;have Kl:wo n z=[p,g]:=by
   show bR n 0 z++bR n 1 z=_;rw [hp,hg];rfl
  obtain⟨e,he,T4,hpo⟩:=q6b hT dC;obtain⟨kv7,kk1,kk2,kk3⟩:=(hS6.same sm).dict;obtain⟨sa,T5,v1,v2,v3⟩:=kk3 z dC;rw [hpo] at v3;obtain⟨tx,htx,ex1⟩:=v3.at (i:=0) rfl;obtain⟨ty,oI,ey1⟩:=v3.at (i:=1) rfl;have db:T5=[tx,ty]:=by
   have l2:=v3.length
   match T5,l2 with
   | [x,y],_=>cases htx;cases oI;rfl
  subst db;have nN:=yh.same sm;refine bg 4 nd ?_;show Run _ _ _ [some<|.ref a,some<|.ref R,some<|.ref ds,some<|.ref W,some<|.str z,u5,u6,u7,u8] H7;refine a7 5 nd (bz GA hr<|ai<|ae 1<|ai<|g8 hu<|ae 2<|ae 4 ⟨ds,.ref sa,rfl,by rw [<- v1];exact bn.k (k:=Sum.inr z) kk1,az ⟨R,sa,tx,ty,as,n,e,other n e,rfl,nN,v2,ex1,ey1,cK he,cK T4,λL a1 a2 H8 s8 eL ea1 ea2=>?_⟩⟩);have hR8:=nN.same s8;show Run _ _ _ [some<|.ref a,some<|.ref R,some<|.ref ds,some<|.ref W,some<|.str z,some<|.ref L,u6,u7,u8] H8;refine a7 6 nd (yN GP hr TD<|ai<|bz GY hr<|ai<|ae 1<|az ⟨R,as,n,rfl,hR8,by omega,λM2 bs2 H9 s9 n9 f9 hM2=>ai<|ae 4<|az ⟨M2,bs2,n,z,rfl,hM2,qI,hT,by omega,by omega,λk=>absurd dC k,λ_ Lp ts HA sA nA T6=>?_⟩⟩);rw [Kl] at T6;obtain⟨wC,kZ,T7⟩:=T6;obtain⟨t0,t1,rfl⟩:∃ t0 t1,ts=[t0,t1]:=by
   match ts,kZ with
   | [x,y],_=>exact⟨x,y,rfl⟩
  have P0:k4 n HA t0 p:=T7 0 t0 p rfl rfl;have P1:k4 n HA t1 g:=T7 1 t1 g rfl rfl;have s7A:=s8.trans<|s9.trans sA;have Km:=sm.trans s7A;have eLA:=(s9.trans sA) _ _ eL;have Kn:=(s9.trans sA) _ _ ea1;have Ko:=(s9.trans sA) _ _ ea2;have hEn:cT n HA [a1,a2] [e,other n e]:=⟨rfl,λi t c h1 h2=>by
   match i with
   | 0=>cases h1;cases h2;exact Kn
   | 1=>cases h1;cases h2;exact Ko
   | i+2=>simp at h1⟩
  have nU:∀ c∈[e,other n e],c∈ends n:=λc hc=>by
   rcases Ai.mp hc with rfl | hc
   ·exact af.mpr ⟨z,he⟩
   ·rw [Ad.mp hc];exact af.mpr ⟨z,T4⟩
  have qJ:∀{k:Nat} {r:Nat×Nt.End},k<=1->r∈bZ k (aM n)->aA n r.2=z->r.2∈ends n/\r.2∈[e,other n e]:=λ{k r} hk hr hz=>by
   have h1:=(TK hT hk hr).1;refine⟨h1,?_⟩;obtain⟨y,hy⟩:=af.mp h1;rw [dj hy] at hz;subst hz
   rcases (j4 hT he).mp hy with q | q
   ·rw [q];exact Ae
   ·rw [q];exact Ah _ Ae
  show Run _ _ _ [some<|.ref a,some<|.ref R,some<|.ref ds,some<|.ref W,some<|.str z,some<|.ref L,some<|.ref Lp,u7,u8] HA;refine eY<|qZ<|mZ<|tT<|qY<|ce tN T.uc FQ<|ai<|ae 6<|ai<|tQ (.ty "list") T.jP KZ rfl (az ⟨_,_,_,true,rfl,.lst wC,Hm K,true,rfl,bG ?_⟩);refine tU<|cE qT<|ce dF T.len DP<|ai<|ae 6<|az ⟨Lp,_,rfl,.inl<|aq.of wC,aD ⟨rfl,_,rfl,bG<|bo ?_⟩⟩;refine lG T.range (aD ⟨2,rfl,by decide,by decide,?_⟩);refine lH (λi σ H'=>∃ u7:Option V,au HA H'/\σ=[some<|.ref a,some<|.ref R,some<|.ref ds,some<|.ref W,some<|.str z,some<|.ref L,some<|.ref Lp,u7,u8]) ⟨_,au.refl _,rfl⟩ ?_ ?_
  ·rintro i σ HB hi ⟨u7,sB,rfl⟩;have hi:i < 2:=hi;rw [Dw];obtain⟨tk,rk,c8,hPk,T8,hrz⟩:∃ tk rk,dY [V.ref t0,V.ref t1] (i:Int)=some (.ref tk)/\k4 n HA tk rk/\rk∈bZ i (aM n)/\aA n rk.2=z:=by
    match i,hi with
    | 0,_=>exact⟨t0,p,lr rfl,P0,p1,p2⟩
    | 1,_=>exact⟨t1,g,lr rfl,P1,g1,g2⟩
   obtain⟨mE1,mE2⟩:=qJ (by omega) T8 hrz;obtain⟨uk,q1,q2⟩:=hPk;refine bg 7 nd ?_;show Run _ _ _ [some<|.ref a,some<|.ref R,some<|.ref ds,some<|.ref W,some<|.str z,some<|.ref L,some<|.ref Lp,some<|.int (i:Int),u8] HB;refine eY (qZ<|mZ<|tT<|qY<|bz GD hr<|ai<|ae 3<|ai<|aU cN<|ae 6<|ae 7 ⟨Lp,_,_,.ref tk,rfl,rfl,aq.of<|sB _ _ wC,c8,ai<|ae 7<|az ⟨W,tk,i,n,ls,rk,rfl,by omega,(hW6.same Km).same sB,qI,hT,(show k4 n HB tk rk from⟨uk,sB _ _ q1,sB _ _ q2⟩),T8,λHC sC=>⟨true,rfl,bG ?_⟩⟩⟩);have sK:=sB.trans sC;have dv:=λX=>TH (X:=X) qI nU (hEn.same sK) mE1<|sK _ _ q2;refine tU (cE (k6c un)<|aU bF<|aU cN<|ae 6<|ae 7 ⟨Lp,_,_,.ref tk,rfl,rfl,aq.of<|sK _ _ wC,c8,aD ⟨tk,_,_,.ref uk,rfl,rfl,aI.of<|sK _ _ q1,rfl,ae 5 ⟨L,[a1,a2],1,_,rfl,aq.of<|sK _ _ eLA,by decide,(dv _).1,_,rfl,?_⟩⟩⟩);rw [(dv<|B5 NW "law" (aW lW) P w K mg base b0).2,BW mE2];exact bG<|bo<|bo ⟨_,sK,rfl⟩
  ·rintro σ HB ⟨u7,sB,rfl⟩;have sBB:=Km.trans sB;refine a7 8 nd (yN GK hr TD<|ai<|bz GY hr<|ai<|ae 1<|az ⟨R,as,n,rfl,yh.same sBB,by omega,λM3 bs3 HC sC nC fC hM3=>ai<|ae 4<|az ⟨M3,bs3,n,z,rfl,hM3,qI,hT,T1,h0,by omega,by omega,λk=>absurd dC k,λ_ u L3 wd ss HD sD nu nL eu eL3 ok=>?_⟩⟩);have zp:=sB.trans<|sC.trans sD;show Run _ _ _ [some<|.ref a,some<|.ref R,some<|.ref ds,some<|.ref W,some<|.str z,some<|.ref L,some<|.ref Lp,u7,some<|.ref u] HD;refine eY<|qZ<|mZ<|tT<|qY<|ce tN T.uc FQ<|ai<|ae 8<|ai<|tQ (.ty "tuple") T.jO RV rfl (az ⟨_,_,_,true,rfl,.tup eu,uU K,true,rfl,bG ?_⟩);refine mZ<|cE qT<|ce dF T.len DP<|ai<|ae 8<|az ⟨u,_,rfl,.inr<|aI.of eu,aD ⟨rfl,_,rfl,bG ?_⟩⟩;refine tU (cE qT<|aU bF<|ae 8<|aD ⟨u,_,_,.str wd,rfl,rfl,aI.of eu,rfl,bz GO hr<|ai<|ae 5<|ai<|ae 6<|az ⟨.ref L,Lp,t0,t1,n,p,g,rfl,qI,zp _ _ wC,P0.same zp,P1.same zp,(qJ (by decide) p1 p2).1,(qJ (by decide) g1 g2).1,rfl,_,rfl,?_⟩⟩);have kw:wd=Kf p g:=k2t hT T1 qI h0 dC ok hp hg;rw [kw,BW rfl];exact bG<|bo<|bo ⟨_,_,_,_,_,Km.trans zp,rfl⟩
 ·rintro σ H7 ⟨u4,u5,u6,u7,u8,sm,rfl⟩;exact bO<|WH<|q H7
end
end E8
namespace E8
open PySem L2
theorem all_mk{l:PySem.W.OpenLaw}{w:World}{K:PySem.W.Frag}{h:Heap}{mg:Str->Option Value}{fa:Addr}(X:K.In h)(G:h.Ns mainGlobals mg)(B6:mg "law" = some (.ref fa))
  (h1:Df K "ends_round" xD) (h2:Df K "ends_in_order" xE) (h3:Df K "turned_left" DF) (h4:Df K "turned_right" DH) (h5:Df K "other_ends" DI) (h6:Df K "ties_by_end" xF) (h7:Df K "left_steps" xG) (h8:Df K "right_steps" xH) (h9:Df K "points_of" xI) (Kq:Df K "links_of" DL) (Kr:Df K "summed" DM) (Ks:Df K "odd_points" g9) (Kt:Df K "cut_of" xK) (Ku:Df K "walkers_of" pB) (Kv:Df K "walker_from" pC) (Kw:Df K "core_of" ub) (Kx:Df K "cores_of" xM) (Ky:Df K "parted" xN) (Kz:Df K "points_by" DS) (KA:Df K "lowered" DT) (KE:Df K "_law_cell_at" DV) (KG:Df K "_law_big" pD) (KI:Df K "_law_names" DZ) (KL:Df K "_law_seats" D0) (KO:Df K "_law_other" D1) (KP:Df K "_law_step" D4) (KS:Df K "_law_face" D5) (KU:Df K "_law_put" pE) (KW:Df K "_law_net_by" pF) (K0:Df K "_law_copy" xO) (K1:Df K "ties_of" xJ) (K2:Df K "need_tie" DJ) (K3:Df K "kind_of" DU) (K4:Df K "passes_of" xL) (K5:Df K "_law_named" xP) (K6:Df K "_law_passed" xQ) (K7:Df K "_law_word" D6) (hl:Df K "law" lW)
  (qc:JE K=true)
  (z:∀ x∈(["isinstance","tuple","str","int","bool","list","dict","set","enumerate","zip","len","range","sorted","max","all","ValueError"]:List Str),PySem.W.nsIn K mainGlobals x=some none) :
  ∃ fd:FuncData,(∀(s:Shared) (v:Value),BindsTo s fd ⟨[v],[]⟩ [("_law_script",v)])/\∀ base:Heap,K.In base->base.Ns mainGlobals mg->aF l.prog w K mg base bJ 10 fa fd ["_law_script"] (zj K):=by
 have T:Txt mg:=⟨CP X G (z _<|by simp),CP X G (z _<|by simp),CP X G (z _<|by simp),CP X G (z _<|by simp),CP X G (z _<|by simp),CP X G (z _<|by simp),CP X G (z _<|by simp),CP X G (z _<|by simp),CP X G (z _<|by simp),CP X G (z _<|by simp),CP X G (z _<|by simp),CP X G (z _<|by simp),CP X G (z _<|by simp),CP X G (z _<|by simp),CP X G (z _<|by simp),CP X G<|z _<|by simp⟩;have cl:=x0d X G qc;refine hl.law X G B6 (λ_ _ _ _ _ _ s v=> .of_eq rfl) λbase f fd F=>?_;have G1:aS l.prog w K mg base 1 "ends_round" ["row"] uK:=h1.has X G (λ_ _ _ _ _ _=>i4 λ_=>rfl) λF=>q32 F T;have G2:aS l.prog w K mg base 2 "ends_in_order" ["rows"] Hi:=h2.has X G (λ_ _ _ _ _ _=>i4 λ_=>rfl) λF=>q19 F T (G1.mono<|by decide);have G3:aS l.prog w K mg base 1 "turned_left" ["end","many"] (jc λj=>j+1):=h3.has X G (λ_ _ _ _ _ _=>gJ λ_ _=>rfl) λF=>q30 F T;have G4:aS l.prog w K mg base 1 "turned_right" ["end","many"] (jc λj=>j - 1):=h4.has X G (λ_ _ _ _ _ _=>gJ λ_ _=>rfl) λF=>k7v F T;have G5:aS l.prog w K mg base 2 "other_ends" ["rows"] mv:=h5.has X G (λ_ _ _ _ _ _=>i4 λ_=>rfl) λF=>x0x F T (G1.mono<|by decide);have G6:aS l.prog w K mg base 2 "ties_by_end" ["rows"] kd:=h6.has X G (λ_ _ _ _ _ _=>i4 λ_=>rfl) λF=>x0b F T (G1.mono<|by decide);have G7:aS l.prog w K mg base 3 "left_steps" ["rows"] (jf 1):=h7.has X G (λ_ _ _ _ _ _=>i4 λ_=>rfl) λF=>x0w F T (G5.mono<|by decide) (G3.mono<|by decide);have G8:aS l.prog w K mg base 3 "right_steps" ["rows"] (jf (-1)):=h8.has X G (λ_ _ _ _ _ _=>i4 λ_=>rfl) λF=>x0r F T (G5.mono<|by decide) (G4.mono<|by decide);have G15:aS l.prog w K mg base 1 "walker_from" ["lefts","rights","first"] qo:=Kv.has X G (λ_ _ _ _ _ _=>rh λ_ _ _=>rfl) λF=>x01 F T;have K8:aS l.prog w K mg base 4 "walkers_of" ["rows"] vh:=Ku.has X G (λ_ _ _ _ _ _=>i4 λ_=>rfl) λF=>q90 F T (G7.mono<|by decide) (G8.mono<|by decide) (G6.mono<|by decide) (G2.mono<|by decide) (G15.mono<|by decide);have G16:aS l.prog w K mg base 3 "core_of" ["rows","walker"] Jo:=Kw.has X G (λ_ _ _ _ _ _=>gJ λ_ _=>rfl) λF=>q5w F T (G6.mono<|by decide);have G17:aS l.prog w K mg base 5 "cores_of" ["rows"] Js:=Kx.has X G (λ_ _ _ _ _ _=>i4 λ_=>rfl) λF=>q05 F T (K8.mono<|by decide) (G16.mono<|by decide);have G9:aS l.prog w K mg base 1 "points_of" ["rows"] Jh:=h9.has X G (λ_ _ _ _ _ _=>i4 λ_=>rfl) λF=>q66 F T;have G10:aS l.prog w K mg base 1 "links_of" ["rows"] Iq:=Kq.has X G (λ_ _ _ _ _ _=>i4 λ_=>rfl) λF=>k98 F T;have T9:aS l.prog w K mg base 2 "cut_of" ["rows","points"] yT:=Kt.has X G (λ_ _ _ _ _ _=>gJ λ_ _=>rfl) λF=>q7t F T (G10.mono<|by decide);have Ua:aS l.prog w K mg base 1 "odd_points" ["rows","some"] yV:=Ks.has X G (λ_ _ _ _ _ _=>gJ λ_ _=>rfl) λF=>q9i F T;have Ub:aS l.prog w K mg base 1 "summed" ["one","other"] yU:=Kr.has X G (λ_ _ _ _ _ _=>gJ λ_ _=>rfl) λF=>k8n F T;have G20:aS l.prog w K mg base 2 "lowered" ["steps","points","odds"] Jt:=KA.has X G (λ_ _ _ _ _ _=>rh λ_ _ _=>rfl) λF=>q9n F T (Ub.mono<|by decide);have G19:aS l.prog w K mg base 4 "points_by" ["rows","odds"] qC:=Kz.has X G (λ_ _ _ _ _ _=>gJ λ_ _=>rfl) λF=>x0y F T (G9.mono<|by decide) (G20.mono<|by decide) (Ua.mono<|by decide) (T9.mono<|by decide);have G18:aS l.prog w K mg base 6 "parted" ["rows","some"] Ju:=Ky.has X G (λ_ _ _ _ _ _=>gJ λ_ _=>rfl) λF=>k6q F T (G17.mono<|by decide) (T9.mono<|by decide) (G19.mono<|by decide) (Ua.mono<|by decide) (Ub.mono<|by decide);have Uc:aS l.prog w K mg base 1 "_law_cell_at" ["_law_script","_law_k"] (xR K):=KE.has X G (λ_ _ _ _ _ _=>gJ λ_ _=>rfl) λF=>YZ F T;have G22:aS l.prog w K mg base 2 "_law_big" ["_law_script","_law_at"] (D7 K):=KG.has X G (λ_ _ _ _ _ _=>gJ λ_ _=>rfl) λF=>Y2 F T (Uc.mono<|by decide);have G23:aS l.prog w K mg base 1 "_law_names" ["_law_stem","_law_many"] D8:=KI.has X G (λ_ _ _ _ _ _=>gJ λ_ _=>rfl) λF=>Y4 F T;have Ud:aS l.prog w K mg base 1 "_law_seats" ["_law_rows"] xS:=KL.has X G (λ_ _ _ _ _ _=>i4 λ_=>rfl) λF=>Y6 F T;have G25:aS l.prog w K mg base 1 "_law_other" ["_law_rows","_law_seats_here","_law_end"] D9:=KO.has X G (λ_ _ _ _ _ _=>rh λ_ _ _=>rfl) λF=>Y7 F T;have G26:aS l.prog w K mg base 2 "_law_step" ["_law_rows","_law_seats_here","_law_end","_law_turn"] EA:=KP.has X G (λ_ _ _ _ _ _=>MR λ_ _ _ _=>rfl) λF=>Y8 F T (G25.mono<|by decide);have G27:aS l.prog w K mg base 3 "_law_face" ["_law_rows","_law_seats_here","_law_end"] EB:=KS.has X G (λ_ _ _ _ _ _=>rh λ_ _ _=>rfl) λF=>Y' F T (G26.mono<|by decide);have G28:aS l.prog w K mg base 4 "_law_put" ["_law_rows","_law_big_here","_law_tie","_law_point"] FU:=KU.has X G (λ_ _ _ _ _ _=>MR λ_ _ _ _=>rfl) λF=>q7k F T (Ud.mono<|by decide) (G27.mono<|by decide);have G29:aS l.prog w K mg base 5 "_law_net_by" ["_law_big_here","_law_most","_law_stem"] F7:=KW.has X G (λ_ _ _ _ _ _=>rh λ_ _ _=>rfl) λF=>q7r F T (G23.mono<|by decide) (G28.mono<|by decide);have G30:aS l.prog w K mg base 1 "_law_copy" ["_law_rows"] GI:=K0.has X G (λ_ _ _ _ _ _=>i4 λ_=>rfl) λF=>q6i F T;have G31:aS l.prog w K mg base 1 "ties_of" ["rows"] qD:=K1.has X G (λ_ _ _ _ _ _=>i4 λ_=>rfl) λF=>q5c F T;have Ue:dk l.prog w K mg base 2 "need_tie" ["rows","tie"] (yY<|iL K):=K2.qw X G (λ_ _ _ _ _ _=>gJ λ_ _=>rfl) λF=>q6a F T cl (G31.mono<|by decide);have G33:dk l.prog w K mg base 8 "kind_of" ["rows","tie"] (JS<|iL K):=K3.qw X G (λ_ _ _ _ _ _=>gJ λ_ _=>rfl) λF=>q5d F T cl (Ue.mono<|by decide) (G18.mono<|by decide);have G34:dk l.prog w K mg base 5 "passes_of" ["rows","tie"] (JU<|iL K):=K4.qw X G (λ_ _ _ _ _ _=>gJ λ_ _=>rfl) λF=>q9u F T cl (Ue.mono<|by decide) (G6.mono<|by decide) (K8.mono<|by decide);have G35:aS l.prog w K mg base 1 "_law_named" ["_law_rows","_law_ends"] Kc:=K5.has X G (λ_ _ _ _ _ _=>gJ λ_ _=>rfl) λF=>q0b F T;have G36:aS l.prog w K mg base 1 "_law_passed" ["_law_walkers","_law_pair","_law_turn"] Ke:=K6.has X G (λ_ _ _ _ _ _=>rh λ_ _ _=>rfl) λF=>k8b F T;have G37:aS l.prog w K mg base 1 "_law_word" ["_law_ends","_law_passes"] Kg:=K7.has X G (λ_ _ _ _ _ _=>gJ λ_ _=>rfl) λF=>q6m F T;exact q9z F T cl (Uc.mono<|by decide) (G22.mono<|by decide) (G29.mono<|by decide) (Ud.mono<|by decide) (G30.mono<|by decide) (K8.mono<|by decide) (G35.mono<|by decide) (G34.mono<|by decide) (G36.mono<|by decide) (G33.mono<|by decide)<|G37.mono<|by decide
theorem walk{l:PySem.W.OpenLaw}{q:Program}{loose:List Str}{XP:(Str->Option Value)->Heap->Prop}{YP:World->Heap->Prop}{d:DefRec}{K:Params->PySem.W.Frag}(hn:l.most=some 63)(lB:d.params.defaults=[])
  (hY:∀(w:World) (h:Heap),YP w h->(K w.params).In h)
  (F : ∀ (w : World) (mg : Str → Option Value) (fa : Addr) (h : Heap), (K w.params).In h → h.Ns mainGlobals mg → mg d.name = some (.ref fa) →
   ∃ fd:FuncData,(∀(s:Shared) (u:Value),BindsTo s fd ⟨[u],[]⟩ [("_law_script",u)])/\∀ base:Heap,(K w.params).In base->base.Ns mainGlobals mg->aF l.prog w (K w.params) mg base bJ 10 fa fd ["_law_script"] (zj<|K w.params)) :
  PySem.W.WalkO q loose XP YP l.row.toRowW d [] (λf vs=>PySem.call f vs):=
 L2.lD (n:=63) (k:=10) (x:= "_law_script") (CX:=λ_=>bJ) (sp:=λw=>zj<|K w.params) hn (by decide) lB ⟨rfl,by decide,by decide⟩ hY F (λ_ _ a ns hl _ hS=>⟨a,ns,rfl,hS,hl,λ_=>rfl⟩) λ_ _ _ _ _ z=>z
end E8
-- see NOTE.md
namespace PySem.W.Fast
def tw10090161994857004303:=()
def tw10212664043709914067:=()
def tw10268987636356279376:=()
def tw10273306271402873026:=()
def tw10505384414908665882:=()
def tw10526265358166583702:=()
def tw10856064591167485415:=()
def tw10981487443539248992:=()
def tw11116110726589400282:=()
def tw11129714673871761844:=()
def tw11564101622167898138:=()
def tw11717913928643123685:=()
def tw11798425282637782214:=()
def tw12243342396068717018:=()
def tw12292397227255346742:=()
def tw12376482032434456694:=()
def tw12467003310749994221:=()
def tw1250563946443150392:=()
def tw12756463157998307844:=()
def tw13203814304415026973:=()
def tw13420393029279991045:=()
def tw13447139880577903264:=()
def tw13458094762205456186:=()
def tw13935323414704768411:=()
def tw14095786844774065358:=()
def tw14151406716265451707:=()
def tw14185267578903235693:=()
def tw1421543499782337861:=()
def tw14425592087310941071:=()
def tw1445989667659398060:=()
def tw14466453080515416099:=()
def tw14728757252220974021:=()
def tw14804464022516433052:=()
def tw1484571829019867674:=()
def tw15402202340621106144:=()
def tw15514923854346296023:=()
def tw15533447482392484061:=()
def tw15602274648717598411:=()
def tw15608754244190437327:=()
def tw15646037905713913321:=()
def tw15763552176126996300:=()
def tw15855359505416599151:=()
def tw15898965146373013988:=()
def tw16029112958369374664:=()
def tw16036354316610367690:=()
def tw16084133867767456174:=()
def tw16125870004514894823:=()
def tw16310663228215975396:=()
def tw16330210369379165519:=()
def tw16333765109336775622:=()
def tw16387000619973880880:=()
def tw16620921920380856152:=()
def tw16796115985910864115:=()
def tw16855884641973540611:=()
def tw16895002013246153944:=()
def tw16935843473118906771:=()
def tw17232431027314285254:=()
def tw17279724124335387862:=()
def tw1732927491910616283:=()
def tw1764177287924266983:=()
def tw1806089958749229141:=()
def tw18157836424008902252:=()
def tw18433754864459391036:=()
def tw1939574216974644756:=()
def tw2002911373721763717:=()
def tw2235158731482831479:=()
def tw2574420488659330036:=()
def tw2782536823382706989:=()
def tw2786644098325923648:=()
def tw2818448674209144498:=()
def tw3023865419854930228:=()
def tw3460392295800140440:=()
def tw3548677947126433146:=()
def tw3812334798668977711:=()
def tw388625311670175568:=()
def tw3924057307812822653:=()
def tw4390019265982895048:=()
def tw4467925498954342540:=()
def tw4596810583876244606:=()
def tw4656313635379029731:=()
def tw4660287964652503930:=()
def tw4762535065373936011:=()
def tw5005138763119001406:=()
def tw5037834544097469046:=()
def tw5050169643880807691:=()
def tw5206030608401209521:=()
def tw5323652079530282509:=()
def tw5355162594950401997:=()
def tw5374980104931258439:=()
def tw5638156901087849277:=()
def tw5889614322381677466:=()
def tw6233647010049707534:=()
def tw6237950547097609889:=()
def tw6285354690611287351:=()
def tw6680007904494056974:=()
def tw6994547384443091126:=()
def tw7029777279900718062:=()
def tw7138617104272033061:=()
def tw7143118493680355086:=()
def tw7427813363831588089:=()
def tw7454062077255891601:=()
def tw7643800988284597061:=()
def tw7772761210700303039:=()
def tw7968829147819354265:=()
def tw8387889633228962925:=()
def tw8401818871518002360:=()
def tw8418964026326556215:=()
def tw8678085735471252296:=()
def tw8843454027635570912:=()
def tw902785891682327263:=()
def tw9081934954261360135:=()
def tw9178495603894146641:=()
def tw9279722828018769952:=()
def tw9292157924432489929:=()
def tw9898144339912665040:=()
def tw9930525234466650431:=()
end PySem.W.Fast
open PySem PySem.W PyProof.Rows
set_option maxRecDepth 100000 in
set_option maxHeartbeats 0 in
theorem PySem.Challenge.cw_threewebs_k53_whole_kinds_by_walkers_holds : PySem.Challenge.rw_threewebs_k53_whole_kinds_by_walkers.Holds := by
 w_on;o_law;k_head;(case hw=>w_witness2)
 k_fill
 refine E8.walk (l:=PySem.Challenge.rw_threewebs_k53_whole_kinds_by_walkers) rfl rfl (λw h Y=>PySem.W.kIn_of Y) ?F
 case F=>
  intro w mg fa h KX G tJ;refine' E8.all_mk KX G tJ ?h1 ?h2 ?h3 ?h4 ?h5 ?h6 ?h7 ?h8 ?h9 ?Kq ?Kr ?Ks ?Kt ?Ku ?Kv ?Kw ?Kx ?Ky ?Kz ?KA ?KE ?KG ?KI ?KL ?KO ?KP ?KS ?KU ?KW ?K0 ?K1 ?K2 ?K3 ?K4 ?K5 ?K6 ?K7 ?h0 ?qc ?zz
  case h1 | h2 | h3 | h4 | h5 | h6 | h7 | h8 | h9 | Kq | Kr | Ks | Kt | Ku | Kv | Kw | Kx | Ky | Kz | KA | KE | KG | KI | KL | KO | KP | KS | KU | KW | K0 | K1 | K2 | K3 | K4 | K5 | K6 | K7 | h0=>refine' L2.tX ?a ?l ?c ?k;(case a=>k_is);(case l=>k_is);(case c=>k_is);(case k=>k_is)
  case qc=>kernel_rfl
  case zz=>
   refine' List.forall_mem_cons.mpr ⟨?_,?_⟩;k_is
   iterate 15 (refine' List.forall_mem_cons.mpr ⟨?_,?_⟩;k_is)
   exact λx hx=>nomatch hx

import PyProof.Rows.All
import Wide.All
import OpenK.AllK
import Wide.FinOn
import Lean
import PyProof.EqAt
import PyProof.EqKinds
import PyProof.TupleCall
import KE.KDictLaws
import KE.KDictList
import KE.KDictSum
import KE.KIsAll
import KE.KSortTup
import KE.KUnpack
import KE.KUnpackStar
import PyProof.AttrMissSeq
import PyProof.CallStr
import PyProof.Conv_int_bool
import PyProof.DictItems
import PyProof.DictIter
import PyProof.DictList
import PyProof.EnumFor
import PyProof.EnumMake
import PyProof.EnumStmt
import PyProof.ExcArgsOwn
import PyProof.ExcAttrAll.ValueError
import PyProof.ExcBaseAll.ValueError
import PyProof.NeKinds
import PyProof.NsDelKeeps
import PyProof.Rows.CatchOwn
import PyProof.Rows.CountFlat
import PyProof.Rows.EnumRows
import PyProof.Rows.FStr
import PyProof.Rows.SeqMore
import PyProof.Rows.SortRev
import PyProof.Rows.StrSplitJoin
import PyProof.Rows.StrWeight2
import PyProof.Rows.TupDisplay
import PyProof.RulesTry
import PyProof.SetNew
import PyProof.SetRoads
import PyProof.StationsW
import PyProof.TupleKey
import PyProof.WalkInts
import PyProof.ZipIter
import PySem.Challenge.RW_threewebs_k50_sets_parted
abbrev BJ:=@PySem.wpAny_bind
abbrev BK:=@PySem.wpAny_pure
abbrev BL:=@if_neg
abbrev BP:=@if_pos
abbrev BR:=@decide_eq_false
abbrev BW:=@decide_eq_true
abbrev BX:=@of_decide_eq_true
abbrev BZ:=@congrArg
abbrev CG:=@Ne.symm
abbrev CJ:=@PySem.wpAny_holding
abbrev CK:=@decide_eq_true_iff
abbrev CN:=@PySem.wpAny_setState_of
abbrev CP:=@PySem.Heap.SameBut.update
abbrev CQ:=@PySem.wpAny_newObj_type
abbrev CT:=@PySem.W.mg_none_of
abbrev CV:=@if_false
abbrev CW:=@PySem.wpAny_mono
abbrev CZ:=@PySem.mem_of_lookup
abbrev DG:=@PySem.wpAny_call_entry
abbrev DK:=@PySem.boot_len
abbrev DN:=@decide_eq_true_eq
abbrev DP:=@if_true
abbrev DQ:=@Classical.byContradiction
abbrev DR:=@PyProof.Rows.boot_sorted
abbrev DW:=@PySem.sizeLine_eq
abbrev DX:=@PySem.W.kia_one
abbrev DY:=@PySem.F.plainAttrs_list
abbrev EY:=@PySem.Around.under_plainId
abbrev FJ:=@PySem.codeAny_builtin
abbrev FN:=@PyProof.Rows.wpS_bind
abbrev FP:=@PySem.wpAny_setField
abbrev FQ:=@PySem.wpAny_truthy_bool
abbrev FT:=@bne_self_eq_false
abbrev FW:=@PySem.wpAny_typeNameOfWhole_itemiter
abbrev FZ:=@PySem.wpAny_storeSet_of
abbrev GJ:=@PySem.F.slot_dict_itemiterator_next
abbrev GQ:=@PySem.wpAny_callSpecial?_slot
abbrev GX:=@Prod.ext
abbrev GZ:=@or_false
abbrev HJ:=@PyProof.Rows.boot_isinstance
abbrev HN:=@PySem.Calls.callWith_builtin
abbrev HS:=@PySem.wpAny_rule
abbrev HW:=@PyProof.Rows.F.plain_set_update_loop
abbrev HX:=@of_decide_eq_false
abbrev HY:=@PySem.wpAny_passesOwn
abbrev IK:=@PySem.wpAny_standAt
abbrev IV:=@PySem.wpAny_typeNameOf_itemiter
abbrev IW:=@decide_eq_false_iff_not
abbrev JB:=@PySem.plainId_quiet
abbrev JC:=@PySem.tupleKind_room_in1
abbrev JD:=@PySem.wpAny_setField_rec
abbrev JF:=@PySem.W.cellsFrom_some
abbrev JG:=@PySem.wpAny_of_eq
abbrev JH:=@PyProof.Rows.wpS_pure
abbrev JK:=@PyProof.Rows.boot_list
abbrev JL:=@PySem.codeAny_mono
abbrev JM:=@PySem.wpAny_typeOf
abbrev JN:=@PyProof.Rows.callWith_type1
abbrev JQ:=@PySem.wpAny_askSetting
abbrev JR:=@PySem.wpAny_isInstance
abbrev JT:=@PySem.wpAny_newList
abbrev JV:=@PySem.wpAny_field
abbrev JW:=@PySem.wpAny_setEntries_of
abbrev JX:=@PySem.PassesOwn.never
abbrev JZ:=@PySem.codeAny_of_tree
abbrev KC:=@PySem.W.KasT.kasWp_bind
abbrev KD:=@PySem.wpAny_Call_Name_kw
abbrev KH:=@PyProof.Rows.F.entry_set_update_loop
abbrev KJ:=@beq_iff_eq
abbrev KN:=@PySem.wpAny_setEpoch_of
abbrev KQ:=@PySem.wpAny_pyIter_slot
abbrev KR:=@PySem.wpAny_isOneOf_itemiter
abbrev KY:=@List.eraseIdx_append_of_lt_length
abbrev KZ:=@PySem.wpAny_attempt
abbrev LC:=@PyProof.Rows.listUpdate_at
abbrev LK:=@beq_self_eq_true
abbrev LQ:=@PySem.F.slot_dict_get
abbrev LR:=@List.Perm.append_left
abbrev MF:=@PySem.builtinLookup_eq_fast
abbrev MJ:=@PyProof.Rows.boot_set
abbrev MK:=@PyProof.Rows.slot_tuple_getitem
abbrev MN:=@List.eraseIdxIfInBounds_toArray
abbrev MP:=@PySem.F.args_dict_itemiterator_next_1
abbrev NK:=@PySem.Calls.evalArgs_plain
abbrev NQ:=@PySem.call_meets
abbrev NZ:=@PySem.strKind_is
abbrev OD:=@PyProof.Rows.listItems_at
abbrev OJ:=@PyProof.Rows.wpS_forRange
abbrev PB:=@PySem.F.entry_dict_itemiterator_next
abbrev PJ:=@PySem.F.slot_dict_itemiterator_iter
abbrev PK:=@PySem.entryFor_alias
abbrev PL:=@PySem.wpAny_fieldsOf
abbrev PN:=@PySem.wpAny_newTuple
abbrev PX:=@PyProof.Rows.seqEpoch_at
abbrev QB:=@PySem.Calls.spliced_cons
abbrev QC:=@List.lookup_append
abbrev QD:=@Nat.lt_of_le_of_lt
abbrev QF:=@PySem.MeetsSeq2.wpAny_forIn_array
abbrev QG:=@List.getElem?_drop
abbrev QJ:=@List.perm_ext_iff_of_nodup
abbrev QK:=@Nat.mod_two_eq_zero_or_one
abbrev QL:=@PySem.wpAny_pyIter_list
abbrev QM:=@Option.isSome_map
abbrev QS:=@List.Pairwise.map
abbrev QT:=@PySem.wpAny_dictEntries
abbrev QV:=@Nat.lt_trichotomy
abbrev QW:=@List.drop_eq_getElem_cons
abbrev QX:=@PySem.F.slot_set_contains
abbrev QZ:=@PySem.call_meetsIn
abbrev RB:=@Array.getElem?_replicate
abbrev RD:=@List.nodup_range
abbrev RG:=@List.ext_getElem
abbrev RJ:=@PySem.F.slot_list_insert
abbrev RK:=@PySem.F.type_list_insert
abbrev RL:=@List.eraseIdx_cons_succ
abbrev RM:=@PySem.F.args_dict_get_3
abbrev RN:=@PySem.F.plainAttrs_dict
abbrev RP:=@List.getElem?_cons_zero
abbrev RQ:=@List.filter_cons_of_pos
abbrev RT:=@PyProof.Rows.boot_tuple
abbrev RV:=@PySem.wpAny_execs_nil
abbrev RW:=@List.of_mem_zip
abbrev RX:=@PySem.wpAny_specialOf
abbrev RZ:=@PySem.typeLookup_type
abbrev SJ:=@PySem.wpAny_dictEpoch
abbrev SM:=@List.getElem?_set_self
abbrev SN:=@PySem.F.entry_dict_get
abbrev SQ:=@PySem.wpAny_alloc
abbrev SX:=@List.length_pos_of_mem
abbrev TF:=@List.drop_of_length_le
abbrev TJ:=@PyProof.Rows.boot_dict
abbrev TQ:=@List.Perm.append_right
abbrev TV:=@Bool.false_and
abbrev TX:=@Bool.not_false
abbrev TY:=@List.getElem?_toArray
abbrev UG:=@PyProof.Rows.boot_int
abbrev UJ:=@PySem.F.plain_set_new
abbrev UL:=@PyProof.Rows.boot_max
abbrev UW:=@PySem.F.slot_list_pop
abbrev VB:=@PySem.F.type_list_pop
abbrev VD:=@Nat.add_zero
abbrev VF:=@Nat.sub_zero
abbrev VG:=@Nat.sub_self
theorem Z0:0<=PySem.sizeLine:=by decide
theorem Z2:2<=PySem.sizeLine:=by decide
theorem Z1:1<=PySem.sizeLine:=by decide
set_option Elab.async false
set_option linter.all false
set_option maxRecDepth 100000
set_option maxHeartbeats 4000000
abbrev Aa:=@List.length_map
abbrev Ab:=@List.getElem?_eq_getElem
abbrev Ac:=@List.getElem?_eq_some_iff
abbrev Ad:=@List.mem_singleton
abbrev Ae:=@List.mem_cons_self
abbrev Af:=@List.length_append
abbrev Ag:=@PySem.Heap.get?_push_of_some
abbrev Ah:=@List.getElem?_map
abbrev Ai:=@List.mem_cons_of_mem
abbrev Aj:=@List.map_append
abbrev Ak:=@List.mem_cons
abbrev Al:=@Nat.le_refl
abbrev Am:=@List.mem_append
abbrev An:=@List.mem_map
abbrev Ao:=@List.map_congr_left
abbrev Ap:=@List.mem_of_getElem?
abbrev Aq:=@List.length_cons
abbrev Ar:=@List.append_assoc
abbrev As:=@List.getElem?_append_left
abbrev At:=@PySem.Heap.get?_push_size
abbrev Au:=@List.size_toArray
abbrev Av:=@Bool.false_ne_true
abbrev Aw:=@Option.map_eq_some_iff
abbrev Ax:=@List.mem_append_right
abbrev Ay:=@PySem.Heap.lt_size
abbrev Az:=@List.getElem?_append_right
abbrev Ba:=@List.mem_append_left
abbrev Bb:=@Bool.false_eq_true
abbrev Bc:=@Int.toNat_natCast
abbrev Bd:=@List.getElem?_eq_none
abbrev Be:=@List.nodup_cons
abbrev Bf:=@List.length_take
abbrev Bg:=@Nat.lt_of_lt_of_le
abbrev Bh:=@List.mem_filter
abbrev Bi:=@List.append_nil
abbrev Bj:=@List.map_cons
abbrev Bk:=@List.length_eq_zero_iff
abbrev Bm:=@Array.length_toList
abbrev Bn:=@List.pairwise_iff_getElem
abbrev Bo:=@Nat.ne_of_lt
abbrev Bp:=@List.getElem?_of_mem
abbrev Bq:=@Array.getElem?_toList
abbrev Br:=@List.mem_range
abbrev Bs:=@Nat.le_trans
abbrev Bt:=@List.getElem_mem
abbrev Bu:=@List.take_length
abbrev Bv:=@Bool.and_eq_true
abbrev Bw:=@Int.emod_nonneg
abbrev Bx:=@Nat.zero_le
abbrev By:=@Nat.lt_succ_of_lt
abbrev Bz:=@List.forall_mem_cons
abbrev Ca:=@List.map_map
abbrev Cb:=@Nat.mod_eq_of_lt
abbrev Cc:=@Int.emod_lt_of_pos
abbrev Cd:=@List.flatMap_cons
abbrev Ce:=@List.nodup_iff_pairwise_ne
abbrev Cf:=@List.perm_append_comm
abbrev Cg:=@List.take_add_one
abbrev Ch:=@List.nodup_nil
abbrev Ci:=@List.nodup_append
abbrev Cj:=@List.not_mem_nil
abbrev Ck:=@List.contains_iff_mem
abbrev Cm:=@Bool.eq_iff_iff
abbrev Cn:=@List.filter_append
abbrev Co:=@Nat.le_of_lt
abbrev Cp:=@List.take_of_length_le
abbrev Cq:=@List.count_pos_iff
abbrev Cr:=@List.pairwise_cons
abbrev Cs:=@List.length_singleton
abbrev Ct:=@List.length_filter_le
abbrev Cu:=@List.length_eraseIdx
abbrev Cv:=@List.mem_iff_getElem
abbrev Cw:=@List.count_eq_zero_of_not_mem
abbrev Cy:=@Nat.ne_of_gt
abbrev Cz:=@PySem.Heap.size_push
abbrev Da:=@List.count_cons
abbrev Db:=@List.length_drop
abbrev Dc:=@List.flatten_cons
abbrev Dd:=@List.foldl_cons
abbrev De:=@PySem.Heap.get?_update_other
abbrev Dg:=@Nat.lt_or_ge
abbrev Dh:=@List.filter_cons
abbrev Di:=@Array.getElem?_eq_getElem
abbrev Dj:=@List.length_pos_iff
abbrev Dk:=@List.count_append
abbrev Dl:=@List.take_append_drop
abbrev Dm:=@List.getElem?_take_of_lt
abbrev Do:=@List.range_succ
abbrev Dp:=@List.lookup_cons
abbrev Dq:=@List.getElem_map
abbrev Dr:=@Array.getD_eq_getD_getElem?
abbrev Ds:=@Nat.lt_irrefl
abbrev Du:=@List.ext_getElem?
abbrev Dv:=@Int.zero_add
abbrev Dw:=@Bool.not_true
abbrev Dx:=@List.pairwise_map
abbrev Dy:=@Nat.not_lt_zero
abbrev Dz:=@List.filterMap_cons
abbrev Eb:=@List.getElem?_range
abbrev Ec:=@Array.getElem?_eq_none
abbrev Ed:=@Nat.mod_self
abbrev Ee:=@List.all_eq_true
abbrev Ef:=@PySem.Heap.get?_update_self
abbrev Eh:=@Nat.le_succ
abbrev Ej:=@Nat.le_of_succ_le
abbrev Ek:=@Bool.eq_false_iff
abbrev El:=@List.length_range
abbrev Em:=@Option.isSome_iff_exists
abbrev Ep:=@List.mem_of_mem_eraseIdx
abbrev Er:=@List.flatMap_append
abbrev Es:=@List.getElem?_replicate
abbrev Eu:=@List.pairwise_singleton
abbrev Ex:=@Nat.zero_add
abbrev Ey:=@List.getElem_range
abbrev Ez:=@List.append_eq_nil_iff
abbrev Fa:=@List.find?_cons
abbrev Fb:=@List.length_nil
abbrev Fc:=@List.nil_append
abbrev Fd:=@List.length_replicate
abbrev Fe:=@List.mem_zipIdx_iff_le_and_getElem?_sub
abbrev Ff:=@List.mem_erase_of_ne
abbrev Fg:=@Nat.one_pos
abbrev Fh:=@List.getElem?_modify
abbrev Fi:=@Bool.false_xor
abbrev Fj:=@Bool.xor_false
abbrev Fk:=@List.nodup_iff_count
abbrev Fm:=@List.cons_append
abbrev Fn:=@List.mem_flatten
abbrev Fo:=@List.exists_mem_of_ne_nil
abbrev Fp:=@List.flatten_append
abbrev Fq:=@List.any_cons
abbrev Fr:=@List.length_erase_of_mem
abbrev Fs:=@Bool.and_comm
abbrev Ft:=@List.mem_filterMap
abbrev Fu:=@List.find?_eq_none
abbrev Fv:=@List.append_of_mem
abbrev Fw:=@Nat.lt_of_le_of_ne
abbrev Fx:=@List.getElem?_cons_succ
abbrev Fy:=@Nat.succ_pos
abbrev Fz:=@List.getElem?_eraseIdx
abbrev Ga:=@List.lt_irrefl
abbrev Gb:=@List.filter_eq_nil_iff
abbrev Gc:=@Nat.zero_lt_of_lt
abbrev Gd:=@List.getElem_inj
abbrev Ge:=@Nat.lt_succ_self
abbrev Gf:=@List.isEmpty_nil
abbrev Gg:=@List.mem_flatMap
abbrev Gh:=@List.lt_trans
abbrev Gi:=@List.sum_cons
abbrev Gj:=@List.le_iff_lt_or_eq
abbrev Gk:=@Option.map_some
abbrev Gm:=@List.forIn_cons
abbrev Gn:=@List.find?_some
abbrev Go:=@Bool.and_false
abbrev Gp:=@Nat.mod_lt
abbrev Gq:=@List.all_cons
abbrev Gr:=@Bool.true_and
namespace L2
open PySem PySem.Spec PyProof.Rows
abbrev Key:=Sum Int Str
def qv:Key->Value->Bool
 | .inl k,v=>Value.isInt k v
 | .inr x,v=>Value.isStrOf x v
def yO(w:World):Key->Int
 | .inl k=>hashInt k
 | .inr x=>hashStr w x
theorem kq:∀{k:Key} {v:Value},qv k v=true->(∃ i t,k=Sum.inl i/\v=Value.int i t)\/(∃ x t,k=Sum.inr x/\v=Value.str x t)
 | .inl i,v,h=>by
  obtain⟨t,e⟩:=Value.isInt_shape (k:=i) (v:=v) h;exact .inl ⟨i,t,rfl,e⟩
 | .inr x,v,h=>by
  obtain⟨t,e⟩:=Value.isStrOf_shape (x:=x) (v:=v) h;exact .inr ⟨x,t,rfl,e⟩
theorem SH(i:Int)(t:Tok):qv (.inl i) (.int i t)=true:=by simp [qv,Value.isInt]
theorem SK(x:Str)(t:Tok):qv (.inr x) (.str x t)=true:=by simp [qv,Value.isStrOf]
theorem SL(a b:Int):decide ((Sum.inl a:Key)=Sum.inl b)=(a == b):=by
 by_cases e:a=b
 ·subst e;simp
 ·have h:¬(Sum.inl a:Key)=Sum.inl b:=λq=>e<|Sum.inl.inj q;rw [BR h];exact(beq_eq_false_iff_ne.mpr e).symm
theorem SR(a b:Str):decide ((Sum.inr a:Key)=Sum.inr b)=decide (a=b):=by
 by_cases e:a=b
 ·subst e;simp
 ·have h:¬(Sum.inr a:Key)=Sum.inr b:=λq=>e<|Sum.inr.inj q;rw [BR h,BR e]
theorem SU(a:Int)(b:Str):decide ((Sum.inl a:Key)=Sum.inr b)=false:=BR λq=>nomatch q
theorem SV(a:Str)(b:Int):decide ((Sum.inr a:Key)=Sum.inl b)=false:=BR λq=>nomatch q
def cS(prog:Program)(w:World):PySem.KeyKind prog w Key where
 is:=qv
 hash:=yO w
 inj:=λv a b ha hb=>by
  rcases kq ha with ⟨i,t,rfl,rfl⟩ | ⟨x,t,rfl,rfl⟩
  ·rcases kq hb with ⟨j,u,rfl,e⟩ | ⟨y,u,rfl,e⟩
   ·injection e with e1 _;rw [e1]
   ·exact nomatch e
  ·rcases kq hb with ⟨j,u,rfl,e⟩ | ⟨y,u,rfl,e⟩
   ·exact nomatch e
   ·injection e with e1 _;rw [e1]
 byValue:=λk v h=>by
  rcases kq h with ⟨i,t,rfl,rfl⟩ | ⟨x,t,rfl,rfl⟩ <;> rfl
 pyHash:=λhv h=>by
  rcases kq hv with ⟨i,t,rfl,rfl⟩ | ⟨x,t,rfl,rfl⟩
  ·exact wpAny_pyHash_int h
  ·exact wpAny_pyHash_str h
 eqBool:=λhu hv h=>by
  rcases kq hu with ⟨i,t,rfl,rfl⟩ | ⟨x,t,rfl,rfl⟩
  ·rcases kq hv with ⟨j,u,rfl,rfl⟩ | ⟨y,u,rfl,rfl⟩
   ·rw [SL] at h;exact wpAny_eqBool_int h
   ·rw [SU] at h;exact SeqAt.EqAt.int_str i t y u _ _ _ _ h
  ·rcases kq hv with ⟨j,u,rfl,rfl⟩ | ⟨y,u,rfl,rfl⟩
   ·rw [SV] at h;exact SeqAt.EqAt.str_int x t j u _ _ _ _ h
   ·rw [SR] at h;exact wpAny_eqBool_str h
 «strs»:=λk x t v h=>by
  rcases kq h with ⟨i,u,rfl,e⟩ | ⟨y,u,rfl,e⟩
  ·exact nomatch e
  ·injection e with e1 _
   subst e1;cases v <;> rfl
theorem SW(prog:Program)(w:World)(i:Int)(t:Tok):(cS prog w).is (.inl i) (.int i t)=true:=SH i t
theorem SY(prog:Program)(w:World)(x:Str)(t:Tok):(cS prog w).is (.inr x) (.str x t)=true:=SK x t
inductive V where
 | non | bl (b:Bool) | int (i:Int) | str (x:Str) | iK (b:Array UInt8) | qw (b:UInt64) | ref (a:Addr) | ty (n:String)
 deriving DecidableEq
def RelV:V->Value->Prop
 | .non,u=>u=Value.none
 | .bl b,u=>u=Value.bool b
 | .int i,u=>∃ t,u=Value.int i t
 | .str x,u=>∃ t,u=Value.str x t
 | .iK b,u=>∃ t,u=Value.bytes b t
 | .qw b,u=>∃ t,u=Value.float b t
 | .ref a,u=>u=Value.ref a
 | .ty n,u=>u=Value.type n
abbrev az:List V->List Value->Prop:=Paired RelV
theorem az.length{xs:List V}{us:List Value}(r:az xs us):xs.length=us.length:=Paired.length r
theorem az.get:∀{xs:List V} {us:List Value} {i:Nat} {x:V},az xs us->xs[i]?=some x->∃ u,us[i]?=some u/\RelV x u
 | _,_,_,_,.nil,e=>by simp at e
 | _,_,0,_,.cons r _,e=>by simp at e;subst e;exact⟨_,rfl,r⟩
 | _,_,i+1,x,.cons _ t,e=>by
  obtain⟨u,h1,h2⟩:=az.get (i:=i) (x:=x) t (by simpa using e);exact⟨u,by simpa using h1,h2⟩
theorem az.set{x:V}{u:Value}(r:RelV x u):∀{xs:List V} {us:List Value} (i:Nat),az xs us->az (xs.set i x) (us.set i u)
 | _,_,_,.nil=> .nil
 | _,_,0,.cons _ t=> .cons r t
 | _,_,i+1,.cons q t=> .cons q<|az.set r i t
theorem az.append:∀{xs ys:List V} {us ws:List Value},az xs us->az ys ws->az (xs++ys) (us++ws)
 | _,_,_,_,.nil,s=>s
 | _,_,_,_,.cons r t,s=> .cons r<|az.append t s
theorem az.take:∀{xs:List V} {us:List Value} (n:Nat),az xs us->az (xs.take n) (us.take n)
 | _,_,0,_=> .nil
 | _,_,_+1,.nil=> .nil
 | _,_,n+1,.cons r t=> .cons r<|az.take n t
theorem az.drop:∀{xs:List V} {us:List Value} (n:Nat),az xs us->az (xs.drop n) (us.drop n)
 | _,_,0,r=>r
 | _,_,_+1,.nil=> .nil
 | _,_,n+1,.cons _ t=>az.drop n t
def cU:Option V->Option Value->Prop
 | some v,some u=>RelV v u
 | none,none=>True
 | _,_=>False
def KV{κ:Type}:List (κ×V)->List (κ×Value)->Prop:=Paired λ(p:κ×V) (q:κ×Value)=>p.1=q.1/\RelV p.2 q.2
def kV:Key->V
 | .inl i=> .int i
 | .inr x=> .str x
inductive HO where
 | lst (xs:List V)
 | tup (xs:List V)
 | dK (kvs:List<|Key×V) | dT (kvs:List<|List Key×V)
 | set (S:Int->Bool) (n:Nat)
 | ins (C dx:Addr) (fs:List<|Str×V)
 | own (x:Addr)
 | xd (fs:List<|Str×V)
 | met (f x:Addr)
 | yP (lo hi:Int)
 | bD (o:Obj) (u:HO)
 | oa (ps:Array Value)
 | ext (φ:Heap->Prop)
abbrev Hp:=Addr->Option HO
def upd(H:Hp)(a:Addr)(o:HO):Hp:=λb=>if b=a then some o else H b
theorem aw{H:Hp}{a:Addr}{o:HO}:upd H a o a=some o:=by unfold upd;rw [BP rfl]
theorem av{H:Hp}{a b:Addr}{o:HO}(h:b≠a):upd H a o b=H b:=by unfold upd;rw [BL h]
theorem oe{H:Hp}{a:Addr}{o u:HO}:upd (upd H a o) a u=upd H a u:=by
 funext b;unfold upd;split <;> rfl
theorem ce{H:Hp}{a b:Addr}{o u:HO}(h:H a=some o)(h':H b=some u)(d:o≠u):a≠b:=by
 intro e;subst e;rw [h] at h';exact d<|Option.some.inj h'
theorem bg{H:Hp}{a b:Addr}{o:HO}(h:H a=some o)(h':H b=none):a≠b:=by
 intro e;subst e;rw [h] at h';cases h'
section
variable(P:Program)(w:World)
def aD(H:Hp)(h:Heap)(a:Addr):HO->Prop
 | .lst xs=>xs.length<=sizeLine/\∃(its:List Value) (n:Nat),az xs its/\h.get? a=some {cls:= .type "list",data:= .seq its.toArray n}
 | .tup xs=>xs.length<=sizeLine/\∃ its:List Value,az xs its/\IsTup h a its.toArray
 | .dK kvs=>kvs.length<=sizeLine/\(a == sysModules)=false/\∃ vs,KV kvs vs/\h.DictOf (cS P w) a vs
 | .dT kvs=>kvs.length<=sizeLine/\(a == sysModules)=false/\∃ xs:List<|List Key×Addr×Value,
   Paired (λ(p:List Key×V) (q:List Key×Addr×Value)=>p.1=q.1/\H q.2.1=some (.tup<|p.1.map kV)/\RelV p.2 q.2.2) kvs xs /\
   ∃ o es ep,h.get? a=some o/\o.ExactDict/\o.data = .dict es ep/\es.toList=xs.map (entryOfKey<|tupleKind<|cS P w)/\(xs.map (·.1)).Nodup
 | .set S n=>h.SetOf (intKind P w) a S n
 | .ins C dx fs=>H dx=some (.own a)/\fs.length<=1000/\dx≠a/\h.get? a=some (PySem.W.instObj C dx) /\
   ∃ mA,h.Ns1 dx mA/\(∀ f,cU (fs.lookup f)<|mA f)/\PySem.Within mA (fs.map (·.1))
 | .own _=>∃ o,h.get? a=some o
 | .xd fs=>∃ mA,h.Ns1 a mA/\∀ f,cU (fs.lookup f)<|mA f
 | .yP lo hi=>∃ t u v,h.get? a=some {cls:= .type "range",data:= .fields #[.int lo t,.int hi u,.int 1 v]}
 | .bD o u=>h.get? a=some o/\aD H h a u
 | .oa ps=>h.get? a=some {cls:= .none,data:= .fields ps}
 | .met f x=>h.get? a=some (PySem.W.methodObj (.ref f)<|.ref x)
 | .ext φ=>φ h/\(∃ o,h.get? a=some o)/\∀ h1 h2:Heap,φ h1->(∀ o,h1.get? a=some o->h2.get? a=some o)->φ h2
def cv(H:Hp)(h:Heap):Prop:=∀ a o,H a=some o->aD P w H h a o
end
section
variable{P:Program}{w:World}{H H':Hp}{h h':Heap}{a:Addr}{o:HO}
theorem aD.lt(x:aD P w H h a o):a < h.objs.size:=by
 cases o with
 | lst xs=>obtain⟨_,_,_,_,e⟩:=x;exact Ay e
 | tup xs=>obtain⟨_,_,_,p⟩:=x;exact p.lt
 | dK kvs=>obtain⟨_,_,_,_,o,_,_,e,_⟩:=x;exact Ay e
 | dT kvs=>obtain⟨_,_,_,_,o,_,_,e,_⟩:=x;exact Ay e
 | set S n=>obtain⟨o,_,_,_,e,_⟩:=x;exact Ay e
 | ins C dx fs=>obtain⟨_,_,_,e,_⟩:=x;exact Ay e
 | own y=>obtain⟨_,e⟩:=x;exact Ay e
 | xd fs=>obtain⟨_,⟨_,_,_,e,_⟩,_⟩:=x;exact Ay e
 | yP lo hi=>obtain⟨_,_,_,e⟩:=x;exact Ay e
 | bD ob u=>obtain⟨e,_⟩:=x;exact Ay e
 | oa ps=>exact Ay (show h.get? a=some _ from x)
 | met f y=>exact Ay (show h.get? a=some _ from x)
 | ext φ=>obtain⟨_,⟨_,e⟩,_⟩:=x;exact Ay e
theorem Paired.og{α β:Type}{F G:α->β->Prop}:∀{l₁:List α} {l₂:List β},Paired F l₁ l₂->(∀ a b,F a b->G a b)->Paired G l₁ l₂
 | _,_,.nil,_=> .nil
 | _,_,.cons r t,f=> .cons (f _ _ r)<|Paired.og t f
theorem aD.iL(x:aD P w H h a o)(k:∀ b u,(b=a\/H b=some (.own a))->h.get? b=some u->h'.get? b=some u)
  (ho:∀ b,H b=some (.own a)->H' b=some (.own a)) (ht:∀ b xs,H b=some (.tup xs)->H' b=some (.tup xs)):aD P w H' h' a o:=by
 induction o with
 | lst xs=>obtain⟨z,its,n,r,e⟩:=x;exact⟨z,its,n,r,k _ _ (.inl rfl) e⟩
 | tup xs=>obtain⟨z,its,r,ob,e,c⟩:=x;exact⟨z,its,r,ob,k _ _ (.inl rfl) e,c⟩
 | dK kvs=>obtain⟨z,y,vs,r,ob,es,ep,e,c⟩:=x;exact⟨z,y,vs,r,ob,es,ep,k _ _ (.inl rfl) e,c⟩
 | dT kvs=>
  obtain⟨z,y,xs,r,ob,es,ep,e,c⟩:=x;exact⟨z,y,xs,Paired.og r λp q z=>⟨z.1,ht _ _ z.2.1,z.2.2⟩,ob,es,ep,k _ _ (.inl rfl) e,c⟩
 | set S n=>obtain⟨ob,es,ep,t,e,c⟩:=x;exact⟨ob,es,ep,t,k _ _ (.inl rfl) e,c⟩
 | ins C dx fs=>
  obtain⟨d,z,ne,e,mA,⟨od,es,ep,e2,c⟩,r⟩:=x;exact⟨ho _ d,z,ne,k _ _ (.inl rfl) e,mA,⟨od,es,ep,k _ _ (.inr d) e2,c⟩,r⟩
 | own y=>obtain⟨ob,e⟩:=x;exact⟨ob,k _ _ (.inl rfl) e⟩
 | xd fs=>obtain⟨mA,⟨od,es,ep,e,c⟩,r⟩:=x;exact⟨mA,⟨od,es,ep,k _ _ (.inl rfl) e,c⟩,r⟩
 | yP lo hi=>obtain⟨t,u,v,e⟩:=x;exact⟨t,u,v,k _ _ (.inl rfl) e⟩
 | bD ob u ih=>obtain⟨e,q⟩:=x;exact⟨k _ _ (.inl rfl) e,ih q⟩
 | oa ps=>
  have e:h.get? a=some {cls:= .none,data:= .fields ps}:=x;show h'.get? a=some {cls:= .none,data:= .fields ps};exact k a _ (.inl rfl) e
 | met f y=>
  have e:h.get? a=some (PySem.W.methodObj (.ref f)<|.ref y):=x;show h'.get? a=some (PySem.W.methodObj (.ref f)<|.ref y);exact k a _ (.inl rfl) e
 | ext φ=>obtain⟨p,⟨o,e⟩,st⟩:=x;exact⟨st _ _ p λo q=>k _ _ (.inl rfl) q,⟨o,k _ _ (.inl rfl) e⟩,st⟩
theorem cv.lt(x:cv P w H h)(e:H a=some o):a < h.objs.size:=(x a o e).lt
theorem cv.fresh(x:cv P w H h)(e:h.objs.size<=a):H a=none:=by
 cases q:H a with
 | none=>rfl
 | some u=>exact absurd (Bg (x.lt q) e)<|Ds _
theorem cv.kept(x:cv P w H h)(k:∀ b u,h.get? b=some u->h'.get? b=some u):cv P w H h':=λa o e=>
 (x a o e).iL (λb u _ q=>k b u q) (λ_ q=>q) λ_ _ q=>q
theorem cv.laid(x:cv P w H h)(k:∀ b u,h.get? b=some u->h'.get? b=some u)(hp:h.objs.size<=a)(new:aD P w (upd H a o) h' a o):cv P w (upd H a o) h':=λb u e=>by
 have hn:=x.fresh hp
 by_cases hb:b=a
 ·subst hb;rw [aw] at e;cases e;exact new
 ·rw [av hb] at e;exact(x b u e).iL (λc v _ q=>k c v q) (λc q=>by rw [av<|bg q hn];exact q) λc xs q=>by rw [av<|bg q hn];exact q
end
def Rd(H:Hp)(a:Addr)(u:HO):Prop:=H a=some u\/∃ o,H a=some (.bD o u)
theorem Rd.ok{P:Program}{w:World}{H:Hp}{h:Heap}{a:Addr}{u:HO}(r:Rd H a u)(x:cv P w H h):aD P w H h a u:=by
 rcases r with r | ⟨o,r⟩
 ·exact x a u r
 ·obtain⟨_,q⟩:=x a _ r;exact q
def sj:Option HO->Prop
 | some (.lst _)=>True
 | some (.dK _)=>True
 | some (.dT _)=>True
 | some (.set _ _)=>True
 | some (.ins _ _ _)=>True
 | some (.ext _)=>True
 | _=>False
section
variable{P:Program}{w:World}{H:Hp}{h h':Heap}{x e:Addr}{o':HO}
theorem cv.write(ok:cv P w H h)(mu:sj<|H x)(he:e=x\/H e=some (.own x))(k:∀ b u,b≠e->h.get? b=some u->h'.get? b=some u)(qz:∃ u,h'.get? e=some u)
  (new:aD P w (upd H x o') h' x o'):cv P w (upd H x o') h':=λb u q=>by
 have sk:∀ c y,H c=some (.own y)->c≠x:=λc y r z=>by subst z;rw [r] at mu;exact mu
 have yQ:∀ c xs,H c=some (.tup xs)->c≠x:=λc xs r z=>by subst z;rw [r] at mu;exact mu
 by_cases hb:b=x
 ·subst hb;rw [aw] at q;cases q;exact new
 ·rw [av hb] at q
  by_cases k6:b=e
  ·have q':H b=some (.own x):=by
    rcases he with z | z
    ·exact absurd (k6.trans z) hb
    ·rw [k6];exact z
   rw [q] at q';cases q';obtain⟨v,hv⟩:=qz;exact⟨v,by rw [k6];exact hv⟩
  ·refine(ok b u q).iL (λc v hc r=>k c v ?_ r) (λc r=>by rw [av<|sk c b r];exact r) λc xs r=>by rw [av<|yQ c xs r];exact r
   rcases hc with rfl | hc
   ·exact k6
   ·rintro rfl
    rcases he with z | z
    ·exact sk c b hc z
    ·rw [hc] at z;cases z;exact hb rfl
end
structure Un(fs ex:List Addr)(H H':Hp)(h h':Heap):Prop where
 keep:∀ b o,h.get? b=some o->H b=none->b∉fs->b∉ex->h'.get? b=some o
 slot:∀ b o,h.get? b=some o->H b=none->b∈fs->b∉ex->∃ sl,h'.get? b=some {o with slots:=sl}
 free:∀ b o,h.get? b=some o->H b=none->b∉ex->H' b=none
 there:∀ b o,h.get? b=some o->b∉ex->∃ o',h'.get? b=some o'
 fD:∀ b xs,H b=some (.tup xs)->H' b=some (.tup xs)
 eR:∀ b o u,H b=some (.bD o u)->H' b=some (.bD o u)
 fE:∀ b ps,H b=some (.oa ps)->∃ more,H' b=some (.oa<|ps++more)
section
variable{fs SZ ex Ki:List Addr}{H H1 H2:Hp}{h h1 h2 h':Heap}{a x e:Addr}{o:HO}
theorem Un.any(u:Un fs ex H H1 h h1){b:Addr}{ob:Obj}(q:h.get? b=some ob)(n:H b=none)(hx:b∉ex):∃ sl,h1.get? b=some {ob with slots:=sl}:=by
 by_cases hb:b∈fs
 ·exact u.slot b ob q n hb hx
 ·exact⟨ob.slots,u.keep b ob q n hb hx⟩
theorem Un.kept(k:∀ b u,h.get? b=some u->h'.get? b=some u):Un fs ex H H h h':=
 ⟨λb ob q _ _ _=>k b ob q,λb ob q _ _ _=>⟨ob.slots,k b ob q⟩,λ_ _ _ n _=>n,λb ob q _=>⟨ob,k b ob q⟩,λ_ _ q=>q,λ_ _ _ q=>q,λ_ ps q=>⟨#[],by rw [q];simp⟩⟩
theorem Un.refl:Un fs ex H H h h:=Un.kept λ_ _ q=>q
theorem Un.laid(k:∀ b u,h.get? b=some u->h'.get? b=some u)(hp:h.objs.size<=a)(hn:H a=none):Un fs ex H (upd H a o) h h' where
 keep:=λb u q _ _ _=>k b u q
 slot:=λb u q _ _ _=>⟨u.slots,k b u q⟩
 free:=λb u q n _=>by rw [av<|Bo<|Bg (Ay q) hp];exact n
 there:=λb u q _=>⟨u,k b u q⟩
 fD:=λb xs q=>by rw [av<|bg q hn];exact q
 eR:=λb u xs q=>by rw [av<|bg q hn];exact q
 fE:=λb ps q=>⟨#[],by rw [av<|bg q hn,q];simp⟩
theorem Un.write(mu:sj<|H x)(he:e=x\/H e=some (.own x))(k:∀ b u,b≠e->h.get? b=some u->h'.get? b=some u)(qz:∃ u,h'.get? e=some u):Un fs ex H (upd H x o) h h':=by
 have hx:∀ b,H b=none->b≠x:=λb n z=>by subst z;rw [n] at mu;exact mu
 have hb:∀ b,H b=none->b≠e:=λb n z=>by
  subst z
  rcases he with r | r
  ·exact hx b n r
  ·rw [n] at r;cases r
 have hm:∀ b u,H b=some u->¬ sj (some u)->b≠x:=λb u q nm z=>by subst z;rw [q] at mu;exact nm mu
 refine⟨λb u q n _ _=>k b u (hb b n) q,λb u q n _ _=>⟨u.slots,k b u (hb b n) q⟩,λb u q n _=>by rw [av<|hx b n];exact n,λb u q _=>?_,
  λb xs q=>by rw [av<|hm b _ q λz=>z];exact q,λb u xs q=>by rw [av<|hm b _ q λz=>z];exact q,λb ps q=>⟨#[],by rw [av<|hm b _ q λz=>z,q];simp⟩⟩
 by_cases k6:b=e
 ·subst k6;exact qz
 ·exact⟨u,k b u k6 q⟩
end
def we(h:Heap)(H:Hp):List Addr:=(List.range h.objs.size).filter λa=>(H a).isSome
def eS(h:Heap)(H:Hp):Heap:=PySem.W.hideAll h<|we h H
theorem S0(h:Heap)(H:Hp):(eS h H).objs.size=h.objs.size:=PySem.W.hideAll_size _ _
theorem S6{h:Heap}{H:Hp}{b:Addr}{o:Obj}(e:h.get? b=some o)(n:H b=none):(eS h H).get? b=some o:=
 PySem.W.hideAll_get _ e λhm=>by
  have q:(H b).isSome=true:=(Bh.mp hm).2;rw [n] at q;simp at q
theorem S7{h:Heap}{H:Hp}{b:Addr}{o:Obj}(e:(eS h H).get? b=some o):h.get? b=some o/\H b=none:=by
 have e':h.get? b=some o:=PySem.W.of_hideAll (we h H) e;refine⟨e',?_⟩;cases q:H b with
 | none=>rfl
 | some x=>
  have hm:b∈we h H:=Bh.mpr ⟨Br.mpr<|Ay e',by simp [q]⟩;have z:(eS h H).get? b=none:=PySem.W.hideAll_none (we h H) hm;rw [z] at e;cases e
structure Mod(K:PySem.W.Frag)(mg:Str->Option Value)(base:Heap):Prop where
 sn:K.In base
 glob:base.Ns mainGlobals mg
 blt:∃ mb,base.Ns builtinsNs mb/\∀ x:Str,x ≠ "__name__"->mb x=bootBuiltins x
 nolimit:base.NoLimit
structure Cx where
 prog:Program
 w:World
 K:PySem.W.Frag
 mg:Str->Option Value
 base:Heap
 A:Around
 N:List Str
 s₀:Shared
 H₀:Hp
 env:Env
 outer:List Env
 stack:List Env
 ex:List Addr
 fn:Str->Bool
 calm:Bool
 pn:List<|Addr×Obj
 xe:Value->Shared->Prop
def jf(l:List Env):List Addr:=l.filterMap (·.frame)
abbrev Cx.fs(X:Cx):List Addr:=jf X.outer
def yR(sc:Scope)(x:Str):Prop:=sc.names.lookup x=some .local\/sc.names.lookup x=some .cell\/sc.names.lookup x=some .free
def Loc(sc:Scope)(x:Str):Prop:=sc.names.lookup x=some .local\/sc.names.lookup x=some .cell
def Look(env:Env)(h:Heap)(m:Str->Option Value)(x:Str)(u:Value):Prop:=
 (env.kindOf x=some .local/\m x=some u)\/((env.kindOf x=some .cell\/env.kindOf x=some .free)/\∃ c,env.cells.lookup x=some c/\h.IsCell c (some u))
structure Cx.Ok(X:Cx):Prop where
 mod:Mod X.K X.mg X.base
 kind:X.env.scope.kind = .function
 glob:X.env.globals=mainGlobals
 blt:X.env.builtins=builtinsNs
 above:X.s₀.heap.objs.size<=X.env.locals
 inj:∀ x y c,X.env.cells.lookup x=some c->X.env.cells.lookup y=some c->x=y
 has:∀ x,(X.env.kindOf x=some .cell\/X.env.kindOf x=some .free)->∃ c,X.env.cells.lookup x=some c
 sq:∀ x c,X.fn x=true->X.env.cells.lookup x=some c->X.s₀.heap.objs.size<=c
 hd:X.calm=true->X.A.handled=none
 frames:X.A.frames=some X.stack
 wg:X.stack=X.outer\/(X.stack=X.env :: X.outer/\X.env.frame=some X.env.locals)
 Kj:∀ b∈X.ex,b≠X.env.locals/\∀ x c,X.env.cells.lookup x=some c->c≠b
 bs:∀ b o,X.base.get? b=some o->X.s₀.heap.get? b=some o/\X.H₀ b=none
 mO:X.base.objs.size<=X.s₀.heap.objs.size
 jF:∀ b o,X.base.get? b=some o->b∉X.ex
 k8:∀ b∈X.ex,b∉X.fs
 dz:X.s₀.heap.FunFrames X.base X.outer
 qA:∀ b∈X.fs,X.H₀ b=none
structure Inv(X:Cx)(pins:List<|Addr×Obj)(σ:List<|Option V)(H:Hp)(s:Shared):Prop where
 ok:X.Ok
 os:s.os=X.s₀.os
 bare:AllBare s.gens
 base:Un X.fs X.ex X.H₀ H X.s₀.heap s.heap
 loc:∃ m,s.heap.Ns X.env.locals m/\∀(i:Nat) (x:Str) (v:V),X.N[i]?=some x->σ[i]?=some (some v)->yR X.env.scope x->∃ u,RelV v u/\Look X.env s.heap m x u
 cell:∀ x c,X.env.cells.lookup x=some c->∃ v,s.heap.IsCell c v
 free:H X.env.locals=none
 cf:∀ x c,X.env.cells.lookup x=some c->H c=none
 pin:∀ p∈X.pn++pins,s.heap.get? p.1=some p.2/\H p.1=none/\p.1≠X.env.locals/\p.1∉X.fs/\∀ v,p.2.data ≠ .cell v
 aG:cv X.prog X.w H s.heap
 len:σ.length=X.N.length
section
variable{X:Cx}{pins:List (Addr×Obj)}{σ:List (Option V)}{H H':Hp}{s:Shared}{h':Heap}
theorem Cx.Ok.yS(ok:X.Ok){b:Addr}{o:Obj}(e:X.base.get? b=some o):b∉X.fs:=λhb=>by
 have:=(ok.dz.mem hb).1;rw [e] at this;cases this
theorem Inv.bs(I:Inv X pins σ H s):∀ b o,X.base.get? b=some o->s.heap.get? b=some o/\H b=none:=λb o e=>
 ⟨I.base.keep b o (I.ok.bs b o e).1 (I.ok.bs b o e).2 (I.ok.yS e)<|I.ok.jF b o e,I.base.free b o (I.ok.bs b o e).1 (I.ok.bs b o e).2<|I.ok.jF b o e⟩
theorem Inv.bk(I:Inv X pins σ H s):∀ b o,X.base.get? b=some o->s.heap.get? b=some o:=λb o e=>(I.bs b o e).1
theorem Inv.mod(I:Inv X pins σ H s):Mod X.K X.mg X.base:=I.ok.mod
theorem Inv.fG(I:Inv X pins σ H s):X.K.In s.heap:=I.ok.mod.sn.keeps I.bk
theorem Inv.lt(I:Inv X pins σ H s):X.env.locals < s.heap.objs.size:=let ⟨_,hn,_⟩:=I.loc;hn.lt
theorem Inv.sz(I:Inv X pins σ H s):X.s₀.heap.objs.size<=s.heap.objs.size:=Bs I.ok.above<|Co I.lt
theorem Inv.yT(I:Inv X pins σ H s){a:Addr}(h:s.heap.objs.size<=a):a∉X.fs:=λhb=>by
 obtain⟨_,o,ho,_⟩:=I.ok.dz.mem hb;exact absurd (Bg (Ay ho)<|Bs I.sz h)<|Ds _
theorem Inv.lg(I:Inv X pins σ H s):∀ x c,X.env.cells.lookup x=some c->c≠X.env.locals:=λx c e z=>by
 obtain⟨v,o,ho,hd⟩:=I.cell x c e;obtain⟨m,⟨o',es,ep,dt,oh,_⟩,_⟩:=I.loc;rw [z,dt] at ho;cases ho;rw [oh] at hd;cases hd
theorem Inv.dz(I:Inv X pins σ H s):s.heap.FunFrames X.base X.outer:=by
 have all:∀(l:List Env),(∀ b∈jf l,b∈X.fs)->X.s₀.heap.FunFrames X.base l->s.heap.FunFrames X.base l:=by
  intro l
  induction l with
  | nil=>intro _ _;trivial
  | cons env r ih=>
   intro hs hl;obtain⟨hk,⟨L,o,hf,hn,ho,hd⟩,hr⟩:=hl;have hL:L∈X.fs:=hs L (by unfold jf;rw [Dz,hf];exact Ae);obtain⟨sl,e⟩:=I.base.slot L o ho (I.ok.qA L hL) hL λz=>I.ok.k8 L z hL;exact⟨hk,⟨L,_,hf,hn,e,hd⟩,ih (λb hb=>hs b<|by unfold jf;rw [Dz,hf];exact Ai _ hb) hr⟩
 exact all X.outer (λ_ hb=>hb) I.ok.dz
theorem Inv.stack(I:Inv X pins σ H s):s.heap.FunFrames X.base X.stack:=by
 rcases I.ok.wg with e | ⟨e,hf⟩
 ·rw [e];exact I.dz
 ·rw [e];obtain⟨m,hn,_⟩:=I.loc;refine .cons (by rw [I.ok.kind];decide) hf hn ?_ I.dz;exact Heap.get?_none_of_le<|Bs I.ok.mO I.ok.above
theorem Inv.eU(I:Inv X pins σ H s):∀ b∈jf X.stack,b∈X.env.locals :: X.fs:=λb hb=>by
 rcases I.ok.wg with e | ⟨e,hf⟩
 ·rw [e] at hb;exact Ai _ hb
 ·rw [e] at hb;unfold jf at hb;rw [Dz,hf] at hb;exact hb
theorem Inv.hG(I:Inv X pins σ H s):∀ b∈jf X.stack,H b=none:=λb hb=>by
 rcases Ak.mp (I.eU b hb) with e | hb
 ·rw [e];exact I.free
 ·obtain⟨_,o,ho,_⟩:=I.ok.dz.mem hb;exact I.base.free b o ho (I.ok.qA b hb) λz=>I.ok.k8 b z hb
theorem Inv.step{g':Array GenState}{t':Nat}{d':Drawn}{ch:List Addr}(I:Inv X pins σ H s)
  (ku:∀ b∈ch,(b∈X.ex\/X.s₀.heap.objs.size<=b)/\b≠X.env.locals/\(∀ x c,X.env.cells.lookup x=some c->c≠b)/\∀ p∈X.pn++pins,p.1≠b)
  (keep:∀ b o,b≠X.env.locals->b∉X.fs->b∉ch->s.heap.get? b=some o->H b=none->h'.get? b=some o)
  (slot:∀ b o,b≠X.env.locals->b∈X.fs->b∉ch->s.heap.get? b=some o->H b=none->∃ sl,h'.get? b=some {o with slots:=sl}) (free:∀ b o,b∉ch->s.heap.get? b=some o->H b=none->H' b=none)
  (there:∀ b o,b∉ch->s.heap.get? b=some o->∃ o',h'.get? b=some o')
  (fD:∀ b xs,H b=some (.tup xs)->H' b=some (.tup xs)) (eR:∀ b o u,H b=some (.bD o u)->H' b=some (.bD o u)) (fE:∀ b ps,H b=some (.oa ps)->∃ more,H' b=some (.oa<|ps++more))
  (ns:∀ m,s.heap.Ns X.env.locals m->h'.Ns X.env.locals m) (aG:cv X.prog X.w H' h') (hg:AllBare g') :
  Inv X pins σ H' {s with heap:=h',gens:=g',drawn:=d',toks:=t'}:=by
 have Kk:∀ b o,X.s₀.heap.get? b=some o->b≠X.env.locals:=λb o e=>Bo<|Bg (Ay e) I.ok.above;have wj:∀ b o,X.s₀.heap.get? b=some o->b∉X.ex->b∉ch:=λb o e hx hb=>by
  rcases (ku b hb).1 with z | z
  ·exact hx z
  ·exact absurd (Bg (Ay e) z)<|Ds _
 have cellK:∀ x c,X.env.cells.lookup x=some c->∀ v,s.heap.IsCell c v->h'.IsCell c v:=λx c e v ⟨o,ho,hd⟩=>by
  have sr:c∉ch:=λz=>(ku c z).2.2.1 x c e rfl
  by_cases hc:c∈X.fs
  ·obtain⟨sl,q⟩:=slot c o (I.lg x c e) hc sr ho<|I.cf x c e;exact⟨_,q,hd⟩
  ·exact⟨o,keep c o (I.lg x c e) hc sr ho<|I.cf x c e,hd⟩
 refine⟨I.ok,I.os,hg,⟨λb o e n hb hx=>?_,λb o e n hb hx=>?_,λb o e n hx=>?_,λb o e hx=>?_,λb xs e=>fD b xs<|I.base.fD b xs e,λb o xs e=>eR b o xs<|I.base.eR b o xs e,λb ps e=>?_⟩,?_,λx c e=>?_,?_,λx c e=>?_,λp hp=>?_,aG,I.len⟩
 ·exact keep b o (Kk b o e) hb (wj b o e hx) (I.base.keep b o e n hb hx)<|I.base.free b o e n hx
 ·obtain⟨sl,e1⟩:=I.base.slot b o e n hb hx;obtain⟨S8,e2⟩:=slot b _ (Kk b o e) hb (wj b o e hx) e1<|I.base.free b o e n hx;exact⟨S8,e2⟩
 ·obtain⟨o',e1⟩:=I.base.there b o e hx;exact free b o' (wj b o e hx) e1<|I.base.free b o e n hx
 ·obtain⟨o',e1⟩:=I.base.there b o e hx;exact there b o' (wj b o e hx) e1
 ·obtain⟨m1,e1⟩:=I.base.fE b ps e;obtain⟨m2,e2⟩:=fE b _ e1;exact⟨m1++m2,by rw [e2,Array.append_assoc]⟩
 ·obtain⟨m,hn,hl⟩:=I.loc;refine⟨m,ns m hn,λi x v e1 e2 e3=>?_⟩;obtain⟨u,r,l⟩:=hl i x v e1 e2 e3;refine⟨u,r,?_⟩
  rcases l with l | ⟨k,c,e,z⟩
  ·exact .inl l
  ·exact .inr ⟨k,c,e,cellK x c e _ z⟩
 ·obtain⟨v,z⟩:=I.cell x c e;exact⟨v,cellK x c e v z⟩
 ·obtain⟨m,⟨o,_,_,ho,_⟩,_⟩:=I.loc;exact free _ o (λz=>(ku _ z).2.1 rfl) ho I.free
 ·obtain⟨v,o,ho,hd⟩:=I.cell x c e;exact free c o (λz=>(ku c z).2.2.1 x c e rfl) ho<|I.cf x c e
 ·obtain⟨e,n,ne,nf,d⟩:=I.pin p hp;have sr:p.1∉ch:=λz=>(ku p.1 z).2.2.2 p hp rfl;exact⟨keep p.1 p.2 ne nf sr e n,free p.1 p.2 sr e n,ne,nf,d⟩
theorem Inv.un{t':Nat}(I:Inv X pins σ H s)(u:Un X.fs [] H H' s.heap h')(aG:cv X.prog X.w H' h'):Inv X pins σ H' {s with heap:=h',toks:=t'}:=by
 obtain⟨m,⟨o,es,ep,ho,r⟩,_⟩:=id I.loc;obtain⟨sl,hL⟩:=u.any ho I.free (by simp);exact I.step (g':=s.gens) (d':=s.drawn) (ch:=[]) (λ_ z=>nomatch z) (λb o _ hb _ e n=>u.keep b o e n hb<|by simp) (λb o _ hb _ e n=>u.slot b o e n hb<|by simp) (λb o _ e n=>u.free b o e n<|by simp) (λb o _ e=>u.there b o e<|by simp) u.fD u.eR u.fE (λm' hm=>by
  obtain⟨o',eV,mP,dt,r'⟩:=hm;rw [ho] at dt;cases dt;exact⟨_,eV,mP,hL,r'⟩) aG I.bare
theorem Inv.call{g':Array GenState}{t':Nat}{d':Drawn}{ch:List Addr}(I:Inv X pins σ H s)(u:Un (jf X.stack) ch H H' s.heap h')(aG:cv X.prog X.w H' h')(hg:AllBare g')
  (ku:∀ b∈ch,(b∈X.ex\/X.s₀.heap.objs.size<=b)/\b≠X.env.locals/\(∀ x c,X.env.cells.lookup x=some c->c≠b)/\∀ p∈X.pn++pins,p.1≠b) :
  Inv X pins σ H' {s with heap:=h',gens:=g',drawn:=d',toks:=t'}:=by
 obtain⟨m,⟨o,es,ep,ho,r⟩,_⟩:=id I.loc;obtain⟨sl,hL⟩:=u.any ho I.free λz=>(ku _ z).2.1 rfl;exact I.step (ch:=ch) ku (λb o hL hb hc e n=>u.keep b o e n (λz=>(Ak.mp<|I.eU b z).elim hL hb) hc) (λb o _ _ hc e n=>u.any e n hc) (λb o hc e n=>u.free b o e n hc) (λb o hc e=>u.there b o e hc) u.fD u.eR u.fE (λm' hm=>by
  obtain⟨o',eV,mP,dt,r'⟩:=hm;rw [ho] at dt;cases dt;exact⟨_,eV,mP,hL,r'⟩) aG hg
theorem Inv.turned{t':Nat}{it:Addr}(I:Inv X pins σ H s)(k:∀ b o,b≠it->s.heap.get? b=some o->h'.get? b=some o)(hn:H it=none)(hL:it≠X.env.locals)
  (h1:it∈X.ex\/X.s₀.heap.objs.size<=it) (h2:∀ x c,X.env.cells.lookup x=some c->c≠it) (h3:∀ p∈X.pn++pins,p.1≠it):Inv X pins σ H {s with heap:=h',toks:=t'}:=by
 have su:∀ b u,H b=some u->b≠it:=λb u e z=>by rw [z,hn] at e;cases e
 refine I.step (g':=s.gens) (d':=s.drawn) (ch:=[it]) (λb hb=>?_) (λb o _ _ hc e _=>k b o (λz=>hc<|by simp [z]) e) (λb o _ _ hc e _=>⟨o.slots,k b o (λz=>hc<|by simp [z]) e⟩) (λ_ _ _ _ n=>n)
  (λb o hc e=>⟨o,k b o (λz=>hc<|by simp [z]) e⟩) (λ_ _ e=>e) (λ_ _ _ e=>e) (λb ps e=>⟨#[],by rw [e];simp⟩) (λm hm=>?_) (λb u e=>?_) I.bare
 ·have e:b=it:=by simpa using hb
  subst e;exact⟨h1,hL,h2,h3⟩
 ·obtain⟨o,es,ep,ho,r⟩:=hm;exact⟨o,es,ep,k _ o (CG hL) ho,r⟩
 ·refine(I.aG b u e).iL (λc v hc q=>k c v ?_ q) (λ_ q=>q) λ_ _ q=>q
  rcases hc with z | z
  ·rw [z];exact su b u e
  ·exact su c _ z
theorem Inv.tok(I:Inv X pins σ H s)(t:Nat):Inv X pins σ H {s with toks:=t}:=I.un (h':=s.heap) (t':=t) Un.refl I.aG
theorem Inv.kept{t':Nat}(I:Inv X pins σ H s)(k:∀ b u,s.heap.get? b=some u->h'.get? b=some u):Inv X pins σ H {s with heap:=h',toks:=t'}:=I.un (Un.kept k)<|I.aG.kept k
theorem Inv.laid{a:Addr}{o:HO}{t':Nat}(I:Inv X pins σ H s)(k:∀ b u,s.heap.get? b=some u->h'.get? b=some u)(hp:s.heap.objs.size<=a)(new:aD X.prog X.w (upd H a o) h' a o) :
  Inv X pins σ (upd H a o) {s with heap:=h',toks:=t'}:=I.un (Un.laid k hp<|I.aG.fresh hp)<|I.aG.laid k hp new
theorem Inv.write{x e:Addr}{o:HO}{t':Nat}(I:Inv X pins σ H s)(mu:sj<|H x)(he:e=x\/H e=some (.own x))(k:∀ b u,b≠e->s.heap.get? b=some u->h'.get? b=some u)(qz:∃ u,h'.get? e=some u)
  (new:aD X.prog X.w (upd H x o) h' x o):Inv X pins σ (upd H x o) {s with heap:=h',toks:=t'}:=I.un (Un.write mu he k qz)<|I.aG.write mu he k qz new
theorem Inv.hU{mQ:List (Addr×Obj)}(I:Inv X pins σ H s)(h:∀ p∈mQ,s.heap.get? p.1=some p.2/\H p.1=none/\p.1≠X.env.locals/\p.1∉X.fs/\∀ v,p.2.data ≠ .cell v):Inv X mQ σ H s:=
 ⟨I.ok,I.os,I.bare,I.base,I.loc,I.cell,I.free,I.cf,λp hp=>(Am.mp hp).elim (λz=>I.pin p<|Ba _ z)<|h p,I.aG,I.len⟩
theorem Kl{N:List Str}(hN:N.Nodup){i j:Nat}{x:Str}(a:N[i]?=some x)(b:N[j]?=some x):i=j:=by
 obtain⟨h1,e1⟩:=Ac.mp a;obtain⟨h2,e2⟩:=Ac.mp b;exact(Gd hN).mp<|e1.trans e2.symm
theorem S9{M:Model}{A:Around}{E:Value->Shared->Prop}{i:Nat}{x:Str}{v:V}{u:Value}{Q:Unit->Shared->Prop}(I:Inv X pins σ H s)(hN:X.N.Nodup)(hi:X.N[i]?=some x)(hx:Loc X.env.scope x)(r:RelV v u)
  (h:∀ s',Inv X pins (σ.set i<|some v) H s'->(∃ a,Heap.SameBut a s.heap s'.heap/\(a=X.env.locals\/X.env.cells.lookup x=some a))->Q () s') (hf:X.fn x=true\/X.env.scope.names.lookup x=some .local:=by first | exact .inl rfl | exact .inr rfl | assumption):wpAny M A (storeName X.env x u) Q E s:=by
 obtain⟨m,hn,hl⟩:=id I.loc;have yU:(X.env.scope.kind == .class || (X.env.scope.kind == .module && X.env.locals != X.env.globals))=false:=by rw [I.ok.kind];rfl
 have hiσ:i < σ.length:=by rw [I.len];exact(Ac.mp hi).1
 have lg:=I.lg;have tracked:∀{a:Addr} {h':Heap},(∃ o,s.heap.get? a=some o/\H a=none)->Heap.SameBut a s.heap h'->cv X.prog X.w H h':=λ{a h'} ha hs b ob e=>by
  obtain⟨_,_,mR⟩:=ha;refine(I.aG b ob e).iL (λc w' hc q=>(hs.2 c ?_).trans q) (λ_ q=>q) λ_ _ q=>q;rintro rfl
  rcases hc with rfl | hc
  ·rw [mR] at e;cases e
  ·rw [mR] at hc;cases hc
 rcases hx with hk | hk
 ·refine wpAny_storeName_local hk hn (λh' wm hs=>?_) yU;obtain⟨oL,_,_,jG,_⟩:=id hn;refine h _ ⟨I.ok,I.os,I.bare,⟨λb o e n hb hx=>?_,λb o e n hb hx=>?_,I.base.free,λb o e hx=>?_,I.base.fD,I.base.eR,I.base.fE⟩,⟨_,wm,λj y v' e1 e2 e3=>?_⟩,λy c e=>?_,I.free,I.cf,λp hp=>?_,tracked ⟨oL,jG,I.free⟩ hs,by simpa using I.len⟩ ⟨_,hs,.inl rfl⟩
  ·exact(hs.2 b<|Bo<|Bg (Ay e) I.ok.above).trans<|I.base.keep b o e n hb hx
  ·obtain⟨sl,e1⟩:=I.base.slot b o e n hb hx;exact⟨sl,(hs.2 b<|Bo<|Bg (Ay e) I.ok.above).trans e1⟩
  ·obtain⟨o',e1⟩:=I.base.there b o e hx;exact⟨o',(hs.2 b<|Bo<|Bg (Ay e) I.ok.above).trans e1⟩
  ·by_cases hj:j=i
   ·subst hj;rw [hi] at e1;cases e1;rw [SM hiσ] at e2;cases e2;exact⟨u,r,.inl ⟨hk,by simp⟩⟩
   ·rw [List.getElem?_set_ne<|CG hj] at e2;obtain⟨u',r',q⟩:=hl j y v' e1 e2 e3;refine⟨u',r',?_⟩
    rcases q with ⟨k,e⟩ | ⟨k,c,e,z⟩
    ·refine .inl ⟨k,?_⟩;have:y≠x:=λe=>hj<|Kl hN e1<|e ▸ hi;simp [this,e]
    ·exact .inr ⟨k,c,e,z.sameBut hs<|lg y c e⟩
  ·obtain⟨w',z⟩:=I.cell y c e;exact⟨w',z.sameBut hs<|lg y c e⟩
  ·obtain⟨e,n,ne,nf,d⟩:=I.pin p hp;exact⟨(hs.2 p.1 ne).trans e,n,ne,nf,d⟩
 ·have yV:X.fn x=true:=by
   rcases hf with z | z
   ·exact z
   ·rw [z] at hk;cases hk
  obtain⟨c,hc⟩:=I.ok.has x<|.inl hk;obtain⟨w',z⟩:=I.cell x c hc;refine wpAny_storeName_cell I.ok.kind hk hc z λh' bP hs=>?_;obtain⟨oc,Km,yW⟩:=id z;refine h {s with heap:=h'} ⟨I.ok,I.os,I.bare,⟨λb o e n hb hx=>?_,λb o e n hb hx=>?_,I.base.free,λb o e hx=>?_,I.base.fD,I.base.eR,I.base.fE⟩,⟨m,hn.sameBut hs<|CG<|lg x c hc,λj y v' e1 e2 e3=>?_⟩,λy c' e=>?_,I.free,I.cf,λp hp=>?_,tracked ⟨oc,Km,I.cf x c hc⟩ hs,by simpa using I.len⟩ ⟨c,hs,.inr hc⟩
  ·exact(hs.2 b<|Bo<|Bg (Ay e)<|I.ok.sq x c yV hc).trans<|I.base.keep b o e n hb hx
  ·obtain⟨sl,e1⟩:=I.base.slot b o e n hb hx;exact⟨sl,(hs.2 b<|Bo<|Bg (Ay e)<|I.ok.sq x c yV hc).trans e1⟩
  ·obtain⟨o',e1⟩:=I.base.there b o e hx;exact⟨o',(hs.2 b<|Bo<|Bg (Ay e)<|I.ok.sq x c yV hc).trans e1⟩
  ·by_cases hj:j=i
   ·subst hj;rw [hi] at e1;cases e1;rw [SM hiσ] at e2;cases e2;exact⟨u,r,.inr ⟨.inl hk,c,hc,bP⟩⟩
   ·rw [List.getElem?_set_ne<|CG hj] at e2;obtain⟨u',r',q⟩:=hl j y v' e1 e2 e3;refine⟨u',r',?_⟩
    rcases q with q | ⟨k,c',e,z'⟩
    ·exact .inl q
    ·refine .inr ⟨k,c',e,z'.sameBut hs ?_⟩;rintro rfl;exact hj<|Kl hN e1<|I.ok.inj _ _ _ e hc ▸ hi
  ·by_cases hV:c'=c
   ·subst hV;exact⟨_,bP⟩
   ·obtain⟨w2,z2⟩:=I.cell y c' e;exact⟨w2,z2.sameBut hs hV⟩
  ·obtain⟨e,n,ne,nf,d⟩:=I.pin p hp;refine⟨(hs.2 p.1 ?_).trans e,n,ne,nf,d⟩;intro q;rw [q,Km] at e;have q':oc=p.2:=Option.some.inj e;exact d w'<|by rw [<- q'];exact yW
theorem Kn{M:Model}{A:Around}{E:Value->Shared->Prop}{i:Nat}{x:Str}{v:V}{u:Value}{Q:Unit->Shared->Prop}(I:Inv X pins σ H s)(hN:X.N.Nodup)(hi:X.N[i]?=some x)(hx:Loc X.env.scope x)(r:RelV v u)
  (h:∀ s',Inv X pins (σ.set i<|some v) H s'->Q () s') (hf:X.fn x=true\/X.env.scope.names.lookup x=some .local:=by first | exact .inl rfl | exact .inr rfl | assumption):wpAny M A (storeName X.env x u) Q E s:=
 S9 I hN hi hx r (λs' I' _=>h s' I') hf
theorem Inv.call'{s':Shared}{ch:List Addr}(I:Inv X pins σ H s)(ho:s'.os=s.os)(u:Un (jf X.stack) ch H H' s.heap s'.heap)(aG:cv X.prog X.w H' s'.heap)(hg:AllBare s'.gens)
  (ku:∀ b∈ch,(b∈X.ex\/X.s₀.heap.objs.size<=b)/\b≠X.env.locals/\(∀ x c,X.env.cells.lookup x=some c->c≠b)/\∀ p∈X.pn++pins,p.1≠b):Inv X pins σ H' s':=by
 obtain⟨h',g',d',t',o'⟩:=s';have e:o'=s.os:=ho;subst e;exact I.call (g':=g') (t':=t') (d':=d') u aG hg ku
end
abbrev XK:=Value->Option Addr->Hp->Prop
abbrev St:=List<|Option V
abbrev VK:=V->Hp->Prop
abbrev TE:=St->Hp->VK->Prop
abbrev TT:=St->Hp->(Bool->Hp->Prop)->Prop
abbrev TA:=St->Hp->(List V->Hp->Prop)->Prop
structure Ends where
 nx:St->Hp->Prop
 rt:VK
 bk:St->Hp->Prop:=λ_ _=>False
 ct:St->Hp->Prop:=λ_ _=>False
abbrev TS:=Ends->St->Hp->Prop
def EP(X:Cx)(pins:List<|Addr×Obj)(σ:St)(Q:VK)(u:Value)(s':Shared):Prop:=∃ v H',Inv X pins σ H' s'/\RelV v u/\Q v H'
def TP(X:Cx)(pins:List<|Addr×Obj)(σ:St)(Q:Bool->Hp->Prop)(b:Bool)(s':Shared):Prop:=∃ H',Inv X pins σ H' s'/\Q b H'
def AP(X:Cx)(pins:List<|Addr×Obj)(σ:St)(Q:List V->Hp->Prop)(us:List Value)(s':Shared):Prop:=∃ vs H',Inv X pins σ H' s'/\az vs us/\Q vs H'
def SP(X:Cx)(pins:List<|Addr×Obj)(D:Ends)(f:Flow)(s':Shared):Prop:=
 match f with
 | .next=>∃ σ' H',Inv X pins σ' H' s'/\D.nx σ' H'
 | .brk=>∃ σ' H',Inv X pins σ' H' s'/\D.bk σ' H'
 | .cont=>∃ σ' H',Inv X pins σ' H' s'/\D.ct σ' H'
 | .ret u=>∃ v σ' H',Inv X pins σ' H' s'/\RelV v u/\D.rt v H'
def PE(X:Cx)(e:Expr)(t:TE):Prop:=
 ∀(pins:List<|Addr×Obj) (s:Shared) (σ:St) (H:Hp) (Q:VK),Inv X pins σ H s->t σ H Q->wpAny (model X.prog X.w) X.A (eval e X.env) (EP X pins σ Q) X.xe s
def PT(X:Cx)(e:Expr)(t:TT):Prop:=
 ∀(pins:List<|Addr×Obj) (s:Shared) (σ:St) (H:Hp) (Q:Bool->Hp->Prop),Inv X pins σ H s->t σ H Q->wpAny (model X.prog X.w) X.A (isTrue e X.env<|eval e X.env) (TP X pins σ Q) X.xe s
def PW(X:Cx)(e:Expr)(t:TT):Prop:=
 ∀(whole:Sem Value) (pins:List<|Addr×Obj) (s:Shared) (σ:St) (H:Hp) (Q:Bool->Hp->Prop),Inv X pins σ H s->t σ H Q->wpAny (model X.prog X.w) X.A (isTrue e X.env whole) (TP X pins σ Q) X.xe s
def PA(X:Cx)(es:List Expr)(t:TA):Prop:=
 ∀(pos:Pos) (pins:List<|Addr×Obj) (s:Shared) (σ:St) (H:Hp) (Q:List V->Hp->Prop),Inv X pins σ H s->t σ H Q->wpAny (model X.prog X.w) X.A (spliced<|backTo pos<|starEach es X.env) (AP X pins σ Q) X.xe s
def PS(X:Cx)(st:Stmt)(t:TS):Prop:=
 ∀(pins:List<|Addr×Obj) (s:Shared) (σ:St) (H:Hp) (D:Ends),Inv X pins σ H s->t D σ H->wpAny (model X.prog X.w) X.A (exec st X.env) (SP X pins D) X.xe s
def iM(X:Cx)(st:List Stmt)(t:TS):Prop:=
 ∀(pins:List<|Addr×Obj) (s:Shared) (σ:St) (H:Hp) (D:Ends),Inv X pins σ H s->t D σ H->wpAny (model X.prog X.w) X.A (execs st X.env) (SP X pins D) X.xe s
theorem aQ{α:Type}{t:Sem α}{Q Q':α->Shared->Prop}{M:Model}{A:Around}{E:Value->Shared->Prop}{s:Shared}(h:wpAny M A t Q E s)(hQ:∀ a s,Q a s->Q' a s):wpAny M A t Q' E s:=CW h hQ λ_ _ x=>x
section
variable{X:Cx}
theorem bin{a b:Expr}{ta tb:TE}(ha:PE X a ta)(hb:PE X b tb){pins:List (Addr×Obj)}{s:Shared}{σ:St}{H:Hp}{R:V->V->Hp->Prop}(I:Inv X pins σ H s)(h:ta σ H λx H1=>tb σ H1 λy H2=>R x y H2)
  {α:Type} {Q:α->Shared->Prop} {f:Value->Value->Sem α}
  (hf:∀ v u s2 x y H2,Inv X pins σ H2 s2->RelV x v->RelV y u->R x y H2->wpAny (model X.prog X.w) X.A (f v u) Q X.xe s2) :
  wpAny (model X.prog X.w) X.A (eval a X.env) (λv s₁=>wpAny (model X.prog X.w) X.A (eval b X.env) (λu s₂=>wpAny (model X.prog X.w) X.A (f v u) Q X.xe s₂) X.xe s₁) X.xe s:=by
 refine aQ (ha pins s σ H _ I h) λv s1 ⟨x,H1,I1,r1,q1⟩=>?_;refine aQ (hb pins s1 σ H1 _ I1 q1) λu s2 ⟨y,H2,I2,r2,q2⟩=>?_;exact hf v u s2 x y H2 I2 r1 r2 q2
def yX(i:Nat):TE:=λσ H Q=>∃ v,σ[i]?=some (some v)/\Q v H
def tC(v:V):TE:=λ_ H Q=>Q v H
theorem Ta{i:Nat}{x:Str}{pos:Pos}(hN:X.N[i]?=some x)(hv:yR X.env.scope x)(hd:(x == ("__debug__" : Str))=false:=by decide)(jg:(x == ("__classdict__" : Str))=false:=by decide):PE X (.Name x pos) (yX i):=by
 intro pins s σ H Q I h;obtain⟨v,e,h⟩:=h;obtain⟨m,hn,hl⟩:=I.loc;obtain⟨u,r,l⟩:=hl i x v hN e hv;have fin:EP X pins σ Q u s:=⟨v,H,I,r,h⟩
 rcases l with ⟨hk,hm⟩ | ⟨hk,c,hc,ia⟩
 ·exact wpAny_Name (wpAny_loadName_local I.ok.kind hk hn hm fin) hd
 ·rcases hk with hk | hk
  ·exact wpAny_Name (wpAny_loadName_cell I.ok.kind hk hc ia fin) hd
  ·exact wpAny_Name (wpAny_loadName_free I.ok.kind hk hc ia fin jg) hd
theorem Tc{i j pos}:PE X (.Constant (.int i) j pos) (tC<|.int i):=λ_ _ _ H _ I h=>wpAny_Constant_int ⟨.int i,H,I.tok _,⟨_,rfl⟩,h⟩
theorem Td{b j pos}:PE X (.Constant (.bool b) j pos) (tC<|.bl b):=λ_ _ _ H _ I h=>Constant_bool ⟨.bl b,H,I,rfl,h⟩
theorem Te{j pos}:PE X (.Constant .none j pos) (tC .non):=λ_ _ _ H _ I h=>Constant_none ⟨.non,H,I,rfl,h⟩
theorem Tg{x j pos}:PE X (.Constant (.str x) j pos) (tC<|.str x):=λ_ _ _ H _ I h=>Calls.Constant_str ⟨.str x,H,I.tok _,⟨_,rfl⟩,h⟩
def Gl(X:Cx)(x:Str):Prop:=X.env.kindOf x=some .globalImplicit
theorem Ti{E:Value->Shared->Prop}{pins:List (Addr×Obj)}{s:Shared}{σ:St}{H:Hp}{x:Str}{u:Value}{pos:Pos}{Q:Value->Shared->Prop}(I:Inv X pins σ H s)(hg:Gl X x)(hm:X.mg x=some u)(h:Q u s)
  (hd:(x == ("__debug__" : Str))=false:=by decide):wpAny (model X.prog X.w) X.A (eval (.Name x pos) X.env) Q E s:=
 Calls.Name_function_global I.ok.kind hg (Calls.loadGlobal_global (by rw [I.ok.glob];exact I.mod.glob.keeps I.bk) hm h) hd
theorem oi{E:Value->Shared->Prop}{pins:List (Addr×Obj)}{s:Shared}{σ:St}{H:Hp}{x:Str}{u:Value}{pos:Pos}{Q:Value->Shared->Prop}(I:Inv X pins σ H s)(hg:Gl X x)(hm:X.mg x=none)(hv:bootBuiltins x=some u)(h:Q u s)
  (hn:x ≠ "__name__":=by decide) (hd:(x == ("__debug__" : Str))=false:=by decide):wpAny (model X.prog X.w) X.A (eval (.Name x pos) X.env) Q E s:=by
 obtain⟨mb,h1,h2⟩:=I.mod.blt;exact Calls.Name_function_global I.ok.kind hg (Calls.loadGlobal_builtin (by rw [I.ok.glob];exact I.mod.glob.keeps I.bk) hm (by rw [I.ok.blt];exact h1.keeps I.bk) ((h2 x hn).trans hv) h) hd
theorem Tj{x:Str}{v:V}{u:Value}{pos:Pos}(hg:Gl X x)(hm:X.mg x=none)(hv:bootBuiltins x=some u)(r:RelV v u)(hn:x ≠ "__name__":=by decide)(hd:(x == ("__debug__" : Str))=false:=by decide):PE X (.Name x pos) (tC v):=
 λ_ _ _ H _ I h=>oi I hg hm hv ⟨v,H,I,r,h⟩ hn hd
variable{a b:Expr}{ta tb:TE}{pos:Pos}
def PC(X:Cx)(op:CmpOp)(a b:Expr)(t:TE):Prop:=
 ∀(pins:List<|Addr×Obj) (s:Shared) (σ:St) (H:Hp) (Q:VK),Inv X pins σ H s->t σ H Q ->
  wpAny (model X.prog X.w) X.A (eval a X.env) (λv s₁=>wpAny (model X.prog X.w) X.A (eval b X.env) (λu s₂=>wpAny (model X.prog X.w) X.A (compareOp op v u) (EP X pins σ Q) X.xe s₂) X.xe s₁) X.xe s
def tB(t:TE):TT:=λσ H Q=>t σ H λx H1=>∃ c,x = .bl c/\Q c H1
theorem Ko{op:CmpOp}{t:TE}(h:PC X op a b t)(h1:behindInMarks op b=false:=by first | exact sv _ (by decide) (by decide) | rfl):PT X (.Compare a [op] [b] pos) (tB t):=by
 intro pins s σ H Q I hw;refine wpAny_isTrue_Compare1 (aQ (h pins s σ H _ I hw) λv s1 h1=>aQ h1 λu s2 h2=>aQ h2 λc s3 ⟨x,H1,I1,r1,q1⟩=>?_) h1;obtain⟨d,rfl,q⟩:=q1;cases r1;exact FQ ⟨H1,I1,q⟩
theorem Tl{e:Expr}{t:TE}(h:PE X e t)(he:∀ whole,isTrue e X.env whole=(do let v <- whole;standAt e.pos;holding [v] (truthy v)):=by intro _;rfl):PT X e (tB t):=by
 intro pins s σ H Q I hw;refine isTrue_plain (aQ (h pins s σ H _ I hw) λv s1 ⟨x,H1,I1,r1,q1⟩=>?_)<|he _;obtain⟨d,rfl,q⟩:=q1;cases r1;exact FQ ⟨H1,I1,q⟩
variable{tA wn:TT}{rest:List Expr}
def yY(t u:TT):TT:=λσ H Q=>t σ H λc H1=>if c=true then u σ H1 Q else Q false H1
def To(t u:TT):TT:=λσ H Q=>t σ H λc H1=>if c=true then Q true H1 else u σ H1 Q
def yZ(t:TT):TT:=λσ H Q=>t σ H λc H1=>Q (!c) H1
theorem Tq(ha:PT X a tA):PW X (.BoolOp .And [a] pos) tA:=by
 intro wh pins s σ H Q I h;refine isTrue_and<|aQ (ha pins s σ H Q I h) λc s1 e=>?_;cases c with
 | true=>exact isTrue_and_nil e
 | false=>exact e
theorem Tr(ha:PT X a tA):PW X (.BoolOp .Or [a] pos) tA:=by
 intro wh pins s σ H Q I h;refine isTrue_or<|aQ (ha pins s σ H Q I h) λc s1 e=>?_;cases c with
 | false=>exact isTrue_or_nil e
 | true=>exact e
theorem Ts(ha:PT X a tA)(hb:PW X (.BoolOp .And (b :: rest) pos) wn):PW X (.BoolOp .And (a :: b :: rest) pos) (yY tA wn):=by
 intro wh pins s σ H Q I h;refine isTrue_and<|aQ (ha pins s σ H _ I h) λc s1 ⟨H1,I1,q1⟩=>?_;cases c with
 | true=>exact hb wh pins s1 σ H1 Q I1 q1
 | false=>exact⟨H1,I1,q1⟩
theorem Tv(ha:PT X a tA)(hb:PW X (.BoolOp .Or (b :: rest) pos) wn):PW X (.BoolOp .Or (a :: b :: rest) pos) (To tA wn):=by
 intro wh pins s σ H Q I h;refine isTrue_or<|aQ (ha pins s σ H _ I h) λc s1 ⟨H1,I1,q1⟩=>?_;cases c with
 | true=>exact⟨H1,I1,q1⟩
 | false=>exact hb wh pins s1 σ H1 Q I1 q1
theorem Tw(ha:PT X a tA):PT X (.UnaryOp .Not a pos) (yZ tA):=by
 intro pins s σ H Q I h;exact isTrue_not<|ha pins s σ H (λc H1=>Q (!c) H1) I h
def Tx(ta tb:TE):TE:=λσ H Q=>ta σ H λx H1=>∃ c,x = .bl c/\if c=true then tb σ H1 Q else Q (.bl false) H1
theorem Tz{op}{t:TE}(h:PE X a t):PE X (.BoolOp op [a] pos) t:=λpins s σ H Q I hw=>BoolOp_one<|h pins s σ H Q I hw
theorem TB(ha:PE X a ta)(hb:PE X (.BoolOp .And (b :: rest) pos) tb):PE X (.BoolOp .And (a :: b :: rest) pos) (Tx ta tb):=by
 intro pins s σ H Q I h;refine BoolOp_and<|aQ (ha pins s σ H _ I h) λv s1 ⟨x,H1,I1,r1,q1⟩=>?_;obtain⟨c,rfl,q1⟩:=q1;cases r1;refine FQ ?_;cases c with
 | true=>exact hb pins s1 σ H1 Q I1 q1
 | false=>exact⟨.bl false,H1,I1,rfl,q1⟩
end
def aq(K:PySem.W.Frag)(H:Hp)(a:Addr)(xs:List V):Prop:=
 Rd H a (.lst xs) \/
  ∃(o:Obj) (its:Array Value) (n:Nat),K.lookup a=some o/\o.cls = .type "list"/\o.dict=none/\o.data = .seq its n/\its.size<=sizeLine/\az xs its.toList
def aJ(K:PySem.W.Frag)(H:Hp)(a:Addr)(xs:List V):Prop:=
 Rd H a (.tup xs) \/
  ∃(o:Obj) (its:Array Value) (n:Nat),K.lookup a=some o/\o.cls = .type "tuple"/\o.data = .seq its n/\its.size<=sizeLine/\az xs its.toList
def y4:Value->Option V
 | .none=>some .non
 | .bool b=>some<|.bl b
 | .int i _=>some<|.int i
 | .str x _=>some<|.str x
 | .bytes b _=>some<|.iK b
 | .float b _=>some<|.qw b
 | .ref a=>some<|.ref a
 | .type n=>some<|.ty n
 | _=>none
theorem RelV.abs{x:V}{u:Value}(r:RelV x u):y4 u=some x:=by
 cases x with
 | non=>cases r;rfl
 | bl _=>cases r;rfl
 | int _=>obtain⟨t,rfl⟩:=r;rfl
 | str _=>obtain⟨t,rfl⟩:=r;rfl
 | iK _=>obtain⟨t,rfl⟩:=r;rfl
 | qw _=>obtain⟨t,rfl⟩:=r;rfl
 | ref _=>cases r;rfl
 | ty _=>cases r;rfl
theorem RelV.inj{x y:V}{u:Value}(r:RelV x u)(q:RelV y u):x=y:=Option.some.inj<|r.abs.symm.trans q.abs
theorem az.inj:∀{xs ys:List V} {us:List Value},az xs us->az ys us->xs=ys
 | _,_,_,.nil,.nil=>rfl
 | _,_,_,.cons r t,.cons r' t'=>by rw [r.inj r',az.inj t t']
section
variable{X:Cx}{pins:List (Addr×Obj)}{σ:St}{H:Hp}{s:Shared}{a:Addr}{xs ys:List V}
theorem aq.of{K:PySem.W.Frag}(h:H a=some (.lst xs)):aq K H a xs:= .inl<|.inl h
theorem aJ.of{K:PySem.W.Frag}(h:H a=some (.tup xs)):aJ K H a xs:= .inl<|.inl h
theorem Inv.list(I:Inv X pins σ H s)(h:aq X.K H a xs):∃ its:List Value,az xs its/\PlainL s.heap a its.toArray/\xs.length<=sizeLine:=by
 rcases h with h | ⟨o,its,n,hk,hc,hd,hs,hz,r⟩
 ·obtain⟨z,its,n,r,e⟩:=h.ok I.aG;exact⟨its,r,⟨_,n,e,rfl,rfl,rfl⟩,z⟩
 ·refine⟨its.toList,r,⟨o,n,I.fG a o hk,hc,hd,by simpa using hs⟩,?_⟩;have e:=r.length;simp only [Bm] at e;omega
theorem Inv.tuple(I:Inv X pins σ H s)(h:aJ X.K H a xs):∃ its:List Value,az xs its/\IsTup s.heap a its.toArray/\xs.length<=sizeLine:=by
 rcases h with h | ⟨o,its,n,hk,hc,hs,hz,r⟩
 ·obtain⟨z,its,r,p⟩:=h.ok I.aG;exact⟨its,r,p,z⟩
 ·refine⟨its.toList,r,⟨o,I.fG a o hk,hc,n,by simpa using hs⟩,?_⟩;have e:=r.length;simp only [Bm] at e;omega
theorem Inv.dA(I:Inv X pins σ H s)(h:aq X.K H a xs)(h':aq X.K H a ys):xs=ys:=by
 obtain⟨its,r,⟨o,n,e,_,_,d⟩,_⟩:=I.list h;obtain⟨its',r',⟨o',n',e',_,_,d'⟩,_⟩:=I.list h';rw [e] at e';cases e';rw [d] at d'
 injection d' with d1 _
 have:its=its':=by simpa using BZ Array.toList d1
 subst this;exact r.inj r'
theorem Inv.iN(I:Inv X pins σ H s)(h:aJ X.K H a xs)(h':aJ X.K H a ys):xs=ys:=by
 obtain⟨its,r,⟨o,e,_,n,d⟩,_⟩:=I.tuple h;obtain⟨its',r',⟨o',e',_,n',d'⟩,_⟩:=I.tuple h';rw [e] at e';cases e';rw [d] at d'
 injection d' with d1 _
 have:its=its':=by simpa using BZ Array.toList d1
 subst this;exact r.inj r'
end
abbrev Cx.dS(X:Cx)(E:Value->Shared->Prop):Cx:={X with xe:=E}
abbrev Cx.qB(X:Cx):Cx:=X.dS λ_ _=>False
theorem Cx.Ok.dS{X:Cx}(ok:X.Ok)(E:Value->Shared->Prop):(X.dS E).Ok:=
 ⟨ok.mod,ok.kind,ok.glob,ok.blt,ok.above,ok.inj,ok.has,ok.sq,ok.hd,ok.frames,ok.wg,ok.Kj,ok.bs,ok.mO,ok.jF,ok.k8,ok.dz,ok.qA⟩
theorem Cx.Ok.cg{X:Cx}{E:Value->Shared->Prop}(ok:(X.dS E).Ok):X.Ok:=
 ⟨ok.mod,ok.kind,ok.glob,ok.blt,ok.above,ok.inj,ok.has,ok.sq,ok.hd,ok.frames,ok.wg,ok.Kj,ok.bs,ok.mO,ok.jF,ok.k8,ok.dz,ok.qA⟩
section
variable{X:Cx}{pins:List (Addr×Obj)}{σ:St}{H:Hp}{s:Shared}{E:Value->Shared->Prop}
theorem Inv.dS(I:Inv X pins σ H s)(E:Value->Shared->Prop):Inv (X.dS E) pins σ H s:=⟨I.ok.dS E,I.os,I.bare,I.base,I.loc,I.cell,I.free,I.cf,I.pin,I.aG,I.len⟩
theorem Inv.cg(I:Inv (X.dS E) pins σ H s):Inv X pins σ H s:=⟨I.ok.cg,I.os,I.bare,I.base,I.loc,I.cell,I.free,I.cf,I.pin,I.aG,I.len⟩
theorem SP.cg{D:Ends}{f:Flow}{s':Shared}(h:SP (X.dS E) pins D f s'):SP X pins D f s':=by
 cases f with
 | next=>obtain⟨σ',H',I,q⟩:=h;exact⟨σ',H',I.cg,q⟩
 | brk=>obtain⟨σ',H',I,q⟩:=h;exact⟨σ',H',I.cg,q⟩
 | cont=>obtain⟨σ',H',I,q⟩:=h;exact⟨σ',H',I.cg,q⟩
 | ret u=>obtain⟨v,σ',H',I,r,q⟩:=h;exact⟨v,σ',H',I.cg,r,q⟩
theorem iM.qB{st:List Stmt}{t:TS}(h:iM X.qB st t):iM X st t:=λpins s σ H D I hw=>
 CW (h pins s σ H D (I.dS _) hw) (λ_ _ q=>q.cg) λ_ _ z=>False.elim z
end
section
variable{X:Cx}{st:Stmt}{rest:List Stmt}{t u:TS}{e:Expr}{te:TE}{pos:Pos}
def TC:TS:=λD σ H=>D.nx σ H
def y7(t u:TS):TS:=λD σ H=>t {D with nx:=u D} σ H
theorem TD:iM X [] TC:=λ_ _ σ H _ I h=>RV ⟨σ,H,I,h⟩
theorem TH(h1:PS X st t)(h2:iM X rest u):iM X (st :: rest) (y7 t u):=by
 intro pins s σ H D I h;refine wpAny_execs_cons<|aQ (h1 pins s σ H {D with nx:=u D} I h) λf s1 q=>?_;cases f with
 | next=>
  obtain⟨σ',H',I',q⟩:=q;exact h2 pins s1 σ' H' D I' q
 | ret v=>exact q
 | brk=>exact q
 | cont=>exact q
theorem Inv.quiet{pins:List (Addr×Obj)}{σ:St}{H:Hp}{s:Shared}(I:Inv X pins σ H s):interactive X.env=false:=by simp [interactive,I.ok.kind]
def TK(te:TE):TS:=λD σ H=>te σ H λ_ H1=>D.nx σ H1
theorem TL(he:PE X e te)(hs:swapsWith e none pos.line X.env=pure false:=by rfl):PS X (.Expr e pos) (TK te):=by
 intro pins s σ H D I h;exact wpAny_Expr_any (aQ (he pins s σ H _ I h) λv s1 ⟨x,H1,I1,r1,q1⟩=>⟨σ,H1,I1,q1⟩) I.quiet hs
def y8(te:TE):TS:=λD σ H=>te σ H D.rt
theorem TR(he:PE X e te):PS X (.Return (some e) pos) (y8 te):=by
 intro pins s σ H D I h;exact wpAny_Return_some<|aQ (he pins s σ H _ I h) λv s1 ⟨x,H1,I1,r1,q1⟩=>⟨x,σ,H1,I1,r1,q1⟩
def y9(c:TT)(t u:TS):TS:=λD σ H=>c σ H λb H1=>if b=true then t D σ H1 else u D σ H1
theorem TU{c:Expr}{a b:List Stmt}{tc:TT}(hc:PT X c tc)(ha:iM X a t)(hb:iM X b u):PS X (.If c a b pos) (y9 tc t u):=by
 intro pins s σ H D I h;refine wpAny_If<|aQ (hc pins s σ H _ I h) λd s1 ⟨H1,I1,q1⟩=>?_;cases d with
 | true=>exact ha pins s1 σ H1 D I1 q1
 | false=>exact hb pins s1 σ H1 D I1 q1
end
abbrev TG:=V->St->Hp->(St->Hp->Prop)->Prop
abbrev oj:=List V->St->Hp->(St->Hp->Prop)->Prop
def PG(X:Cx)(target:Expr)(t:TG):Prop:=
 ∀(pins:List<|Addr×Obj) (s:Shared) (σ:St) (H:Hp) (v:V) (u:Value) (Q:St->Hp->Prop),Inv X pins σ H s->RelV v u->t v σ H Q ->
  wpAny (model X.prog X.w) X.A (assign target X.env u) (λ_ s'=>∃ σ' H',Inv X pins σ' H' s'/\Q σ' H') X.xe s
def wo(X:Cx)(ts:List Expr)(t:oj):Prop:=
 ∀(pins:List<|Addr×Obj) (s:Shared) (σ:St) (H:Hp) (vs:List V) (us:List Value) (Q:St->Hp->Prop),Inv X pins σ H s->az vs us->t vs σ H Q ->
  wpAny (model X.prog X.w) X.A (assignInOrder ((assignEach ts X.env).map (·.2)) us) (λ_ s'=>∃ σ' H',Inv X pins σ' H' s'/\Q σ' H') X.xe s
section
variable{X:Cx}{pos:Pos}
def Kp(i:Nat):TG:=λv σ H Q=>Q (σ.set i<|some v) H
theorem T1{i:Nat}{x:Str}(hN:X.N.Nodup)(hi:X.N[i]?=some x)(hx:Loc X.env.scope x)(hf:X.fn x=true\/X.env.scope.names.lookup x=some .local:=by first | exact .inl rfl | exact .inr rfl | assumption):PG X (.Name x pos) (Kp i):=by
 intro pins s σ H v u Q I r h;exact wpAny_assign_Name<|Kn I hN hi hx r (λs' I'=>⟨_,H,I',h⟩) hf
def om:oj:=λvs σ H Q=>vs=[]/\Q σ H
def qC(t:TG)(u:oj):oj:=λvs σ H Q=>∃ v r,vs=v :: r/\t v σ H λσ' H'=>u r σ' H' Q
theorem Kq:wo X [] om:=by
 intro pins s σ H vs us Q I r h;obtain⟨e,h⟩:=h;subst e;cases r;exact assignInOrder_nil ⟨σ,H,I,h⟩
theorem sw{e:Expr}{es:List Expr}{t:TG}{u:oj}(h1:PG X e t)(h2:wo X es u)
  (hs:(assignEach (e :: es) X.env).map (·.2)=assign e X.env :: (assignEach es X.env).map (·.2):=by rfl):wo X (e :: es) (qC t u):=by
 intro pins s σ H vs us Q I r h;obtain⟨v,vr,e1,h⟩:=h;subst e1;cases r with
 | cons r rr=>
  rw [hs];refine assignInOrder_cons<|aQ (h1 pins s σ H _ _ _ I r h) λ_ s1 ⟨σ1,H1,I1,q1⟩=>?_;exact h2 pins s1 σ1 H1 _ _ Q I1 rr q1
def zg(K:PySem.W.Frag)(n:Nat)(t:oj):TG:=λv σ H Q=>∃ a xs,v = .ref a/\aJ K H a xs/\xs.length=n/\t xs σ H Q
theorem Kr{es:List Expr}{k:Nat}{t:oj}{n:Nat}(hc:X.calm=true)(h:wo X es t)
  (hn:(assignEach es X.env).length=n:=by rfl) (c9:(assignEach es X.env).findIdx? (·.1)=none:=by rfl):PG X (.Tuple es k pos) (zg X.K n t):=by
 intro pins s σ H v u Q I r hw;obtain⟨a,xs,e1,hq,hl,hw⟩:=hw;subst e1;cases r;obtain⟨its,rv,ht,hz⟩:=I.tuple hq;refine assign_Tuple_tuple (I.ok.hd hc) ht (by simp [hn,<- hl,rv.length]) c9 λh' hx=>?_;have I1:Inv X pins σ H {s with heap:=h'}:=I.kept (t':=s.toks) λb o e=>hx b o (Bo<|Ay e) e;exact h pins _ σ H xs _ Q I1 (by simpa using rv) hw
def sy(te:TE)(g:TG):TS:=λD σ H=>te σ H λx H1=>g x σ H1 D.nx
theorem T4{tg e:Expr}{te:TE}{g:TG}(he:PE X e te)(hg:PG X tg g)(hs:swapsWithSole [tg] e pos.line X.env=pure false:=by rfl)(hw:swappedStores [tg] e X.env=pure none:=by rfl)
  (h1:(assignEach [tg] X.env).map (·.2)=[assign tg X.env]:=by rfl):PS X (.Assign [tg] e pos) (sy te g):=by
 intro pins s σ H D I h;refine wpAny_Assign_stores (aQ (he pins s σ H _ I h) λv s1 ⟨x,H1,I1,r1,q1⟩=>?_) hs hw;rw [h1];exact aQ (hg pins s1 σ H1 x v _ I1 r1 q1) λ_ s2 q=>q
theorem T5{i:Nat}{x:Str}{e:Expr}{te:TE}{pos':Pos}(hN:X.N.Nodup)(hi:X.N[i]?=some x)(hx:Loc X.env.scope x)(he:PE X e te)(hs:swapsWith e (some<|.Name x pos') pos.line X.env=pure false:=by rfl)(hf:X.fn x=true\/X.env.scope.names.lookup x=some .local:=by first | exact .inl rfl | exact .inr rfl | assumption) :
  PS X (.Assign [.Name x pos'] e pos) (sy te<|Kp i):=by
 intro pins s σ H D I h;refine wpAny_Assign_Name (aQ (he pins s σ H _ I h) λv s1 ⟨y,H1,I1,r1,q1⟩=>?_) hs;exact Kn I1 hN hi hx r1 (λs2 I2=>⟨_,H1,I2,q1⟩) hf
def T6(c:TT)(tb:TS):TS:=λD σ H=>∃ W:Nat->St->Hp->Prop,(∃ m,W m σ H)/\∀ m σ H,W m σ H ->
 c σ H λb H1=>if b=true then ∃ N:St->Hp->Prop,(∀ σ' H',N σ' H'->∃ m',m' < m/\W m' σ' H')/\tb {D with nx:=N,ct:=N,bk:=D.nx} σ H1 else D.nx σ H1
theorem T7{c:Expr}{body:List Stmt}{tc:TT}{tb:TS}(hp:PassesOwn (model X.prog X.w) X.A X.env X.xe)(hc:PT X c tc)(hb:iM X body tb):PS X (.While c body [] pos) (T6 tc tb):=by
 intro pins s σ H D I h;obtain⟨W,⟨m0,w0⟩,turn⟩:=h;refine wpAny_While<|codeAny_whileLoop (λn s'=>∃ σ' H',Inv X pins σ' H' s'/\W n σ' H') ?_ m0 ⟨σ,H,I,w0⟩;rintro n s1 ⟨σ1,H1,I1,w1⟩;refine HY hp<|aQ (hc pins s1 σ1 H1 _ I1<|turn n σ1 H1 w1) λb s2 ⟨H2,I2,q2⟩=>?_;cases b with
 | true=>
  obtain⟨N,hN,q2⟩:=q2;rw [BP rfl];refine HY hp<|aQ (hb pins s2 σ1 H2 _ I2 q2) λf s3 q3=>?_;cases f with
  | next=>
   obtain⟨σ3,H3,I3,n3⟩:=q3;obtain⟨m',hm,w3⟩:=hN σ3 H3 n3;exact⟨m',hm,σ3,H3,I3,w3⟩
  | cont=>
   obtain⟨σ3,H3,I3,n3⟩:=q3;obtain⟨m',hm,w3⟩:=hN σ3 H3 n3;exact⟨m',hm,σ3,H3,I3,w3⟩
  | brk=>exact q3
  | ret v=>exact q3
 | false=>
  rw [BL Av];exact RV ⟨σ1,H2,I2,q2⟩
end
structure It where
 go:Nat->Hp->Prop
 sD:Nat->Hp->V->Hp->Prop
 stop:Nat->Hp->Prop
def ci(X:Cx)(pins:List<|Addr×Obj)(H:Hp)(b:Addr):Prop:=
 H b=none/\b≠X.env.locals/\b∉X.fs/\(b∈X.ex\/X.s₀.heap.objs.size<=b)/\(∀ x c,X.env.cells.lookup x=some c->c≠b)/\∀ p∈X.pn++pins,p.1≠b
theorem Inv.iO{X:Cx}{pins:List (Addr×Obj)}{σ:St}{H H':Hp}{s:Shared}{b:Addr}(I:Inv X pins σ H s)(hb:s.heap.objs.size<=b)(hn:H' b=none):ci X pins H' b:=by
 refine⟨hn,Cy<|Bg I.lt hb,I.yT hb,.inr<|Bs I.sz hb,λx c e z=>?_,λp hp z=>?_⟩
 ·obtain⟨v,q⟩:=I.cell x c e;exact absurd (Bg q.lt<|by rw [z];exact hb)<|Ds _
 ·exact absurd (Bg (Ay (I.pin p hp).1)<|by rw [z];exact hb)<|Ds _
structure Turn(P:Program)(w:World)(K:PySem.W.Frag)(tg:Expr)(J:It)(fp:List Addr)(it:Addr)(tn:Nat->Heap->Prop):Prop where
 mem:it∈fp
 obj:∀ i h,tn i h->∀ b∈fp,∃ o,h.get? b=some o/\∀ v,o.data ≠ .cell v
 keep:∀ i h h',tn i h->(∀ b∈fp,∀ o,h.get? b=some o->h'.get? b=some o)->tn i h'
 item:∀(X:Cx),X.prog=P->X.w=w->X.K=K->X.calm=true->∀(i:Nat) (pins:List<|Addr×Obj) (s:Shared) (σ:St) (H:Hp) (E:Value->Shared->Prop),Inv X pins σ H s->(∀ b∈fp,ci X pins H b)->tn i s.heap->J.go i H ->
  wpAny (model P w) X.A (pyNext<|.ref it) (λr s1=>∃ u,r=some u /\
   wpAny (model P w) X.A (letOwnedTupleGo tg (.ref it) u) (λ_ s2=>∃ x H',Inv X pins σ H' s2/\RelV x u/\J.sD i H x H'/\tn (i+1) s2.heap/\∀ b∈fp,H' b=none) E s1) E s
 done:∀(X:Cx),X.prog=P->X.w=w->X.K=K->X.calm=true->∀(i:Nat) (pins:List<|Addr×Obj) (s:Shared) (σ:St) (H:Hp) (E:Value->Shared->Prop),Inv X pins σ H s->(∀ b∈fp,ci X pins H b)->tn i s.heap->J.stop i H ->
  wpAny (model P w) X.A (pyNext<|.ref it) (λr s1=>r=none/\Inv X pins σ H s1) E s
 self:∀(A:Around) (i:Nat) (s:Shared) (Q:Value->Shared->Prop) (E:Value->Shared->Prop),tn i s.heap->Q (.ref it) s->wpAny (model P w) A (pyIter<|.ref it) Q E s
abbrev TI:=St->Hp->(It->Hp->Prop)->Prop
def Ks(X:Cx)(pins:List<|Addr×Obj)(σ:St)(tg:Expr)(R:It->Hp->Prop)(qD:Value)(s2:Shared):Prop:=
 ∃(it:Addr) (fp:List Addr) (tn:Nat->Heap->Prop) (J:It) (H':Hp),qD = .ref it/\Inv X pins σ H' s2/\Turn X.prog X.w X.K tg J fp it tn/\tn 0 s2.heap/\(∀ b∈fp,ci X pins H' b)/\R J H'
def PI(X:Cx)(tg iter:Expr)(wi:TI):Prop:=
 ∀(pins:List<|Addr×Obj) (s:Shared) (σ:St) (H:Hp) (R:It->Hp->Prop),Inv X pins σ H s->wi σ H R ->
  wpAny (model X.prog X.w) X.A (eval iter X.env) (λv s1=>wpAny (model X.prog X.w) X.A (pyIter v) (Ks X pins σ tg R) X.xe s1) X.xe s
theorem wq{M:Model}{A:Around}{E:Value->Shared->Prop}{s:Shared}{tg:Expr}{it:Addr}{u:Value}{o:Obj}{n:String}{vs:Array Value}{Q:Unit->Shared->Prop}(ho:s.heap.get? it=some o)(hc:o.cls = .type n)(hd:o.data = .fields vs)
    (hn:["enumerate","zip","dict_itemiterator","dict_reverseitemiterator","odict_iterator","itertools.zip_longest","itertools.pairwise"].contains n=false) (hQ:Q () s):wpAny M A (letOwnedTupleGo tg (.ref it) u) Q E s:=by
  unfold letOwnedTupleGo;cases tg <;> first
    | exact BK hQ
    | (cases u <;> first
        | exact BK hQ
        | (refine BJ<|wpAny_load ho ?_
           rw [hc,hd];show wpAny M A (if(["enumerate","zip","dict_itemiterator","dict_reverseitemiterator","odict_iterator","itertools.zip_longest","itertools.pairwise"].contains n && vs[0]? == some (rawInt _))=true then _ else _) Q E s;rw [BL<|by intro h;rw [hn,TV] at h;cases h];exact BK hQ))
def oo(K:PySem.W.Frag)(a:Addr):It:=
 ⟨λi H=>∃ xs x,aq K H a xs/\xs[i]?=some x,λi H x H'=>H'=H/\∀ xs,aq K H a xs->xs[i]?=some x,λi H=>∃ xs,aq K H a xs/\xs.length<=i⟩
def wt(K:PySem.W.Frag)(a:Addr):It:=
 ⟨λi H=>∃ xs x,aJ K H a xs/\xs[i]?=some x,λi H x H'=>H'=H/\∀ xs,aJ K H a xs->xs[i]?=some x,λi H=>∃ xs,aJ K H a xs/\xs.length<=i⟩
def qE(lo:Int)(n:Nat):It:=⟨λi _=>i < n,λi H x H'=>H'=H/\x = .int (lo+i),λi _=>n<=i⟩
theorem T8{P:Program}{w:World}{K:PySem.W.Frag}{tg:Expr}(a it:Addr):Turn P w K tg (oo K a) [it] it (λi h=>h.IsListIter it a i) where
 mem:=by simp
 obj:=λi h st b hb=>by
  have e:b=it:=by simpa using hb
  subst e;obtain⟨o,e,c,d⟩:=st;exact⟨o,e,λv z=>by rw [d] at z;cases z⟩
 keep:=λi h h' st k=>st.at λo e=>k it (by simp) o e
 item:=by
  intro X hP hw hK hc i pins s σ H E I hf st hg;subst hP hw hK;obtain⟨xs,x,hq,hx⟩:=hg;obtain⟨its,rv,p,hz⟩:=I.list hq;obtain⟨u,hu,ru⟩:=rv.get hx;obtain⟨f0,f1,f2,f3,f4,f5⟩:=hf it (by simp);refine wpAny_pyNext_list_item st p.isList (x:=u) (by simpa using hu) λh' cV sb=>?_;have I1:Inv X pins σ H {s with heap:=h'}:=I.turned (t':=s.toks) (λb o hb e=>(sb.2 b hb).trans e) f0 f1 f3 f4 f5;obtain⟨o,e,c,d⟩:=id cV;exact⟨u,rfl,wq (s:={s with heap:=h'}) e c d (by decide) ⟨x,H,I1,ru,⟨rfl,λys hy=>by rw [I.dA hy hq];exact hx⟩,cV,λb hb=>(hf b hb).1⟩⟩
 done:=by
  intro X hP hw hK hc i pins s σ H E I hf st hg;subst hP hw hK;obtain⟨xs,hq,hx⟩:=hg;obtain⟨its,rv,p,hz⟩:=I.list hq;obtain⟨f0,f1,f2,f3,f4,f5⟩:=hf it (by simp);have hl:=rv.length;exact wpAny_pyNext_list_end (I.ok.hd hc) st p.isList (by simp;omega) λh' eb=>⟨rfl,I.turned (t':=s.toks) (λb o hb e=>eb b o hb e) f0 f1 f3 f4 f5⟩
 self:=λ_ _ _ _ _ st h=>wpAny_pyIter_listiter st h
theorem T9{P:Program}{w:World}{K:PySem.W.Frag}{tg:Expr}(a it:Addr):Turn P w K tg (wt K a) [it] it (λi h=>h.IsTupleIter it a i) where
 mem:=by simp
 obj:=λi h st b hb=>by
  have e:b=it:=by simpa using hb
  subst e;obtain⟨o,e,c,d⟩:=st;exact⟨o,e,λv z=>by rw [d] at z;cases z⟩
 keep:=λi h h' st k=>st.at λo e=>k it (by simp) o e
 item:=by
  intro X hP hw hK hc i pins s σ H E I hf st hg;subst hP hw hK;obtain⟨xs,x,hq,hx⟩:=hg;obtain⟨its,rv,p,hz⟩:=I.tuple hq;obtain⟨u,hu,ru⟩:=rv.get hx;obtain⟨f0,f1,f2,f3,f4,f5⟩:=hf it (by simp);refine wpAny_pyNext_tuple_item st (show s.heap.IsTuple a its.toArray from p) (x:=u) (by simpa using hu) λh' cV sb=>?_;have I1:Inv X pins σ H {s with heap:=h'}:=I.turned (t':=s.toks) (λb o hb e=>(sb.2 b hb).trans e) f0 f1 f3 f4 f5;obtain⟨o,e,c,d⟩:=id cV;exact⟨u,rfl,wq (s:={s with heap:=h'}) e c d (by decide) ⟨x,H,I1,ru,⟨rfl,λys hy=>by rw [I.iN hy hq];exact hx⟩,cV,λb hb=>(hf b hb).1⟩⟩
 done:=by
  intro X hP hw hK hc i pins s σ H E I hf st hg;subst hP hw hK;obtain⟨xs,hq,hx⟩:=hg;obtain⟨its,rv,p,hz⟩:=I.tuple hq;obtain⟨f0,f1,f2,f3,f4,f5⟩:=hf it (by simp);have hl:=rv.length;exact wpAny_pyNext_tuple_end (I.ok.hd hc) st (show s.heap.IsTuple a its.toArray from p) (by simp;omega) λh' eb=>⟨rfl,I.turned (t':=s.toks) (λb o hb e=>eb b o hb e) f0 f1 f3 f4 f5⟩
 self:=λ_ _ _ _ _ st h=>wpAny_pyIter_tupleiter st h
theorem Ua{P:Program}{w:World}{K:PySem.W.Frag}{tg:Expr}(it:Addr)(lo:Int)(n:Nat):Turn P w K tg (qE lo n) [it] it (λi h=>IsRangeIter h it (lo+(i:Nat) * 1) ((n:Int) - (i:Nat)) 1) where
 mem:=by simp
 obj:=λi h st b hb=>by
  have e:b=it:=by simpa using hb
  subst e;exact⟨_,st,λv z=>by
   have z':Data.fields _=Data.cell v:=z;cases z'⟩
 keep:=λi h h' st k=>k it (by simp) _ st
 item:=by
  intro X hP hw hK hc i pins s σ H E I hf st hg;subst hP hw hK;obtain⟨f0,f1,f2,f3,f4,f5⟩:=hf it (by simp);have W:=Walks.range (prog:=X.prog) (w:=X.w) (I.ok.hd hc) it lo 1 n;refine W.item i s _ _ hg st λv h' tk hv cV kk=>?_;obtain⟨t,rfl⟩:=hv;have I1:Inv X pins σ H {s with heap:=h',toks:=tk}:=I.turned (λb o hb e=>kk b o (by simpa using hb) e) f0 f1 f3 f4 f5;refine⟨_,rfl,wq (s:={s with heap:=h',toks:=tk}) (n:= "range_iterator") cV rfl rfl (by decide) ⟨.int<|lo+i,H,I1,⟨t,?_⟩,⟨rfl,rfl⟩,cV,λb hb=>(hf b hb).1⟩⟩;rw [Int.mul_one]
 done:=by
  intro X hP hw hK hc i pins s σ H E I hf st hg;subst hP hw hK;obtain⟨f0,f1,f2,f3,f4,f5⟩:=hf it (by simp);exact wpAny_pyNext_range_end (I.ok.hd hc) st (by have:n<=i:=hg;omega) λh' eb=>⟨rfl,I.turned (t':=s.toks) (λb o hb e=>eb b o hb e) f0 f1 f3 f4 f5⟩
 self:=λ_ _ _ _ _ st h=>wpAny_pyIter_rangeiter st h
section
variable{X:Cx}{tg:Expr}
def Ub(K:PySem.W.Frag)(tl:TE):TI:=λσ H R=>tl σ H λx H1=>∃ a,x = .ref a/\(∃ xs,aq K H1 a xs)/\R (oo K a) H1
def zh(K:PySem.W.Frag)(tl:TE):TI:=λσ H R=>tl σ H λx H1=>∃ a,x = .ref a/\(∃ xs,aJ K H1 a xs)/\R (wt K a) H1
theorem gA{l:Expr}{tl:TE}(hl:PE X l tl):PI X tg l (Ub X.K tl):=by
 intro pins s σ H R I h;refine aQ (hl pins s σ H _ I h) λv s1 ⟨x,H1,I1,r1,q1⟩=>?_;obtain⟨a,e,⟨xs,hq⟩,q⟩:=q1;subst e;cases r1;obtain⟨its,rv,p,hz⟩:=I1.list hq;refine QL p.isList ?_;refine⟨s1.heap.objs.size,[s1.heap.objs.size],_,_,H1,rfl,I1.kept (t':=s1.toks) λb o e=>Ag _ e,T8 a _,⟨_,At _ rfl,rfl,rfl⟩,λb hb=>?_,q⟩;have e:b=s1.heap.objs.size:=by simpa using hb
 subst e;exact I1.iO (Al _)<|I1.aG.fresh<|Al _
theorem Uc{l:Expr}{tl:TE}(hl:PE X l tl):PI X tg l (zh X.K tl):=by
 intro pins s σ H R I h;refine aQ (hl pins s σ H _ I h) λv s1 ⟨x,H1,I1,r1,q1⟩=>?_;obtain⟨a,e,⟨xs,hq⟩,q⟩:=q1;subst e;cases r1;obtain⟨its,rv,p,hz⟩:=I1.tuple hq;refine wpAny_pyIter_tuple (show s1.heap.IsTuple a its.toArray from p) ?_;refine⟨s1.heap.objs.size,[s1.heap.objs.size],_,_,H1,rfl,I1.kept (t':=s1.toks) λb o e=>Ag _ e,T9 a _,⟨_,At _ rfl,rfl,rfl⟩,λb hb=>?_,q⟩;have e:b=s1.heap.objs.size:=by simpa using hb
 subst e;exact I1.iO (Al _)<|I1.aG.fresh<|Al _
theorem Ud{pins:List (Addr×Obj)}{σ:St}{H:Hp}{s:Shared}{R:It->Hp->Prop}{E:Value->Shared->Prop}{lo hi:Int}{t u v:Tok}{tk:Nat}(I:Inv X pins σ H s)(h1:-(2 ^ 62)<=lo)(h2:lo < 2 ^ 62)(h3:-(2 ^ 62)<=hi)(h4:hi < 2 ^ 62)
  (q:R (qE lo (hi - lo).toNat) H):wpAny (model X.prog X.w) X.A (pyIter<|.ref s.heap.objs.size) (Ks X pins σ tg R) E {s with heap:=s.heap.push {cls:= .type "range",data:= .fields #[.int lo t,.int hi u,.int 1 v]},toks:=tk}:=by
 refine wpAny_pyIter_range (IsRange.new ..) (small_one h1 h2 h3 h4) ?_;have I1:Inv X pins σ H {s with heap:=s.heap.push {cls:= .type "range",data:= .fields #[.int lo t,.int hi u,.int 1 v]},toks:=tk}:=I.kept λb o e=>Ag _ e;refine⟨(s.heap.push {cls:= .type "range",data:= .fields #[.int lo t,.int hi u,.int 1 v]}).objs.size,[(s.heap.push {cls:= .type "range",data:= .fields #[.int lo t,.int hi u,.int 1 v]}).objs.size],_,_,H,rfl,
  I1.kept (t':=tk) λb o e=>Ag _ e,Ua _ lo (hi - lo).toNat,?_,λb hb=>?_,q⟩
 ·have e1:lo+((0:Nat):Int) * 1=lo:=by simp
  have e2:(((hi - lo).toNat:Nat):Int) - ((0:Nat):Int)=Builtin.Range.rangeSize lo hi 1:=by rw [rangeSize_one];split <;> omega
  show IsRangeIter _ _ (lo+((0:Nat):Int) * 1) ((((hi - lo).toNat:Nat):Int) - ((0:Nat):Int)) 1;rw [e1,e2];exact At _ rfl
 ·have e:b=(s.heap.push {cls:= .type "range",data:= .fields #[.int lo t,.int hi u,.int 1 v]}).objs.size:=by simpa using hb
  subst e;exact I1.iO (Al _)<|I1.aG.fresh<|Al _
def Kt(ta:TA):TI:=λσ H R=>ta σ H λvs H1=>∃ j:Int,vs=[.int j]/\-(2 ^ 62)<=j/\j < 2 ^ 62/\R (qE 0 j.toNat) H1
theorem Ku{a:Expr}{ta:TA}{p pos:Pos}(hg:Gl X "range")(hm:X.mg "range" = none)(ha:PA X [a] ta)(hs:starEach [a] X.env=[(false,eval a X.env)]:=by rfl):PI X tg (.Call (.Name "range" p) [a] [] pos) (Kt ta):=by
 intro pins s σ H R I h;refine Call_<|oi I hg hm boot_range<|JN (aQ (ha pos pins s σ H _ I h) λus s1 ⟨vs,H1,I1,r1,q1⟩=>?_) hs rfl;obtain⟨j,e,q1,q2,q⟩:=q1;subst e;cases r1 with
 | cons r rr=>
  cases rr;obtain⟨t,rfl⟩:=r;exact call_range_1<|Ud I1 (by omega) (by omega) q1 q2<|by simpa using q
def zi(wi:TI)(g:TG)(tb:TS):TS:=λD σ H=>wi σ H λJ H1=>∃ W:Nat->Nat->St->Hp->Prop,(∃ m,W 0 m σ H1)/\∀ i m σ H,W i m σ H ->
 (J.stop i H/\D.nx σ H)\/(J.go i H/\∃ N:St->Hp->Prop,(∀ σ' H',N σ' H'->∃ m',m' < m/\W (i+1) m' σ' H')/\∀ x H',J.sD i H x H'->g x σ H' λσ2 H2=>tb {D with nx:=N,ct:=N,bk:=D.nx} σ2 H2)
def sE(fp:List Addr)(h:Heap):List (Addr×Obj):=fp.filterMap λb=>(h.get? b).map λo=>(b,o)
theorem wu{fp:List Addr}{h:Heap}{b:Addr}{o:Obj}(hb:b∈fp)(e:h.get? b=some o):(b,o)∈sE fp h:=Ft.mpr ⟨b,hb,by rw [e];rfl⟩
theorem Ue{fp:List Addr}{h:Heap}{p:Addr×Obj}(hp:p∈sE fp h):p.1∈fp/\h.get? p.1=some p.2:=by
 obtain⟨b,hb,e⟩:=Ft.mp hp;cases q:h.get? b with
 | none=>rw [q] at e;cases e
 | some o=>
  rw [q] at e;have e':(b,o)=p:=Option.some.inj e;subst e';exact⟨hb,q⟩
theorem Inv.pinned{pins:List (Addr×Obj)}{σ:St}{H:Hp}{s:Shared}{fp:List Addr}(I:Inv X pins σ H s)(hf:∀ b∈fp,ci X pins H b)(ho:∀ b∈fp,∃ o,s.heap.get? b=some o/\∀ v,o.data ≠ .cell v):Inv X (pins++sE fp s.heap) σ H s:=
 I.hU λp hp=>(Am.mp hp).elim (λz=>I.pin p<|Ax _ z) λz=>by
  obtain⟨hb,e⟩:=Ue z;obtain⟨f0,f1,f2,_⟩:=hf p.1 hb;obtain⟨o,e',d⟩:=ho p.1 hb;rw [e] at e';cases e';exact⟨e,f0,f1,f2,d⟩
theorem Inv.cJ{pins pl:List (Addr×Obj)}{σ:St}{H:Hp}{s:Shared}(I:Inv X (pins++pl) σ H s):Inv X pins σ H s:=I.hU λp hp=>I.pin p<|Ax _<|Ba _ hp
theorem Ug{iter:Expr}{body:List Stmt}{wi:TI}{g:TG}{tb:TS}{pos:Pos}(hp:PassesOwn (model X.prog X.w) X.A X.env X.xe)(hc:X.calm=true)(hi:PI X tg iter wi)(hg:PG X tg g)(hb:iM X body tb)
  (hs:∀ x,foldedSetIterable iter X.env x=pure x:=by intro _;rfl):PS X (.For tg iter body [] pos) (zi wi g tb):=by
 intro pins s σ H D I h;refine wpAny_For (aQ (hi pins s σ H _ I h) λv s1 h1=>aQ h1 λqD s2 h2=>?_) hs;obtain⟨it,fp,tn,J,H2,e,I2,T,ib,f2,W,⟨m0,w0⟩,turn⟩:=h2;subst e;have stat:∀{H':Hp},(∀ b∈fp,H' b=none)->∀ b∈fp,ci X pins H' b:=λhn b hb=>⟨hn b hb,(f2 b hb).2⟩;refine codeAny_forLoop_any (λn s'=>∃ i σ' H',Inv X pins σ' H' s'/\tn i s'.heap/\(∀ b∈fp,H' b=none)/\W i n σ' H') ?_ m0 ⟨0,σ,H2,I2,ib,λb hb=>(f2 b hb).1,w0⟩;rintro n s3 ⟨i,σ3,H3,I3,Kv,Kw,w3⟩
 rcases turn i n σ3 H3 w3 with ⟨stop,qn⟩ | ⟨go,N,hN,step⟩
 ·refine HY hp<|aQ (T.done X rfl rfl rfl hc i pins s3 σ3 H3 X.xe I3 (stat Kw) Kv stop) λr s4 ⟨hr,I4⟩=>?_;subst hr;exact RV ⟨σ3,H3,I4,qn⟩
 ·refine HY hp<|aQ (T.item X rfl rfl rfl hc i pins s3 σ3 H3 X.xe I3 (stat Kw) Kv go) λr s4 ⟨u,hr,h4⟩=>?_;subst hr;refine HY hp<|aQ h4 λ_ s5 ⟨x,H5,I5,r5,y5,zj,Uh⟩=>?_;have Ui:=I5.pinned (stat Uh)<|T.obj _ _ zj;refine HY hp<|aQ (hg _ s5 σ3 H5 x u _ Ui r5<|step x H5 y5) λ_ s6 ⟨σ6,H6,I6,q6⟩=>?_;refine HY hp<|aQ (hb _ s6 σ6 H6 _ I6 q6) λf s7 q7=>?_;have again:∀{σ7:St} {H7:Hp},Inv X (pins++sE fp s5.heap) σ7 H7 s7->N σ7 H7->∃ m,m < n/\∃ i σ' H',Inv X pins σ' H' s7/\tn i s7.heap/\(∀ b∈fp,H' b=none)/\W i m σ' H':=λ{σ7 H7} I7 n7=>by
   obtain⟨m',hm,w7⟩:=hN σ7 H7 n7;refine⟨m',hm,i+1,σ7,H7,I7.cJ,T.keep _ _ _ zj λb hb o e=>(I7.pin (b,o)<|Ax _<|Ax _<|wu hb e).1,λb hb=>?_,w7⟩;obtain⟨o,e,d⟩:=T.obj _ _ zj b hb;exact(I7.pin (b,o)<|Ax _<|Ax _<|wu hb e).2.1
  cases f with
  | next=>obtain⟨σ7,H7,I7,n7⟩:=q7;exact again I7 n7
  | cont=>obtain⟨σ7,H7,I7,n7⟩:=q7;exact again I7 n7
  | brk=>obtain⟨σ7,H7,I7,q7⟩:=q7;exact⟨σ7,H7,I7.cJ,q7⟩
  | ret v=>obtain⟨x7,σ7,H7,I7,r7,q7⟩:=q7;exact⟨x7,σ7,H7,I7.cJ,r7,q7⟩
end
abbrev R2:=V->V->Hp->VK->Prop
def cK(X:Cx)(f:Value->Value->Sem Value)(r:R2):Prop:=
 ∀(pins:List<|Addr×Obj) (s:Shared) (σ:St) (H:Hp) (x y:V) (v u:Value) (Q:VK),Inv X pins σ H s->RelV x v->RelV y u->r x y H Q ->
  wpAny (model X.prog X.w) X.A (f v u) (EP X pins σ Q) X.xe s
def wv(X:Cx)(f:Value->Sem Value)(r:V->Hp->VK->Prop):Prop:=
 ∀(pins:List<|Addr×Obj) (s:Shared) (σ:St) (H:Hp) (x:V) (v:Value) (Q:VK),Inv X pins σ H s->RelV x v->r x H Q ->
  wpAny (model X.prog X.w) X.A (f v) (EP X pins σ Q) X.xe s
def fH(X:Cx)(f:Value)(r:List V->Hp->VK->Prop):Prop:=
 ∀(pins:List<|Addr×Obj) (s:Shared) (σ:St) (H:Hp) (xs:List V) (us:List Value) (Q:VK),Inv X pins σ H s->az xs us->r xs H Q ->
  wpAny (model X.prog X.w) X.A (call f us) (EP X pins σ Q) X.xe s
def zp(X:Cx)(r:V->Hp->(Bool->Hp->Prop)->Prop):Prop:=
 ∀(pins:List<|Addr×Obj) (s:Shared) (σ:St) (H:Hp) (x:V) (v:Value) (Q:Bool->Hp->Prop),Inv X pins σ H s->RelV x v->r x H Q ->
  wpAny (model X.prog X.w) X.A (truthy v) (TP X pins σ Q) X.xe s
def wx(r:R2)(ta tb:TE):TE:=λσ H Q=>ta σ H λx H1=>tb σ H1 λy H2=>r x y H2 Q
def Uj(r:V->Hp->VK->Prop)(ta:TE):TE:=λσ H Q=>ta σ H λx H1=>r x H1 Q
def rI(C:Int->Int->Prop)(g:Int->Int->V):R2:=λx y H Q=>∃ i j,x = .int i/\y = .int j/\C i j/\Q (g i j) H
def qF(g:Int->Int->V):R2:=λx y H Q=>∃ i j,x = .int i/\y = .int j/\Q (g i j) H
def rU(g:Int->V):V->Hp->VK->Prop:=λx H Q=>∃ i,x = .int i/\Q (g i) H
section
variable{X:Cx}{a b c:Expr}{ta tb tc:TE}{pos:Pos}
theorem oq(ha:PE X a ta)(hb:PE X b tb){pins:List (Addr×Obj)}{s:Shared}{σ:St}{H:Hp}{R:V->V->Hp->Prop}(I:Inv X pins σ H s)
  (h:ta σ H λx H1=>tb σ H1 λy H2=>R x y H2) {Q:Value->Shared->Prop} {f:Value->Value->Sem Value}
  (hf:∀ v u s2 x y H2,Inv X pins σ H2 s2->RelV x v->RelV y u->R x y H2->wpAny (model X.prog X.w) X.A (f v u) Q X.xe s2) :
  wpAny (model X.prog X.w) X.A (eval a X.env) (λv s₁=>wpAny (model X.prog X.w) X.A (eval b X.env) (λu s₂=>wpAny (model X.prog X.w) X.A (f v u) Q X.xe s₂) X.xe s₁) X.xe s:=by
 refine aQ (ha pins s σ H _ I h) λv s1 ⟨x,H1,I1,r1,q1⟩=>?_;refine aQ (hb pins s1 σ H1 _ I1 q1) λu s2 ⟨y,H2,I2,r2,q2⟩=>?_;exact hf v u s2 x y H2 I2 r1 r2 q2
theorem Uk{op:Operator}{r:R2}(ho:cK X (binaryOp op) r)(ha:PE X a ta)(hb:PE X b tb):PE X (.BinOp a op b pos) (wx r ta tb):=by
 intro pins s σ H Q I h;exact wpAny_BinOp<|oq ha hb I h λv u s2 x y H2 I2 rx ry q=>ho pins s2 σ H2 x y v u Q I2 rx ry q
theorem Ul{op:UnaryOp}{r:V->Hp->VK->Prop}(ho:wv X (unaryOp op) r)(ha:PE X a ta):PE X (.UnaryOp op a pos) (Uj r ta):=by
 intro pins s σ H Q I h;exact UnaryOp_<|aQ (ha pins s σ H _ I h) λv s1 ⟨x,H1,I1,r1,q1⟩=>ho pins s1 σ H1 x v Q I1 r1 q1
theorem wy{f:Value->Value->Sem Value}{C:Int->Int->Prop}{g:Int->Int->Int}
  (rule:∀(i j:Int) (t u:Tok) (s:Shared) (Q:Value->Shared->Prop) (E:Value->Shared->Prop),C i j->Q (.int (g i j) s.toks) {s with toks:=s.toks+1}->wpAny (model X.prog X.w) X.A (f (.int i t)<|.int j u) Q E s) :
  cK X f (rI C λi j=> .int<|g i j):=by
 intro pins s σ H x y v u Q I rx ry h;obtain⟨i,j,rfl,rfl,hc,q⟩:=h;obtain⟨t,rfl⟩:=rx;obtain⟨t',rfl⟩:=ry;exact rule i j t t' s _ _ hc ⟨.int<|g i j,H,I.tok _,⟨_,rfl⟩,q⟩
theorem sF{f:Value->Value->Sem Value}{g:Int->Int->Int}
  (rule:∀(i j:Int) (t u:Tok) (s:Shared) (Q:Value->Shared->Prop) (E:Value->Shared->Prop),Q (.int (g i j) s.toks) {s with toks:=s.toks+1}->wpAny (model X.prog X.w) X.A (f (.int i t)<|.int j u) Q E s) :
  cK X f (qF λi j=> .int<|g i j):=by
 intro pins s σ H x y v u Q I rx ry h;obtain⟨i,j,rfl,rfl,q⟩:=h;obtain⟨t,rfl⟩:=rx;obtain⟨t',rfl⟩:=ry;exact rule i j t t' s _ _ ⟨.int<|g i j,H,I.tok _,⟨_,rfl⟩,q⟩
theorem sG{f:Value->Value->Sem Value}{g:Int->Int->Bool}
  (rule:∀(i j:Int) (t u:Tok) (s:Shared) (Q:Value->Shared->Prop) (E:Value->Shared->Prop),Q (.bool<|g i j) s->wpAny (model X.prog X.w) X.A (f (.int i t)<|.int j u) Q E s) :
  cK X f (qF λi j=> .bl<|g i j):=by
 intro pins s σ H x y v u Q I rx ry h;obtain⟨i,j,rfl,rfl,q⟩:=h;obtain⟨t,rfl⟩:=rx;obtain⟨t',rfl⟩:=ry;exact rule i j t t' s _ _ ⟨.bl<|g i j,H,I,rfl,q⟩
def sI(i j:Int):Prop:=0 < j/\j < 1073741824
def zq(i j:Int):Prop:=0<=j/\j<=1000000/\i.natAbs < 2 ^ 64
def ou(i j:Int):Prop:=(-(2 ^ 64) < i/\i < 2 ^ 64)\/(-(2 ^ 64) < j/\j < 2 ^ 64)
theorem ou.ok{i j:Int}(h:ou i j):IntMulOk i j:=by
 rcases h with ⟨h1,h2⟩ | ⟨h1,h2⟩
 ·exact .of_left<|intBits_le_64 h1 h2
 ·exact .of_right<|intBits_le_64 h1 h2
theorem fI:cK X (binaryOp .Add) (qF λi j=> .int<|i+j):=sF λ_ _ _ _ _ _ _ q=>add_int q
theorem Kx:cK X (binaryOp .Sub) (qF λi j=> .int<|i - j):=sF λ_ _ _ _ _ _ _ q=>sub_int q
theorem wz:cK X (binaryOp .Mult) (rI ou λi j=> .int<|i * j):=wy λ_ _ _ _ _ _ _ hc q=>mul_int q hc.ok
theorem ic:cK X (binaryOp .FloorDiv) (rI sI λi j=> .int<|i / j):=wy λi j _ _ _ _ _ hc q=>by
 have h1:(0:Int) < j:=hc.1;have h2:j < 1073741824:=hc.2;exact floordiv_int (by omega) (by rw [Int.fdiv_eq_ediv_of_nonneg i<|by omega];exact q)<|.inl<|PyProof.noPylong_small<|by omega
theorem cG:cK X (binaryOp .Mod) (rI (λ_ j=>0 < j) λi j=> .int<|i % j):=wy λi j _ _ _ _ _ hc q=>by
 have h1:(0:Int) < j:=hc;exact mod_int' (by omega)<|by rw [Int.fmod_eq_emod_of_nonneg i<|by omega];exact q
theorem Ky:cK X (binaryOp .Pow) (rI zq λi j=> .int<|i ^ j.toNat):=wy λ_ _ _ _ _ _ _ hc q=>pow_int_small hc.1 hc.2.1 hc.2.2 q
theorem Um{f:Value->Sem Value}{g:Int->Int}
  (rule:∀(i:Int) (t:Tok) (s:Shared) (Q:Value->Shared->Prop) (E:Value->Shared->Prop),Q (.int (g i) s.toks) {s with toks:=s.toks+1}->wpAny (model X.prog X.w) X.A (f<|.int i t) Q E s) :
  wv X f (rU λi=> .int<|g i):=by
 intro pins s σ H x v Q I rx h;obtain⟨i,rfl,q⟩:=h;obtain⟨t,rfl⟩:=rx;exact rule i t s _ _ ⟨.int<|g i,H,I.tok _,⟨_,rfl⟩,q⟩
theorem Kz:wv X (unaryOp .USub) (rU λi=> .int (-i)):=Um λ_ _ _ _ _ q=>neg_int q
def sJ:V->V->Bool
 | .non,.non=>true | .non,.int _=>true | .int _,.non=>true | .non,.bl _=>true | .bl _,.non=>true | .non,.str _=>true | .str _,.non=>true
 | .int _,.int _=>true | .bl _,.bl _=>true | .str _,.str _=>true | .iK _,.iK _=>true
 | .int _,.str _=>true | .str _,.int _=>true | .bl _,.str _=>true | .str _,.bl _=>true
 | _,_=>false
def Uo:R2:=λx y H Q=>sJ x y=true/\Q (.bl<|decide (x=y)) H
def Uq:R2:=λx y H Q=>sJ x y=true/\Q (.bl (!decide (x=y))) H
theorem KA{i j:Int}:decide (V.int i=V.int j)=(i == j):=by
 rw [Cm];simp
theorem wA{i j:Bool}:decide (V.bl i=V.bl j)=(i == j):=by
 rw [Cm];simp
theorem KE{i j:Str}:decide (V.str i=V.str j)=(i == j):=by
 rw [Cm];simp
theorem KG{i j:Array UInt8}:decide (V.iK i=V.iK j)=(i.toList == j.toList):=by
 rw [Cm];cases i;cases j;simp
theorem cA{pins:List (Addr×Obj)}{σ:St}{H:Hp}{s:Shared}{Q:VK}{k k':Bool}(I:Inv X pins σ H s)(q:Q (.bl k) H)(e:k=k'):EP X pins σ Q (.bool k') s:=by
 subst e;exact⟨.bl k,H,I,rfl,q⟩
theorem gN:cK X (compareOp .Eq) Uo:=by
 intro pins s σ H x y v u Q I rx ry h;obtain⟨hs,q⟩:=h;cases x with
 | non=>
  cases rx;cases y with
  | non=>cases ry;exact PySem.EqNone.eq_none_none<|cA I q<|by simp
  | bl j=>cases ry;exact PySem.EqNone.eq_none_bool<|cA I q<|by simp
  | int j=>obtain⟨t',rfl⟩:=ry;exact PySem.EqNone.eq_none_int<|cA I q<|by simp
  | str j=>obtain⟨t',rfl⟩:=ry;exact PySem.EqNone.eq_none_str<|cA I q<|by simp
  | _=>exact absurd (show false=true from hs) Av
 | bl i=>
  cases rx;cases y with
  | non=>cases ry;exact PySem.EqNone.eq_bool_none<|cA I q<|by simp
  | bl j=>cases ry;exact eq_bool<|cA I q wA
  | str j=>obtain⟨t',rfl⟩:=ry;exact PySem.EqMixed.eq_bool_str<|cA I q<|by simp
  | _=>exact absurd (show false=true from hs) Av
 | int i=>
  obtain⟨t,rfl⟩:=rx;cases y with
  | non=>cases ry;exact PySem.EqNone.eq_int_none<|cA I q<|by simp
  | int j=>obtain⟨t',rfl⟩:=ry;exact eq_int<|cA I q KA
  | str j=>obtain⟨t',rfl⟩:=ry;exact PySem.EqMixed.eq_int_str<|cA I q<|by simp
  | _=>exact absurd (show false=true from hs) Av
 | str i=>
  obtain⟨t,rfl⟩:=rx;cases y with
  | non=>cases ry;exact PySem.EqNone.eq_str_none<|cA I q<|by simp
  | bl j=>cases ry;exact PySem.EqMixed.eq_str_bool<|cA I q<|by simp
  | int j=>obtain⟨t',rfl⟩:=ry;exact PySem.EqMixed.eq_str_int<|cA I q<|by simp
  | str j=>obtain⟨t',rfl⟩:=ry;exact eq_str<|cA I q KE
  | _=>exact absurd (show false=true from hs) Av
 | iK i=>
  obtain⟨t,rfl⟩:=rx;cases y with
  | iK j=>obtain⟨t',rfl⟩:=ry;exact PySem.W.eq_bytes<|cA I q KG
  | _=>exact absurd (show false=true from hs) Av
 | _=>cases y <;> exact absurd (show false=true from hs) Av
theorem sK:cK X (compareOp .NotEq) Uq:=by
 intro pins s σ H x y v u Q I rx ry h;obtain⟨hs,q⟩:=h;cases x with
 | non=>
  cases rx;cases y with
  | non=>cases ry;exact PySem.EqNone.ne_none_none<|cA I q<|by simp
  | bl j=>cases ry;exact PySem.EqNone.ne_none_bool<|cA I q<|by simp
  | int j=>obtain⟨t',rfl⟩:=ry;exact PySem.EqNone.ne_none_int<|cA I q<|by simp
  | str j=>obtain⟨t',rfl⟩:=ry;exact PySem.EqNone.ne_none_str<|cA I q<|by simp
  | _=>exact absurd (show false=true from hs) Av
 | bl i=>
  cases rx;cases y with
  | non=>cases ry;exact PySem.EqNone.ne_bool_none<|cA I q<|by simp
  | bl j=>cases ry;exact ne_bool<|cA I q<|BZ not wA
  | str j=>obtain⟨t',rfl⟩:=ry;exact PySem.EqMixed.ne_bool_str<|cA I q<|by simp
  | _=>exact absurd (show false=true from hs) Av
 | int i=>
  obtain⟨t,rfl⟩:=rx;cases y with
  | non=>cases ry;exact PySem.EqNone.ne_int_none<|cA I q<|by simp
  | int j=>obtain⟨t',rfl⟩:=ry;exact ne_int<|cA I q<|BZ not KA
  | str j=>obtain⟨t',rfl⟩:=ry;exact PySem.EqMixed.ne_int_str<|cA I q<|by simp
  | _=>exact absurd (show false=true from hs) Av
 | str i=>
  obtain⟨t,rfl⟩:=rx;cases y with
  | non=>cases ry;exact PySem.EqNone.ne_str_none<|cA I q<|by simp
  | bl j=>cases ry;exact PySem.EqMixed.ne_str_bool<|cA I q<|by simp
  | int j=>obtain⟨t',rfl⟩:=ry;exact PySem.EqMixed.ne_str_int<|cA I q<|by simp
  | str j=>obtain⟨t',rfl⟩:=ry;exact ne_str<|cA I q<|BZ not KE
  | _=>exact absurd (show false=true from hs) Av
 | iK i=>
  obtain⟨t,rfl⟩:=rx;cases y with
  | iK j=>obtain⟨t',rfl⟩:=ry;exact PySem.W.ne_bytes<|cA I q<|BZ not KG
  | _=>exact absurd (show false=true from hs) Av
 | _=>cases y <;> exact absurd (show false=true from hs) Av
theorem zu:cK X (compareOp .Lt) (qF λi j=> .bl<|decide (i < j)):=sG λ_ _ _ _ _ _ _ q=>lt_int q
theorem KI:cK X (compareOp .Gt) (qF λi j=> .bl<|decide (j < i)):=sG λ_ _ _ _ _ _ _ q=>gt_int q
theorem Ur:cK X (compareOp .Lt) (λx y H Q=>∃ i j,x = .str i/\y = .str j/\Q (.bl<|decide (i.cps.toList < j.cps.toList)) H):=by
 intro pins s σ H x y v u Q I rx ry h;obtain⟨i,j,rfl,rfl,q⟩:=h;obtain⟨t,rfl⟩:=rx;obtain⟨t',rfl⟩:=ry;exact lt_str<|cA I q rfl
theorem KL:cK X (compareOp .Is) (λx y H Q=>y = .non/\Q (.bl<|decide (x = .non)) H):=by
 intro pins s σ H x y v u Q I rx ry h;obtain⟨rfl,q⟩:=h;cases ry;refine is_none_gen<|cA I q ?_;cases x <;> first
  | (cases rx;rfl)
  | (obtain⟨t,rfl⟩:=rx;rfl)
theorem Us{op:CmpOp}{r:R2}(ho:cK X (compareOp op) r)(ha:PE X a ta)(hb:PE X b tb)(hm:behindInMarks op b=false):PE X (.Compare a [op] [b] pos) (wx r ta tb):=by
 intro pins s σ H Q I h;exact wpAny_Compare1 (oq ha hb I h λv u s2 x y H2 I2 rx ry q=>ho pins s2 σ H2 x y v u Q I2 rx ry q) hm
def Ut(t:TE):TT:=λσ H Q=>t σ H λx H'=>∃ k,x = .bl k/\Q k H'
theorem Uu{op:CmpOp}{r:R2}(ho:cK X (compareOp op) r)(ha:PE X a ta)(hb:PE X b tb)(hm:behindInMarks op b=false):PT X (.Compare a [op] [b] pos) (Ut<|wx r ta tb):=by
 intro pins s σ H Q I h;refine wpAny_isTrue_Compare1 (aQ (ha pins s σ H _ I h) λv s1 ⟨x,H1,I1,r1,q1⟩=>aQ (hb pins s1 σ H1 _ I1 q1) λu s2 ⟨y,H2,I2,r2,q2⟩=>
  aQ (ho pins s2 σ H2 x y v u _ I2 r1 r2 q2) λc s3 ⟨z,H3,I3,r3,k,e,q3⟩=>?_) hm
 subst e;cases r3;exact FQ ⟨H3,I3,q3⟩
def oz(K:PySem.W.Frag)(x:V)(H:Hp)(k:Bool):Prop:=
 match x with
 | .non=>k=false
 | .bl b=>k=b
 | .int i=>k=(i != 0)
 | .str y=>y.length<=sizeLine/\k=((y.length:Int) != 0)
 | .iK y=>y.size<=sizeLine/\k=((y.size:Int) != 0)
 | .ref p=>(∃ xs,aq K H p xs/\k = !xs.isEmpty)\/(∃ xs,aJ K H p xs/\k = !xs.isEmpty)\/∃ kvs,H p=some (.dK kvs)/\k = !kvs.isEmpty
 | _=>False
theorem Uv{κ:Type}{kvs:List (κ×V)}{vs:List (κ×Value)}(r:KV kvs vs):(!vs.isEmpty) = !kvs.isEmpty:=by
 cases r <;> rfl
theorem KO{xs:List V}{its:List Value}(r:az xs its):(!its.toArray.isEmpty) = !xs.isEmpty:=by
 cases r <;> simp
theorem sM:(sizeLine:Nat) < 2 ^ 63:=by rw [DW];decide
theorem Uw:zp X (λx H Q=>∃ k,oz X.K x H k/\Q k H):=by
 intro pins s σ H x v Q I rx h;obtain⟨k,e,q⟩:=h;have hl:=sM;have hs:sizeLine=16777216:=DW;cases x with
 | non=>
  cases rx;have e':k=false:=e;subst e';exact truthy_none ⟨H,I,q⟩
 | bl b=>
  cases rx;have e':k=b:=e;subst e';exact FQ ⟨H,I,q⟩
 | int i=>
  obtain⟨t,rfl⟩:=rx;have e':k=(i != 0):=e;subst e';exact PySem.P.truthy_int ⟨H,I,q⟩
 | str y=>
  obtain⟨t,rfl⟩:=rx;obtain⟨hy,e'⟩:y.length<=sizeLine/\k=((y.length:Int) != 0):=e;subst e';exact PySem.P.truthy_str (by omega) ⟨H,I.tok _,q⟩
 | iK y=>
  obtain⟨t,rfl⟩:=rx;obtain⟨hy,e'⟩:y.size<=sizeLine/\k=((y.size:Int) != 0):=e;subst e';exact PySem.W.truthy_bytes (by omega) ⟨H,I.tok _,q⟩
 | ref p=>
  cases rx;have e':(∃ xs,aq X.K H p xs/\k = !xs.isEmpty)\/(∃ xs,aJ X.K H p xs/\k = !xs.isEmpty)\/∃ kvs,H p=some (.dK kvs)/\k = !kvs.isEmpty:=e
  rcases e' with ⟨xs,hx,e'⟩ | ⟨xs,hx,e'⟩ | ⟨kvs,hx,e'⟩
  ·subst e';obtain⟨its,r,pl,hz⟩:=I.list hx;have hlen:=r.length;exact wpAny_truthy_list pl.isList (by simp only [Au];omega) ⟨H,I.tok _,by rw [KO r];exact q⟩
  ·subst e';obtain⟨its,r,pl,hz⟩:=I.tuple hx;have hlen:=r.length;exact truthy_tuple pl (by simp only [Au];omega) ⟨H,I.tok _,by rw [KO r];exact q⟩
  ·subst e';obtain⟨hz,hS,vs,r,m⟩:kvs.length<=sizeLine/\(p == sysModules)=false/\∃ vs,KV kvs vs/\s.heap.DictOf (cS X.prog X.w) p vs:=I.aG p _ hx;have hlen:kvs.length=vs.length:=Paired.length r;exact wpAny_truthy_dict hS m (by omega) ⟨H,I.tok _,by rw [Uv r];exact q⟩
 | _=>exact(show False from e).elim
theorem Ux(ha:PE X a ta)(he:∀ whole,isTrue a X.env whole=(do let v <- whole;standAt a.pos;holding [v] (truthy v))) :
  PT X a (λσ H Q=>ta σ H λx H'=>∃ k,oz X.K x H' k/\Q k H'):=by
 intro pins s σ H Q I h;exact isTrue_plain (aQ (ha pins s σ H _ I h) λv s1 ⟨x,H1,I1,r1,q1⟩=>Uw pins s1 σ H1 x v Q I1 r1 q1)<|he _
theorem Uy:cK X (binaryOp .Add) (λx y H Q=>∃ i j,x = .str i/\y = .str j/\i.length+j.length<=sizeLine/\Q (.str<|i++j) H):=by
 intro pins s σ H x y v u Q I rx ry h;obtain⟨i,j,rfl,rfl,hz,q⟩:=h;obtain⟨t,rfl⟩:=rx;obtain⟨t',rfl⟩:=ry;exact add_str (λt' tk=>⟨.str<|i++j,H,I.tok _,⟨_,rfl⟩,q⟩) hz
theorem vals1{x:V}{us:List Value}(r:az [x] us):∃ u,us=[u]/\RelV x u:=by
 cases r with
 | cons r1 r2=>cases r2;exact⟨_,rfl,r1⟩
theorem vals2{x y:V}{us:List Value}(r:az [x,y] us):∃ u w',us=[u,w']/\RelV x u/\RelV y w':=by
 cases r with
 | cons r1 r2=>
  cases r2 with
  | cons r3 r4=>cases r4;exact⟨_,_,rfl,r1,r3⟩
theorem KP(hc:X.calm=true):fH X (.builtin "max") (λxs H Q=>∃ i j,xs=[.int i,.int j]/\Q (.int (if j > i then j else i)) H):=by
 intro pins s σ H xs us Q I r h;obtain⟨i,j,rfl,q⟩:=h;obtain⟨u,w',rfl,⟨t,rfl⟩,⟨t',rfl⟩⟩:=vals2 r;refine max_two_ints (I.ok.hd hc) λh' tk k=>⟨_,H,I.kept k,?_,q⟩
 by_cases hj:j > i
 ·rw [BP hj,BP hj];exact⟨_,rfl⟩
 ·rw [BL hj,BL hj];exact⟨_,rfl⟩
end
structure oA(h:Heap)(x dx C:Addr)(mA:Str->Option Value):Prop where
 obj:h.get? x=some (PySem.W.instObj C dx)
 ns:h.Ns1 dx mA
 ne:dx≠x
theorem Uz{h:Heap}{dx:Addr}{mA:Str->Option Value}(n:h.Ns1 dx mA):∃ od,h.get? dx=some od/\∀ name,PySem.W.lookIn name od=some (mA name):=by
 obtain⟨o,es,ep,ho,hd,hk,_,hm⟩:=n;refine⟨o,ho,λname=>?_⟩;have e:=hm name;unfold nsFind findBy at e;rw [<- Array.find?_toList] at e;unfold PySem.W.lookIn;rw [hd]
 dsimp only
 split
 ·rename_i y q;rw [q] at e;exact BZ some e
 ·rename_i q;rw [q] at e;have a:es.toList.any (·.refKey)=false:=by
   rw [List.any_eq_false];intro y hy;obtain⟨z,t,zv⟩:=hk y<|Array.mem_toList_iff.mp hy;simp [DictEntry.refKey,zv]
  have a':¬ es.toList.any (·.refKey)=true:=by rw [a];exact Av
  rw [BL a'];exact BZ some e
theorem oA.look{h:Heap}{x dx C:Addr}{mA:Str->Option Value}(I:oA h x dx C mA):∃ od,PySem.W.InstAt h x (PySem.W.instObj C dx) C (some od)/\∀ name,PySem.W.lookIn name od=some (mA name):=
 let ⟨od,ho,hl⟩:=Uz I.ns
 ⟨od,⟨I.obj,rfl,rfl,ho⟩,hl⟩
section
variable{prog:Program}{w:World}{A:Around}{E:Value->Shared->Prop}{s:Shared}{K:PySem.W.Frag}{x dx C f:Addr}{mA:Str->Option Value}{name:Str}{v:Value}
end
theorem cU.some_of{v:V}{o:Option Value}(r:cU (some v) o):∃ u,o=some u/\RelV v u:=by
 cases o with
 | none=>exact(show False from r).elim
 | some u=>exact⟨u,rfl,r⟩
section
variable{P:Program}{w:World}{H H':Hp}{h h':Heap}{a C dx:Addr}{fs SZ:List (Str×V)}
theorem UA(aG:cv P w H h)(e:H a=some (.ins C dx fs)):∃ mA,oA h a dx C mA/\(∀ f,cU (fs.lookup f)<|mA f)/\PySem.Within mA (fs.map (·.1))/\fs.length<=1000/\H dx=some (.own a):=by
 obtain⟨d,z,ne,ob,mA,n,r,q⟩:=(show aD P w H h a (.ins C dx fs) from aG a _ e);exact⟨mA,⟨ob,n,ne⟩,r,q,z,d⟩
end
structure zx(K:PySem.W.Frag)(C:Addr):Prop where
 pg:PySem.W.plainGet K C Str.empty=true
 hd:PySem.W.hasDictIn K C=true
 po:PySem.W.plainOver K C=true
 sa:PySem.W.findIn K (.ref C) "__setattr__" = some (some<|.builtin "object.__setattr__")
theorem zx.get{K:PySem.W.Frag}{C:Addr}(c:zx K C)(f:Str):PySem.W.plainGet K C f=true:=c.pg
section
variable{X:Cx}{pins:List (Addr×Obj)}{σ:St}{H:Hp}{s:Shared}{a C dx:Addr}{fs:List (Str×V)}{f:Str}{v:V}{A:Around}{E:Value->Shared->Prop}
end
section
variable{X:Cx}{o e value:Expr}{f:Str}{pos pos' zy:Pos}{ta tv:TE}
end
section
variable{X:Cx}{pins:List (Addr×Obj)}{σ:St}{H:Hp}{s:Shared}{A:Around}{E:Value->Shared->Prop}{Q:Value->Shared->Prop}{c:Value}{b:Bool}
inductive cW (K:PySem.W.Frag) (H:Hp):V->Value->Prop where
 | non:cW K H .non<|.type "NoneType"
 | bl (x:Bool):cW K H (.bl x)<|.type "bool"
 | int (i:Int):cW K H (.int i)<|.type "int"
 | str (x:Str):cW K H (.str x)<|.type "str"
 | qw (x:UInt64):cW K H (.qw x)<|.type "float"
 | lst {a:Addr} {xs:List V} (e:H a=some (.lst xs)):cW K H (.ref a)<|.type "list"
 | bD {a:Addr} {o:Obj} {xs:List V} (e:H a=some (.bD o<|.lst xs)):cW K H (.ref a)<|.type "list"
 | tup {a:Addr} {xs:List V} (e:H a=some (.tup xs)):cW K H (.ref a)<|.type "tuple"
 | dK {a:Addr} {kvs:List (Key×V)} (e:H a=some (.dK kvs)):cW K H (.ref a)<|.type "dict"
 | dT {a:Addr} {kvs:List (List Key×V)} (e:H a=some (.dT kvs)):cW K H (.ref a)<|.type "dict"
 | ins {a C dx:Addr} {fs:List (Str×V)} (e:H a=some (.ins C dx fs)) (cl:zx K C) (ha:PySem.W.findIn K (.ref C) "__class__" = some (some<|.builtin "object.__class__"))
   (hn:PySem.W.specialIn K (.builtin "object.__class__") "__get__" = some (some<|.builtin "getset_descriptor.__get__")) (KS:PySem.W.takesIn K (.builtin "object.__class__")=some true)
   (hm:PySem.W.mroIn K C (.type "object")=some true):cW K H (.ref a)<|.ref C
theorem UB{x:V}{u t:Value}(I:Inv X pins σ H s)(rx:RelV x u)(ty:cW X.K H x t)(e:PySem.W.kitOne X.K t c=some b)(h:∀ tk,Q (.bool b) {s with toks:=tk}) :
  wpAny (model X.prog X.w) A (call (.builtin "isinstance") [u,c]) Q E s:=by
 cases ty with
 | non=>cases (show u=Value.none from rx);exact DX PySem.W.kitx_none I.fG True.intro e (λz=>nomatch z) h
 | bl y=>cases (show u=Value.bool y from rx);exact DX PySem.W.kitx_bool I.fG True.intro e (λz=>nomatch z) h
 | int i=>obtain⟨t,q⟩:=(show ∃ t,u=Value.int i t from rx);cases q;exact DX PySem.W.kitx_int I.fG True.intro e (λz=>nomatch z) h
 | str y=>obtain⟨t,q⟩:=(show ∃ t,u=Value.str y t from rx);cases q;exact DX PySem.W.kitx_str I.fG True.intro e (λz=>nomatch z) h
 | qw y=>obtain⟨t,q⟩:=(show ∃ t,u=Value.float y t from rx);cases q;exact DX PySem.W.kitx_float I.fG True.intro e (λz=>nomatch z) h
 | @lst a xs ea=>
  cases (show u=Value.ref a from rx);obtain⟨_,_,n,_,h1⟩:=(show aD X.prog X.w H s.heap a (.lst xs) from I.aG a _ ea);exact DX PySem.W.kitx_list I.fG ⟨_,h1,rfl⟩ e (λz=>nomatch z) h
 | @bD a ob xs ea=>
  cases (show u=Value.ref a from rx);obtain⟨_,_,_,n,_,h1⟩:=(show aD X.prog X.w H s.heap a (.bD ob<|.lst xs) from I.aG a _ ea);exact DX PySem.W.kitx_list I.fG ⟨_,h1,rfl⟩ e (λz=>nomatch z) h
 | @tup a xs ea=>
  cases (show u=Value.ref a from rx);obtain⟨_,_,_,p⟩:=(show aD X.prog X.w H s.heap a (.tup xs) from I.aG a _ ea);obtain⟨o,h1,h2,_⟩:=p;exact DX PySem.W.kitx_tuple I.fG ⟨o,h1,h2⟩ e (λz=>nomatch z) h
 | @dK a kvs ea=>
  cases (show u=Value.ref a from rx);obtain⟨_,_,vs,_,p⟩:=(show aD X.prog X.w H s.heap a (.dK kvs) from I.aG a _ ea);obtain⟨o,es,ep,h1,h2,_⟩:=p;exact DX PySem.W.kitx_dict I.fG ⟨o,h1,h2.1⟩ e (λz=>nomatch z) h
 | @dT a kvs ea=>
  cases (show u=Value.ref a from rx);obtain⟨_,_,xs,_,o,es,ep,h1,h2,_⟩:=(show aD X.prog X.w H s.heap a (.dT kvs) from I.aG a _ ea);exact DX PySem.W.kitx_dict I.fG ⟨o,h1,h2.1⟩ e (λz=>nomatch z) h
 | @ins a C dx fs ea cl ha hn KS hm=>
  cases (show u=Value.ref a from rx);obtain⟨mA,O,_⟩:=UA I.aG ea;obtain⟨od,J,_⟩:=O.look;exact DX (PySem.W.kitx_own (cl.get _) cl.hd ha hn KS hm) I.fG J e (λz=>nomatch z) h
end
structure bz(k:Nat)(A:Around):Prop where
 hd:A.handled=none
 dp:A.depth+3 * k+5 < recursionLimit
 un:A.units+16 * k+200 < cLine
theorem bz.mono{j k:Nat}{A:Around}(r:bz k A)(h:j<=k):bz j A:=⟨r.hd,by have:=r.dp;omega,by have:=r.un;omega⟩
theorem bz.deeper{k:Nat}{A:Around}(r:bz (k+1) A)(env:Env):bz k (A.deeper env):=
 ⟨r.hd,by have:=r.dp;show A.depth+1+3 * k+5 < _;omega,by have:=r.un;show A.units+3+16 * k+200 < _;omega⟩
theorem bz.depth{k:Nat}{A:Around}(r:bz k A):A.depth < recursionLimit:=by have:=r.dp;omega
def zA:TA:=λ_ H Q=>Q [] H
def KU(ta:TE)(tr:TA):TA:=λσ H Q=>ta σ H λx H1=>tr σ H1 λxs H2=>Q (x :: xs) H2
section
variable{X:Cx}{e:Expr}{es:List Expr}{te:TE}{t:TA}{pos:Pos}
theorem UC:PA X [] zA:=λ_ _ _ _ H Q I h=>Calls.spliced_nil ⟨[],H,I,.nil,h⟩
theorem UD(ha:PE X e te)(hr:PA X es t)(hs:starEach (e :: es) X.env=(false,eval e X.env) :: starEach es X.env:=by rfl):PA X (e :: es) (KU te t):=by
 intro pos pins s σ H Q I h;rw [hs];show wpAny _ _ (spliced<|(false,eval e X.env) :: backTo pos (starEach es X.env)) _ _ s;refine QB<|aQ (ha pins s σ H _ I h) λu s1 ⟨x,H1,I1,r1,q1⟩=>?_;exact aQ (hr pos pins s1 σ H1 _ I1 q1) λus s2 ⟨xs,H2,I2,r2,q2⟩=>⟨x :: xs,H2,I2,.cons r1 r2,q2⟩
def zB(t:TA):TE:=λσ H Q=>t σ H λxs H1=>xs.length<=sizeLine/\∀ p,H1 p=none->Q (.ref p) (upd H1 p<|.tup xs)
def zC(t:TA):TE:=λσ H Q=>t σ H λxs H1=>xs.length<=sizeLine/\∀ p,H1 p=none->Q (.ref p) (upd H1 p<|.lst xs)
theorem UE{x1}(h:PA X es t):PE X (.Tuple es x1 pos) (zB t):=by
 intro pins s σ H Q I hq;refine wpAny_Tuple_spliced (aQ (h pos pins s σ H _ I hq) λus s1 ⟨xs,H1,I1,r,z,q⟩=>⟨by rw [<- r.length];exact z,?_⟩);have hf:H1 s1.heap.objs.size=none:=I1.aG.fresh<|Al _;refine⟨.ref s1.heap.objs.size,upd H1 s1.heap.objs.size<|.tup xs,I1.laid (t':=s1.toks) (λb u e=>Ag _ e) (Al _) ?_,rfl,q _ hf⟩;exact⟨z,us,r,⟨_,At _ rfl,rfl,_,rfl⟩⟩
theorem UH(h:PA X es t):PE X (.List es pos) (zC t):=by
 intro pins s σ H Q I hq;refine wpAny_List_spliced (aQ (h pos pins s σ H _ I hq) λus s1 ⟨xs,H1,I1,r,z,q⟩=>⟨by rw [<- r.length];exact z,?_⟩);have hf:H1 s1.heap.objs.size=none:=I1.aG.fresh<|Al _;refine⟨.ref s1.heap.objs.size,upd H1 s1.heap.objs.size<|.lst xs,I1.laid (t':=s1.toks) (λb u e=>Ag _ e) (Al _) ?_,rfl,q _ hf⟩;exact⟨z,us,0,r,At _ rfl⟩
end
abbrev Sp:=List V->Hp->VK->XK->Prop
abbrev gO:=List Env->Hp->Shared->XK->Value->Shared->Prop
structure lh(P:Program)(w:World)(K:PySem.W.Frag)(mg:Str->Option Value)(base:Heap)(A:Around)(outer:List Env)(s:Shared)(H:Hp):Prop where
 frames:A.frames=some outer
 mod:Mod K mg base
 bs:∀ b o,base.get? b=some o->s.heap.get? b=some o/\H b=none
 mO:base.objs.size<=s.heap.objs.size
 dz:s.heap.FunFrames base outer
 qA:∀ b∈jf outer,H b=none
 aG:cv P w H s.heap
 bare:AllBare s.gens
def CE(outer:List Env)(P:Program)(w:World)(H:Hp)(s:Shared)(Q:VK)(u:Value)(s':Shared):Prop:=
 ∃ v H',s'.os=s.os/\AllBare s'.gens/\Un (jf outer) [] H H' s.heap s'.heap/\cv P w H' s'.heap/\RelV v u/\Q v H'
def CR(CX:gO)(outer:List Env)(P:Program)(w:World)(H:Hp)(s:Shared)(Q:VK)(E:XK)(r:Result)(s':Shared):Prop:=
 match r with
 | .ok (.ret u)=>CE outer P w H s Q u s'
 | .ok _=>False
 | .error e=>CX outer H s E e s'
structure aI(P:Program)(w:World)(K:PySem.W.Frag)(mg:Str->Option Value)(base:Heap)(CX:gO)(k:Nat)(f:Addr)(fd:FuncData)(ps:List Str)(sp:Sp):Prop where
 len:∀ vs H Q E,sp vs H Q E->vs.length=ps.length
 run:∀(A:Around) (outer:List Env) (s:Shared) (H:Hp) (args:Args) (us:List Value) (vs:List V) (Q:VK) (E:XK),bz k A->lh P w K mg base A outer s H->BindsTo s fd args (ps.zip us)->az vs us->sp vs H Q E ->
  codeAny (model P w) A (.call (.ref f) args) (CR CX outer P w H s Q E) s
theorem aI.mono{P:Program}{w:World}{K:PySem.W.Frag}{mg:Str->Option Value}{base:Heap}{CX:gO}{j k:Nat}{f:Addr}{fd:FuncData}{ps:List Str}{sp:Sp}(F:aI P w K mg base CX j f fd ps sp)(h:j<=k) :
  aI P w K mg base CX k f fd ps sp:=⟨F.len,λA outer s H args us vs Q E hr=>F.run A outer s H args us vs Q E<|hr.mono h⟩
section
variable{X:Cx}{pins:List (Addr×Obj)}{σ:St}{H:Hp}{s s':Shared}
theorem Inv.zD(I:Inv X pins σ H s):lh X.prog X.w X.K X.mg X.base X.A X.stack s H:=
 ⟨I.ok.frames,I.ok.mod,I.bs,Bs I.ok.mO I.sz,I.stack,I.hG,I.aG,I.bare⟩
theorem Inv.after{Q:VK}{u:Value}(I:Inv X pins σ H s)(h:CE X.stack X.prog X.w H s Q u s'):EP X pins σ Q u s':=by
 obtain⟨v,H',os,bare,un,aG,r,q⟩:=h;obtain⟨hh,g,d,t,bV⟩:=s';obtain rfl:bV=s.os:=os;exact⟨v,H',I.call (h':=hh) (g':=g) (d':=d) (t':=t) (ch:=[]) un aG bare (λb z=>absurd z<|by simp),r,q⟩
end
def KW(sp:Sp)(li:List V)(E:XK)(t:TA):TE:=λσ H Q=>t σ H λvs H1=>sp (vs++li) H1 Q E
def Binds(K:PySem.W.Frag)(fd:FuncData)(ps:List Str)(ds:List Value):Prop:=
 ∀(s:Shared) (us:List Value),K.In s.heap->(us++ds).length=ps.length->BindsTo s fd ⟨us,[]⟩ (ps.zip<|us++ds)
theorem Binds.all{K:PySem.W.Frag}{fd:FuncData}{ps:List Str}(h:∀ us:List Value,us.length=ps.length->bindArgs fd ⟨us,[]⟩=pure (ps.zip us)):Binds K fd ps []:=λs us _ hl=>by
 rw [Bi] at hl ⊢;exact .of_eq<|h us hl
def sN(CX:gO)(X:Cx)(E:XK):Prop:=∀(pins:List<|Addr×Obj) (σ:St) (H:Hp) (s:Shared) (e:Value) (s':Shared),Inv X pins σ H s->CX X.stack H s E e s'->X.xe e s'
section
variable{X:Cx}{CX:gO}{k:Nat}{f C:Addr}{fd:FuncData}{ps:List Str}{sp:Sp}{li:List V}{ds:List Value}{E:XK}{x m:Str}{p pos apos:Pos}{e o:Expr}{es:List Expr}{ta:TE}{t:TA}
theorem UI{pins:List (Addr×Obj)}{σ:St}{H:Hp}{s:Shared}{Q:VK}{us:List Value}{vs:List V}(F:aI X.prog X.w X.K X.mg X.base CX k f fd ps sp)(hr:bz k X.A)(hb:Binds X.K fd ps ds)(hd:az li ds)(hx:sN CX X E)
  (I:Inv X pins σ H s) (r:az vs us) (h:sp (vs++li) H Q E):wpAny (model X.prog X.w) X.A (call (.ref f) us) (EP X pins σ Q) X.xe s:=by
 have r2:az (vs++li) (us++ds):=r.append hd;have hl:(us++ds).length=ps.length:=by rw [<- r2.length];exact F.len _ _ _ _ h
 refine wpAny_call<|JL (F.run X.A X.stack s H ⟨us,[]⟩ (us++ds) (vs++li) Q E hr I.zD (hb s us I.fG hl) r2 h) λr s' hq=>?_;cases r with
 | error e=>exact hx pins σ H s e s' I hq
 | ok fl=>
  cases fl with
  | ret u=>exact I.after hq
  | next=>exact False.elim hq
  | brk=>exact False.elim hq
  | cont=>exact False.elim hq
theorem UK(F:aI X.prog X.w X.K X.mg X.base CX k f fd ps sp)(hr:bz k X.A)(hg:Gl X x)(hm:X.mg x=some (.ref f))(hk:PySem.W.keepIn X.K (.ref f)=true)(hb:Binds X.K fd ps ds)(hd:az li ds)(hx:sN CX X E)
  (ha:PA X (e :: es) t) (dU:(x == ("__debug__" : Str))=false:=by decide) (he:starEach (e :: es) X.env=(false,eval e X.env) :: starEach es X.env:=by rfl) (oB:(backTo pos<|starEach es X.env).any (·.1)=false:=by rfl) :
  PE X (.Call (.Name x p) (e :: es) [] pos) (KW sp li E t):=by
 intro pins s σ H Q I h;refine KD<|Ti I hg hm ?_ dU;refine PySem.W.callWith_K (h₀:=X.base) I.ok.mod.sn hk (aQ (ha pos pins s σ H _ I h) λus s1 ⟨vs,H1,I1,r,q⟩=>⟨I1.fG,?_⟩) he oB;exact UI F hr hb hd hx I1 r q
end
section
variable{X:Cx}{CX:gO}{k:Nat}{f C:Addr}{fd:FuncData}{ps ks:List Str}{sp:Sp}{E:XK}{x m:Str}{p pos apos UM:Pos}{e o:Expr}{es:List Expr}{kws:List Keyword}{te ta:TE}{t tk:TA}{nm:Option Str}
variable{g:List Value->List Value->List Value}{gV:List V->List V->List V}
end
structure ak(N P:List Str)(sc:Scope):Prop where
 kind:sc.kind = .function
 co:sc.isCoroutine=false
 gen:sc.isGenerator=false
 nd:N.Nodup
 pre:N.take P.length=P
 par:∀ x∈P,sc.names.lookup x=some .local\/sc.names.lookup x=some .cell
 oC:∀ y∈sc.names,y.2 ≠ .free
theorem K0{kindOf:Str->Option NameKind}{x:Str}:∀{binds:List (Str×Value)} {m:Str->Option Value},(∀ v,(x,v)∉binds)->bindL kindOf binds m x=m x
 | [],_,_=>rfl
 | (n,v) :: r,m,h=>by
  unfold bindL;rw [K0 λw hw=>h w<|Ai _ hw]
  split
  ·have:x≠n:=by rintro rfl;exact h v Ae
   simp [this]
  ·rfl
theorem K1{kindOf:Str->Option NameKind}{x:Str}:∀{binds:List (Str×Value)} {m:Str->Option Value},(∀ v,(x,v)∉binds)->bindC kindOf binds m x=m x
 | [],_,_=>rfl
 | (n,v) :: r,m,h=>by
  unfold bindC;rw [K1 λw hw=>h w<|Ai _ hw]
  split
  ·rfl
  ·have:x≠n:=by rintro rfl;exact h v Ae
   simp [this]
theorem K2{kindOf:Str->Option NameKind}{x:Str}{v:Value}:∀{P:List Str} {vs:List Value} {i:Nat} {m:Str->Option Value},P.Nodup->P[i]?=some x->vs[i]?=some v->kindOf x=some .local ->
  bindL kindOf (P.zip vs) m x=some v
 | [],_,_,_,_,h,_,_=>by simp at h
 | _ :: _,[],_,_,_,_,h,_=>by simp at h
 | p :: P,w :: vs,0,m,nd,h1,h2,hk=>by
  simp at h1 h2;subst h1;subst h2;show bindL kindOf ((p,w) :: P.zip vs) m p=_;unfold bindL;rw [K0 λv hv=>(Be.mp nd).1 (RW hv).1,BP hk];simp
 | p :: P,w :: vs,i+1,m,nd,h1,h2,hk=>by
  show bindL kindOf ((p,w) :: P.zip vs) m x=_;unfold bindL;exact K2 (i:=i) (Be.mp nd).2 (by simpa using h1) (by simpa using h2) hk
theorem K3{kindOf:Str->Option NameKind}{x:Str}{v:Value}:∀{P:List Str} {vs:List Value} {i:Nat} {m:Str->Option Value},P.Nodup->P[i]?=some x->vs[i]?=some v->kindOf x≠some .local ->
  bindC kindOf (P.zip vs) m x=some v
 | [],_,_,_,_,h,_,_=>by simp at h
 | _ :: _,[],_,_,_,_,h,_=>by simp at h
 | p :: P,w :: vs,0,m,nd,h1,h2,hk=>by
  simp at h1 h2;subst h1;subst h2;show bindC kindOf ((p,w) :: P.zip vs) m p=_;unfold bindC;rw [K1 λv hv=>(Be.mp nd).1 (RW hv).1,BL hk];simp
 | p :: P,w :: vs,i+1,m,nd,h1,h2,hk=>by
  show bindC kindOf ((p,w) :: P.zip vs) m x=_;unfold bindC;exact K3 (i:=i) (Be.mp nd).2 (by simpa using h1) (by simpa using h2) hk
def start(N:List Str)(vs:List V):St:=vs.map some++List.replicate (N.length - vs.length) none
def fJ(CX:gO)(P:Program)(w:World)(K:PySem.W.Frag)(mg:Str->Option Value)(base:Heap)(N:List Str)(qual:Str)(scope:Scope)(f:Addr)(cd:Value)(A:Around)(outer:List Env)(s:Shared)(H:Hp)(E:XK):Cx where
 prog:=P
 w:=w
 K:=K
 mg:=mg
 base:=base
 A:=A.deeper<|envOfC qual scope s.heap.objs.size f cd
 N:=N
 s₀:=s
 H₀:=H
 env:=envOfC qual scope s.heap.objs.size f cd
 outer:=outer
 stack:=envOfC qual scope s.heap.objs.size f cd :: outer
 ex:=[]
 calm:=true
 fn:=λ_=>true
 pn:=[]
 xe:=λe s'=>wpAny (model P w) (A.deeper<|envOfC qual scope s.heap.objs.size f cd) (leaving (envOfC qual scope s.heap.objs.size f cd) e) (λ_ oD=>CX outer H s E e oD) (λe' oD=>CX outer H s E e' oD) s'
theorem K4{sc:Scope}{n:Nat}{x:Str}(h:sc.names.lookup x=some .cell):∃ c,(cellsFrom n sc.names []).lookup x=some c:=by
 have q:=JF sc.names n []<|.inl h;exact Em.mp q
theorem UN{CX:gO}{P:Program}{w:World}{K:PySem.W.Frag}{mg:Str->Option Value}{base:Heap}{N ps:List Str}{qual:Str}{scope:Scope}{f:Addr}{cd:Value}{A:Around}{outer:List Env}{s s1:Shared}{H:Hp}{E:XK}{us:List Value}{vs:List V}
  (S:ak N ps scope) (hd:A.handled=none) (e0:lh P w K mg base A outer s H) (hl:vs.length=ps.length) (r:az vs us)
  (x:InCallC s s.heap.objs.size (bindL (envOfC qual scope s.heap.objs.size f cd).kindOf (ps.zip us) λ_=>none) (cellsFrom (s.heap.objs.size+1) scope.names []) (bindC (envOfC qual scope s.heap.objs.size f cd).kindOf (ps.zip us) λ_=>none) s1) :
  Inv (fJ CX P w K mg base N qual scope f cd A outer s H E) [] (start N vs) H s1:=by
 have oB:ps.length<=N.length:=by have:=BZ List.length S.pre;rw [Bf] at this;omega
 obtain⟨h1,tk,rfl,hk⟩:=x.done;have sO:∀ b:Addr,b∉(fJ CX P w K mg base N qual scope f cd A outer s H E).ex:=λb z=>absurd (show b∈([]:List Addr) from z) (by simp);refine⟨⟨e0.mod,S.kind,rfl,rfl,Al _,λy z c h1 h2=>?_,λy hy=>?_,λy c _ h=>?_,λ_=>hd,Around.frames_deeper e0.frames,.inr ⟨rfl,rfl⟩,λb z=>absurd z<|sO b,e0.bs,e0.mO,λb _ _=>sO b,λb z=>absurd z<|sO b,e0.dz,e0.qA⟩,
  rfl,e0.bare,Un.kept hk,⟨_,x.toInCall.ns,λi y v h1 h2 h3=>?_⟩,λy c h=>⟨_,x.cell y c h⟩,e0.aG.fresh<|Al _,λy c h=>?_,λp hp=>absurd (show p∈([]:List<|Addr×Obj) from hp) (by simp),e0.aG.kept hk,?_⟩
 ·exact name_of_addr x.apart (CZ h1)<|CZ h2
 ·have hy:scope.names.lookup y=some .cell\/scope.names.lookup y=some .free:=hy
  rcases hy with hy | hy
  ·exact K4 hy
  ·exact absurd rfl (S.oC _<|CZ hy)
 ·exact Co<|x.above y c<|CZ h
 ·have hi:i < vs.length:=by
   unfold start at h2
   by_cases hi:i < vs.length
   ·exact hi
   ·rw [Az<|by simpa using hi] at h2;rw [Es] at h2
    split at h2 <;> cases h2
  have ha:vs[i]?=some v:=by
   unfold start at h2;rw [As (by simpa using hi),Ah] at h2;cases e:vs[i]? with
   | none=>rw [e] at h2;cases h2
   | some a=>rw [e] at h2;cases h2;rfl
  obtain⟨u,hu,rv⟩:=r.get ha;have hp:ps[i]?=some y:=by
   rw [<- S.pre,Dm<|by omega];exact h1
  have K5:ps.Nodup:=by rw [<- S.pre];exact S.nd.sublist<|List.take_sublist _ _
  refine⟨u,rv,?_⟩
  rcases S.par y (Ap hp) with k | k
  ·exact .inl ⟨k,K2 K5 hp hu k⟩
  ·obtain⟨c,e⟩:=K4 (n:=s.heap.objs.size+1) k;refine .inr ⟨.inl k,c,e,?_⟩;have q:=x.cell y c e;rw [K3 K5 hp hu<|by show scope.names.lookup y≠_;rw [k];decide] at q;exact q
 ·exact e0.aG.fresh<|Co<|x.above y c<|CZ h
 ·unfold start;show _=N.length;rw [Af,Aa,Fd];omega
theorem UO{CX:gO}{P:Program}{w:World}{K:PySem.W.Frag}{mg:Str->Option Value}{base:Heap}{k:Nat}{f:Addr}{name qual:Str}{params:Arguments}{body:List Stmt}{scope:Scope}{dV kV doc pm bQ ct oc:Value}{an od:Option Addr}
  {lj:Array (Option Value)} {N ps:List Str} {sp:Sp} (lk:K.lookup f=some ⟨oc,od,.func<|PySem.W.fnOf name qual params body scope dV kV doc pm an bQ ct,lj⟩) (jg:PySem.W.codeIn K bQ qual=true) (S:ak N ps scope)
  (len:∀ vs H Q E,sp vs H Q E->vs.length=ps.length)
  (dB : ∀ (A : Around) (outer : List Env) (s : Shared) (H : Hp) (vs : List V) (Q : VK) (E : XK), bz k (A.deeper<|envOfC qual scope s.heap.objs.size f bQ) → sp vs H Q E →
   ∃ t,iM (fJ CX P w K mg base N qual scope f bQ A outer s H E) body t/\t {nx:=λ_ H'=>Q .non H',rt:=Q} (start N vs) H) :
  aI P w K mg base CX (k+1) f (PySem.W.fnOf name qual params body scope dV kV doc pm an bQ ct) ps sp:=by
 refine⟨len,λA outer s H args us vs Q E hr e0 hb r d8=>?_⟩;have hl:=len _ _ _ _ d8;have KX:K.In s.heap:=e0.mod.sn.keeps λb o e=>(e0.bs b o e).1;have lim:s.heap.NoLimit:=e0.mod.nolimit.keeps λb o e=>(e0.bs b o e).1;have sP:∀ y∈ps.zip us,scope.names.lookup y.1=some .local\/(scope.names.lookup y.1=some .cell/\((cellsFrom (s.heap.objs.size+1) scope.names []).lookup y.1).isSome=true):=λ⟨n,v⟩ hy=>by
  rcases S.par n (RW hy).1 with q | q
  ·exact .inl q
  ·exact .inr ⟨q,JF _ _ _<|.inl q⟩
 refine codeAny_call_function hr.depth (KX _ _ lk) rfl S.co S.gen rfl (PySem.W.codeRec_of KX jg) (hb _ _ _ _ ?_);refine wpAny_newFunctionEnv_cells S.kind sP λenv he s1 x=>?_;subst he;refine⟨lim.keeps x.toInCall.keep,codeAny_func ?_⟩;obtain⟨t,ht,hq⟩:=dB A outer s H vs Q E (hr.deeper _) d8;have I:Inv (fJ CX P w K mg base N qual scope f bQ A outer s H E) [] (start N vs) H s1:=UN S hr.hd e0 hl r x;refine CW (ht [] s1 (start N vs) H _ I hq) (λfl s' hs=>?_) λe s' hs=>hs;have fin:∀{σ':St} {H':Hp} {v:V} {u:Value},Inv (fJ CX P w K mg base N qual scope f bQ A outer s H E) [] σ' H' s'->RelV v u->Q v H'->CE outer P w H s Q u s':=
  λ{σ' H' v u} J rv q=>⟨v,H',J.os,J.bare,J.base,J.aG,rv,q⟩
 cases fl with
 | ret u=>
  obtain⟨v,σ',H',J,rv,q⟩:=hs;exact fin J rv q
 | next=>
  obtain⟨σ',H',J,q⟩:=hs;exact fin (v:=V.non) (u:=Value.none) J rfl q
 | brk=>
  obtain⟨_,_,_,q⟩:=hs;exact False.elim q
 | cont=>
  obtain⟨_,_,_,q⟩:=hs;exact False.elim q
section
variable{X:Cx}{x:Str}{p pos:Pos}{e:Expr}{es:List Expr}{t:TA}{id T:String}{r:List V->Hp->VK->Prop}
def wB(r:List V->Hp->VK->Prop)(t:TA):TE:=λσ H Q=>t σ H λvs H1=>r vs H1 Q
theorem UP(hc:fH X (.builtin id) r)(hg:Gl X x)(hm:X.mg x=none)(hv:bootBuiltins x=some (.builtin id))(ha:PA X (e :: es) t)(hn:x ≠ "__name__":=by decide)(dU:(x == ("__debug__" : Str))=false:=by decide)
  (he:starEach (e :: es) X.env=(false,eval e X.env) :: starEach es X.env:=by rfl) (oB:(backTo pos<|starEach es X.env).any (·.1)=false:=by rfl):PE X (.Call (.Name x p) (e :: es) [] pos) (wB r t):=by
 intro pins s σ H Q I h;refine KD<|oi I hg hm hv ?_ hn dU;exact PyProof.Rows.callWith_builtin1 (aQ (ha pos pins s σ H _ I h) λus s1 ⟨vs,H1,I1,r1,q1⟩=>hc pins s1 σ H1 vs us Q I1 r1 q1) he oB
theorem UQ(hc:fH X (.type T) r)(hg:Gl X x)(hm:X.mg x=none)(hv:bootBuiltins x=some (.type T))(ha:PA X (e :: es) t)(hn:x ≠ "__name__":=by decide)(dU:(x == ("__debug__" : Str))=false:=by decide)
  (he:starEach (e :: es) X.env=(false,eval e X.env) :: starEach es X.env:=by rfl) (oB:(backTo pos<|starEach es X.env).any (·.1)=false:=by rfl):PE X (.Call (.Name x p) (e :: es) [] pos) (wB r t):=by
 intro pins s σ H Q I h;refine KD<|oi I hg hm hv ?_ hn dU;exact JN (aQ (ha pos pins s σ H _ I h) λus s1 ⟨vs,H1,I1,r1,q1⟩=>hc pins s1 σ H1 vs us Q I1 r1 q1) he oB
end
end L2
namespace HT
open PySem PyProof.Rows
section
open PySem.SeqAt
open PySem.AutoSeq1 (wpAny_loadPart')
open PySem.MeetsSeq PySem.MeetsSeq2 PySem.MeetsSeq3
end
section
variable{prog:Program}{w:World}{A:Around}{E:Value->Shared->Prop}{s:Shared}
def bp(n d:Nat):Option Int->Nat
 | none=>d
 | some v=>if v < 0 then(v+(n:Int)).toNat else min v.toNat n
theorem fK(n d:Nat):bp n d none=d:=rfl
theorem ie(n d k:Nat):bp n d (some (k:Int))=min k n:=by
 show(if(k:Int) < 0 then((k:Int)+(n:Int)).toNat else min (k:Int).toNat n)=min k n;rw [BL (by omega),Bc]
theorem UR(n d:Nat)(hd:d<=n)(o:Option Int):bp n d o<=n:=by
 cases o with
 | none=>exact hd
 | some v=>
  show(if v < 0 then(v+(n:Int)).toNat else min v.toNat n)<=n
  by_cases hv:v < 0
  ·rw [BP hv];omega
  ·rw [BL hv];exact Nat.min_le_right _ _
theorem K6(v:Int)(n d:Nat):(if v < 0 then max (v+(n:Int)) 0 else min v (n:Int))=((bp n d (some v):Nat):Int):=by
 show(if v < 0 then max (v+(n:Int)) 0 else min v (n:Int))=(((if v < 0 then(v+(n:Int)).toNat else min v.toNat n):Nat):Int)
 by_cases hv:v < 0
 ·simp only [BP hv];omega
 ·simp only [BL hv];omega
theorem UT(lo hi:Option Int)(n:Nat):Builtin.Slice.sliceAdjust lo hi 1 (n:Int)=(((bp n 0 lo:Nat):Int),((bp n n hi:Nat):Int)):=by
 have h1:¬((1:Int) < 0):=by omega
 unfold Builtin.Slice.sliceAdjust;simp only [h1,CV];refine GX ?_ ?_
 ·cases lo with
  | none=>rfl
  | some v=>exact K6 v n 0
 ·cases hi with
  | none=>rfl
  | some v=>exact K6 v n n
theorem UU(i j:Nat):Builtin.Slice.slicePlaces (i:Int) (j:Int) 1=j - i:=by
 unfold Builtin.Slice.slicePlaces;have h1:(1:Int) > 0:=by omega
 simp only [h1,DP,Int.ediv_one]
 split <;> omega
theorem K7{v:Value}{o:Option Int}{Q:Option Int->Shared->Prop}(p:IsPart v o)(h:Q o s):wpAny (model prog w) A (Builtin.Slice.slicePartIndex v) Q E s:=by
 cases p with
 | none=>exact slicePart_none h
 | int i t=>exact slicePart_int h
theorem UX{sl:Addr}{vl vu:Value}{lo hi:Option Int}{n:Nat}{Q:Int×Int×Nat->Shared->Prop}(hs:s.heap.IsSliceOf sl vl vu .none)(pl:IsPart vl lo)(pu:IsPart vu hi)
  (h:Q (((bp n 0 lo:Nat):Int),1,bp n n hi - bp n 0 lo) s):wpAny (model prog w) A (Builtin.Slice.sliceApplied (.ref sl)<|pure (n:Int)) Q E s:=by
 obtain⟨os,oE,jH,wC⟩:=id hs;unfold Builtin.Slice.sliceApplied Builtin.Slice.sliceFields;refine BJ<|BJ<|JV oE wC (x:=vl) rfl (BJ<|JV oE wC (x:=vu) rfl (BJ<|JV oE wC (x:= .none) rfl (BK ?_)));refine BJ<|slicePart_none ?_;show wpAny _ _ (if((1:Int) == 0)=true then _ else _) _ _ s;rw [BL<|by decide];refine BJ<|K7 pl<|BJ<|K7 pu<|BJ<|BK ?_;show wpAny _ _ (match Builtin.Slice.sliceAdjust lo hi 1 (n:Int) with | (lo,hi)=>pure (lo,(1:Int),Builtin.Slice.slicePlaces lo hi 1)) _ _ s;rw [UT lo hi n];show wpAny _ _ (pure (((bp n 0 lo:Nat):Int),(1:Int),Builtin.Slice.slicePlaces ((bp n 0 lo:Nat):Int) ((bp n n hi:Nat):Int) 1)) _ _ s;rw [UU];exact BK h
theorem UY(xs:Array Value)(i k:Nat):((List.range k).filterMap λ(m:Nat)=>xs[((i:Int)+(m:Int) * 1).toNat]?).toArray=((xs.toList.drop i).take k).toArray:=by
 have e:(λ(m:Nat)=>xs[((i:Int)+(m:Int) * 1).toNat]?)=λm=>xs[i+m]?:=by
  funext m
  have:((i:Int)+(m:Int) * 1).toNat=i+m:=by omega
  rw [this]
 rw [e];have:=pick_run xs i k;rw [List.filterMap_map] at this;have e2:((λx=>xs[x]?) ∘ λx=>i+x)=λm=>xs[i+m]?:=rfl;rw [e2] at this;rw [this]
theorem cL{t sl:Addr}{items:Array Value}{vl vu:Value}{lo hi:Option Int}{Q:Value->Shared->Prop}(ht:IsTup s.heap t items)(hs:s.heap.IsSliceOf sl vl vu .none)(pl:IsPart vl lo)(pu:IsPart vu hi)
  (hw:¬(bp items.size 0 lo=0/\bp items.size items.size hi=items.size))
  (h:Q (.ref s.heap.objs.size) {s with heap:=s.heap.push {cls:= .type "tuple",data:= .seq ((items.toList.drop<|bp items.size 0 lo).take<|bp items.size items.size hi - bp items.size 0 lo).toArray}})
  (hsz:items.size<=sizeLine):wpAny (model prog w) A (getItem (.ref t)<|.ref sl) Q E s:=by
 have ig:sizeOk (.seq ((items.toList.drop<|bp items.size 0 lo).take<|bp items.size items.size hi - bp items.size 0 lo).toArray):=by
  show((items.toList.drop<|bp items.size 0 lo).take<|bp items.size items.size hi - bp items.size 0 lo).toArray.size<=sizeLine;rw [Au,Bf,Db,Bm];omega
 have hj:bp items.size items.size hi<=items.size:=UR _ _ (Al _) hi;obtain⟨os,oE,jH,wC⟩:=id hs;have UZ:s.TypeIs (.ref sl) "slice":=⟨os,oE,jH⟩;unfold getItem
 try with_reducible refine CJ ?_
 first | refine BJ (BK ?_) | skip
 refine BJ (wpAny_sequenceKey ht.typeIs (by decide) ?_);refine BJ<|GQ (name:=Str.ofString "__getitem__") ht.typeIs MK
  (DG MK ht.typeIs entry_tuple_getitem ?_<|args_tuple_getitem _ _)
 show wpAny _ _ (Builtin.Tuple.tupleItemsOf (.ref t) >>= _) _ _ s;refine BJ<|tupleItemsOf_ ht ?_;refine BJ<|JM UZ ?_;rw [BP<|by decide];refine BJ<|UX hs pl pu ?_;have sQ:¬((((bp items.size 0 lo:Nat):Int) == 0 && (1:Int) == 1 && (bp items.size items.size hi - bp items.size 0 lo) == items.size)=true):=by
  intro q;rw [Bv,Bv] at q;have q1:((bp items.size 0 lo:Nat):Int)=0:=eq_of_beq q.1.1;have q2:bp items.size items.size hi - bp items.size 0 lo=items.size:=eq_of_beq q.2;exact hw ⟨by omega,by omega⟩
 show wpAny _ _ (if(((bp items.size 0 lo:Nat):Int) == 0 && (1:Int) == 1 && (bp items.size items.size hi - bp items.size 0 lo) == items.size)=true then _ else _) _ _ s;rw [BL sQ,UY]
 first
  | exact BJ (m:=Builtin.Tuple.tupleExact _)<|CQ (BK ⟨_,rfl,BK h⟩) ig
  | exact BJ (m:=Builtin.Tuple.tupleExact _)<|CQ (BJ<|BK<|BK ⟨_,rfl,BK h⟩) ig
  | exact BJ<|BJ (m:=Builtin.Tuple.tupleExact _)<|CQ (BK<|BK ⟨_,rfl,BK h⟩) ig
  | exact BJ<|BJ (m:=Builtin.Tuple.tupleExact _)<|CQ (BK ⟨_,rfl,BK h⟩) ig
end
end HT
namespace L2
open PySem PySem.Spec PyProof.Rows
abbrev TO:=St->Hp->(Option Int->Hp->Prop)->Prop
def PO(X:Cx)(e:Option Expr)(t:TO):Prop:=
 ∀(pins:List<|Addr×Obj) (s:Shared) (σ:St) (H:Hp) (Q:Option Int->Hp->Prop),Inv X pins σ H s->t σ H Q ->
  wpAny (model X.prog X.w) X.A (evalPart e X.env) (λu s'=>∃ o H',Inv X pins σ H' s'/\IsPart u o/\Q o H') X.xe s
def U0:TO:=λ_ H Q=>Q none H
def U1(t:TE):TO:=λσ H Q=>t σ H λx H1=>∃ i,x = .int i/\Q (some i) H1
section
variable{X:Cx}{e:Expr}{te:TE}{lo hi:Option Expr}{tl th:TO}{pos p2:Pos}
theorem U2:PO X none U0:=by
 intro pins s σ H Q I h;rw [evalPart_none];exact BK ⟨none,H,I,.none,h⟩
theorem U3(h:PE X e te):PO X (some e) (U1 te):=by
 intro pins s σ H Q I hw;rw [evalPart_some];refine aQ (h pins s σ H _ I hw) λu s1 ⟨x,H1,I1,r1,q1⟩=>?_;obtain⟨i,rfl,q⟩:=q1;obtain⟨t,rfl⟩:=r1;exact⟨some i,H1,I1,.int i t,q⟩
def wD(X:Cx)(r:V->Option Int->Option Int->Hp->VK->Prop):Prop:=
 ∀(pins:List<|Addr×Obj) (s:Shared) (σ:St) (H:Hp) (x:V) (v vl vu:Value) (lo hi:Option Int) (sl:Addr) (Q:VK),Inv X pins σ H s->RelV x v->s.heap.IsSliceOf sl vl vu .none->IsPart vl lo->IsPart vu hi->r x lo hi H Q ->
  ∃ T id,typeLookup (.type T) "__getitem__" = pure (some<|.builtin id)/\s.TypeIs v T/\wpAny (model X.prog X.w) X.A (getItem v<|.ref sl) (EP X pins σ Q) X.xe s
def U4(r:V->Option Int->Option Int->Hp->VK->Prop)(te:TE)(tl th:TO):TE:=λσ H Q=>te σ H λx H1=>tl σ H1 λl H2=>th σ H2 λu H3=>r x l u H3 Q
theorem U5{r:V->Option Int->Option Int->Hp->VK->Prop}(hr:wD X r)(he:PE X e te)(hl:PO X lo tl)(hu:PO X hi th):PE X (.Subscript e (.Slice lo hi none p2) pos) (U4 r te tl th):=by
 intro pins s σ H Q I h;refine Subscript_<|aQ (he pins s σ H _ I h) λv s1 ⟨x,H1,I1,r1,q1⟩=>?_;refine wpAny_Slice<|aQ (hl pins s1 σ H1 _ I1 q1) λvl s2 ⟨l,H2,I2,pl,q2⟩=>aQ (hu pins s2 σ H2 _ I2 q2) λvu s3 ⟨u,H3,I3,pu,q3⟩=>?_;rw [evalPart_none];refine BK ?_;have I4:Inv X pins σ H3 {s3 with heap:=s3.heap.push {cls:= .type "slice",data:= .fields #[vl,vu,.none]}}:=I3.kept (t':=s3.toks) λb ob q=>Ag _ q;obtain⟨T,id,hT,ht,hg⟩:=hr pins {s3 with heap:=s3.heap.push {cls:= .type "slice",data:= .fields #[vl,vu,.none]}} σ H3 x v vl vu l u s3.heap.objs.size Q I4 r1 (Heap.IsSliceOf.new ..) pl pu q3;show wpAny (model X.prog X.w) X.A (subscriptTail e (.Slice lo hi none p2) v<|.ref s3.heap.objs.size) (EP X pins σ Q) X.xe {s3 with heap:=s3.heap.push {cls:= .type "slice",data:= .fields #[vl,vu,.none]}};exact tail_any (ops:=[.ref s3.heap.objs.size,v]) ht hT hg<|by with_unfolding_all rfl
def dC(xs:List V)(lo hi:Option Int):List V:=(xs.drop<|HT.bp xs.length 0 lo).take<|HT.bp xs.length xs.length hi - HT.bp xs.length 0 lo
theorem K8(xs:List V)(lo hi:Option Int):(dC xs lo hi).length<=xs.length:=by
 unfold dC;rw [Bf,Db];omega
def zE(K:PySem.W.Frag):V->Option Int->Option Int->Hp->VK->Prop:=λx lo hi H Q=>∃ a xs,x = .ref a/\aJ K H a xs /\
 ¬(HT.bp xs.length 0 lo=0/\HT.bp xs.length xs.length hi=xs.length)/\∀ p,H p=none->Q (.ref p) (upd H p<|.tup<|dC xs lo hi)
theorem U6:wD X (zE X.K):=by
 intro pins s σ H x v vl vu lo hi sl Q I rx hs pl pu h;obtain⟨a,xs,rfl,hx,hw,q⟩:=h;cases rx;obtain⟨its,r,ht,hz⟩:=I.tuple hx;have hlen:its.toArray.size=xs.length:=by rw [Au];exact r.length.symm
 refine⟨"tuple",_,PyProof.Rows.slot_tuple_getitem.lookup,ht.typeIs,?_⟩;refine HT.cL ht hs pl pu (by rw [hlen];exact hw) ?_ (by rw [hlen];exact hz);rw [hlen];refine⟨.ref s.heap.objs.size,_,I.laid (t':=s.toks) (o:= .tup<|dC xs lo hi) (λb ob q=>Ag _ q) (Al _) ?_,rfl,q _<|I.aG.fresh<|Al _⟩;exact⟨Bs (K8 xs lo hi) hz,_,(r.drop<|HT.bp xs.length 0 lo).take<|HT.bp xs.length xs.length hi - HT.bp xs.length 0 lo,IsTup.new _ _⟩
end
def mS(n:Nat)(i:Int):Option Nat:=if 0<=i then(if i < n then some i.toNat else none) else if -(n:Int)<=i then some (i+n).toNat else none
def dD{α:Type}(xs:List α)(i:Int):Option α:=(mS xs.length i).bind λj=>xs[j]?
theorem U7{n:Nat}{i:Int}{j:Nat}(h:mS n i=some j):seqIndex? i n=some j/\j < n/\-(n:Int)<=i/\i < n:=by
 unfold mS at h
 by_cases h0:0<=i
 ·rw [BP h0] at h
  by_cases h1:i < n
  ·rw [BP h1] at h;have e:i.toNat=j:=Option.some.inj h;exact⟨by rw [seqIndex_of h0 h1,e],by omega,by omega,h1⟩
  ·rw [BL h1] at h;cases h
 ·rw [BL h0] at h
  by_cases h1:-(n:Int)<=i
  ·rw [BP h1] at h;have e:(i+n).toNat=j:=Option.some.inj h;exact⟨by rw [seqIndex_neg (by omega) h1,e],by omega,h1,by omega⟩
  ·rw [BL h1] at h;cases h
theorem zF{α:Type}{xs:List α}{i:Int}{v:α}(h:dD xs i=some v):∃ j,seqIndex? i xs.length=some j/\xs[j]?=some v/\j < xs.length/\-(xs.length:Int)<=i/\i < xs.length:=by
 unfold dD at h;cases e:mS xs.length i with
 | none=>rw [e] at h;cases h
 | some j=>
  rw [e] at h;obtain⟨h1,h2,h3,h4⟩:=U7 e;exact⟨j,h1,h,h2,h3,h4⟩
theorem qG{α:Type}{xs:List α}{j:Nat}{v:α}(h:xs[j]?=some v):dD xs (j:Int)=some v:=by
 have hj:j < xs.length:=(Ac.mp h).1;have e:mS xs.length (j:Int)=some j:=by
  unfold mS;rw [BP (by omega),BP<|by omega];simp
 unfold dD;rw [e];exact h
theorem U8{α:Type}(xs:List α)(v:α):dD (xs++[v]) (-1)=some v:=by
 have hl:(xs++[v]).length=xs.length+1:=by simp
 have e:mS (xs++[v]).length (-1)=some xs.length:=by
  unfold mS;rw [hl,BL (by decide),BP<|by omega]
  congr 1
  omega
 unfold dD;rw [e];show(xs++[v])[xs.length]?=some v;simp
def K9(b:Expr):Prop:=∀ o i,subscripted b false o i=operate [o,i] (getItem o i)
def sR(X:Cx)(r:R2):Prop:=
 ∀(value slice:Expr) (pins:List<|Addr×Obj) (s:Shared) (σ:St) (H:Hp) (x y:V) (v u:Value) (Q:VK),Inv X pins σ H s->RelV x v->RelV y u->r x y H Q ->
  subscripted slice false v u=operate [v,u] (getItem v u)->wpAny (model X.prog X.w) X.A (subscriptTail value slice v u) (EP X pins σ Q) X.xe s
def sS(X:Cx)(id:String)(r:V->List V->Hp->VK->Prop):Prop:=
 ∀(pins:List<|Addr×Obj) (s:Shared) (σ:St) (H:Hp) (x:V) (xs:List V) (v:Value) (us:List Value) (Q:VK),Inv X pins σ H s->RelV x v->az xs us->r x xs H Q ->
  wpAny (model X.prog X.w) X.A (call (.builtin id)<|v :: us) (EP X pins σ Q) X.xe s
section
variable{X:Cx}{a b:Expr}{ta tb:TE}{pos:Pos}
theorem U9{r:R2}(hr:sR X r)(ha:PE X a ta)(hb:PE X b tb)(hs:K9 b):PE X (.Subscript a b pos) (wx r ta tb):=by
 intro pins s σ H Q I h;exact Subscript_<|oq ha hb I h λv u s2 x y H2 I2 rx ry q=>hr a b pins s2 σ H2 x y v u Q I2 rx ry q<|hs _ _
def zG(K:PySem.W.Frag):R2:=λx y H Q=>∃ p xs i v,x = .ref p/\y = .int i/\aq K H p xs/\dD xs i=some v/\Q v H
def zH(K:PySem.W.Frag):R2:=λx y H Q=>∃ p xs i v,x = .ref p/\y = .int i/\aJ K H p xs/\dD xs i=some v/\Q v H
def zI:R2:=λx y H Q=>∃ z i c,x = .str z/\y = .int i/\z.length<=sizeLine/\dD z.cps.toList i=some c/\Q (.str ⟨#[c]⟩) H
theorem cH:sR X (zG X.K):=by
 intro value slice pins s σ H x y v u Q I rx ry h hs;obtain⟨p,xs,i,z,rfl,rfl,hq,he,q⟩:=h;cases rx;obtain⟨t,rfl⟩:=ry;obtain⟨its,r,pl,hz⟩:=I.list hq;obtain⟨j,h1,h2,h3,h4,h5⟩:=zF he;obtain⟨w,ew,d9⟩:=r.get h2;have hl:=r.length;have hn:=sM;have fin:EP X pins σ Q w s:=⟨z,H,I,d9,q⟩
 by_cases h0:0<=i
 ·have hj:i.toNat=j:=by
   rw [seqIndex_of h0 h5] at h1;exact Option.some.inj h1
  exact item_listR pl.isList h0 (by omega) (by rw [hj];simpa using ew) fin hs
 ·have hj:(i+(its.toArray.size:Int)).toNat=j:=by
   rw [seqIndex_neg (by omega) h4] at h1;rw [Au,<- hl];exact Option.some.inj h1
  exact subscriptTail_builtinR (x:=w) pl.isList.typeIs slot_list_getitem.lookup
   (wpAny_getItem_list_neg (Q:=λr s'=>r=w/\EP X pins σ Q r s') pl.isList (by omega) (by rw [Au] <;> omega) (by omega) (by rw [hj];simpa using ew) ⟨rfl,fin⟩) hs
theorem bJ:sR X (zH X.K):=by
 intro value slice pins s σ H x y v u Q I rx ry h hs;obtain⟨p,xs,i,z,rfl,rfl,hq,he,q⟩:=h;cases rx;obtain⟨t,rfl⟩:=ry;obtain⟨its,r,pl,hz⟩:=I.tuple hq;obtain⟨j,h1,h2,h3,h4,h5⟩:=zF he;obtain⟨w,ew,d9⟩:=r.get h2;have hl:=r.length;have hn:=sM;have fin:EP X pins σ Q w s:=⟨z,H,I,d9,q⟩;exact subscriptTail_builtinR (x:=w) pl.typeIs slot_tuple_getitem.lookup
  (getItem_tuple (j:=j) (Q:=λr s'=>r=w/\EP X pins σ Q r s') pl (by omega) (by omega) (by rw [Au,<- hl];exact h1) (by simpa using ew) ⟨rfl,fin⟩) hs
theorem K':sR X zI:=by
 intro value slice pins s σ H x y v u Q I rx ry h hs;obtain⟨z,i,c,rfl,rfl,hz,he,q⟩:=h;obtain⟨t,rfl⟩:=rx;obtain⟨t',rfl⟩:=ry;obtain⟨j,h1,h2,h3,h4,h5⟩:=zF he;have hl:z.cps.toList.length=z.length:=by simp [Str.length]
 rw [hl] at h1 h4 h5;have hn:=sM;exact tail_any (typeIs_str s z t) slot_str_getitem.lookup (getItem_str (c:=c) (by
  have e1:decide (i < -(2 ^ 63:Int))=false:=BR (by omega);have e2:decide (i>=2 ^ 63)=false:=BR (by omega);rw [e1,e2,Bool.or_false]) (by rw [h1];simpa using h2) ⟨.str ⟨#[c]⟩,H,I.tok _,⟨_,rfl⟩,q⟩) hs
theorem U'(lo hi:Option Int)(n:Nat):(sliceBounds lo hi none n).1=((HT.bp n 0 lo:Nat):Int)/\(sliceBounds lo hi none n).2.1=((HT.bp n n hi:Nat):Int)/\(sliceBounds lo hi none n).2.2=1:=by
 refine⟨?_,?_,rfl⟩
 ·cases lo with
  | none=>simp [sliceBounds,HT.bp]
  | some i=>
   simp only [sliceBounds,HT.bp,Option.getD_none,show(1:Int) > 0 by decide,DP]
   by_cases h:i < 0
   ·simp only [h,DP] <;> omega
   ·simp only [h,CV] <;> omega
 ·cases hi with
  | none=>simp [sliceBounds,HT.bp]
  | some i=>
   simp only [sliceBounds,HT.bp,Option.getD_none,show(1:Int) > 0 by decide,DP]
   by_cases h:i < 0
   ·simp only [h,DP] <;> omega
   ·simp only [h,CV] <;> omega
theorem Va(its:List Value)(lo hi:Option Int):slicePick its.toArray lo hi none=((its.drop<|HT.bp its.length 0 lo).take<|HT.bp its.length its.length hi - HT.bp its.length 0 lo).toArray:=by
 obtain⟨h1,h2,h3⟩:=U' lo hi its.toArray.size;unfold slicePick;rw [h1,h2,h3];simp only [sliceRange_one,pick_run,Au] <;> rfl
def zJ(K:PySem.W.Frag):V->Option Int->Option Int->Hp->VK->Prop:=λx lo hi H Q=>∃ a xs,x = .ref a/\aq K H a xs/\∀ p,H p=none->Q (.ref p) (upd H p<|.lst<|dC xs lo hi)
theorem La:wD X (zJ X.K):=by
 intro pins s σ H x v vl vu lo hi sl Q I rx hs pl pu h;obtain⟨a,xs,rfl,hx,q⟩:=h;cases rx;obtain⟨its,r,ht,hz⟩:=I.list hx;have hlen:=r.length;refine⟨"list",_,slot_list_getitem.lookup,ht.isList.typeIs,?_⟩;refine wpAny_getItem_list_slice ht.isList hs pl pu .none (by simp) ?_ (by rw [Au] <;> omega);rw [Va,<- hlen];refine⟨.ref s.heap.objs.size,_,I.laid (t':=s.toks) (o:= .lst<|dC xs lo hi) (λb ob q=>Ag _ q) (Al _) ?_,rfl,q _<|I.aG.fresh<|Al _⟩;exact⟨Bs (K8 xs lo hi) hz,_,0,(r.drop<|HT.bp xs.length 0 lo).take<|HT.bp xs.length xs.length hi - HT.bp xs.length 0 lo,At _ rfl⟩
def jI:V->Bool
 | .non=>true
 | .bl _=>true
 | .int _=>true
 | .str _=>true
 | _=>false
def cI:V->V->Bool
 | .non,.non=>true
 | .bl a,.bl b=>a == b
 | .bl a,.int b=>(if a then 1 else 0) == b
 | .int a,.bl b=>a == (if b then 1 else 0)
 | .int a,.int b=>a == b
 | .str a,.str b=>a == b
 | _,_=>false
theorem Lb{A:Around}{s:Shared}{y x:V}{u v:Value}(ry:RelV y u)(rx:RelV x v)(fy:jI y=true)(fx:jI x=true):SeqAt.EqAt A s u v (cI y x):=by
 cases y with
 | non=>
  cases ry;cases x with
  | non=>cases rx;exact SeqAt.EqAt.same _
  | bl b=>cases rx;exact SeqAt.EqAt.none_bool b
  | int b=>obtain⟨t,rfl⟩:=rx;exact SeqAt.EqAt.none_int b t
  | str b=>obtain⟨t,rfl⟩:=rx;exact SeqAt.EqAt.none_str b t
  | _=>exact absurd (show false=true from fx) Av
 | bl a=>
  cases ry;cases x with
  | non=>cases rx;exact SeqAt.EqAt.bool_none a
  | bl b=>cases rx;exact SeqAt.EqAt.bool_bool a b
  | int b=>obtain⟨t,rfl⟩:=rx;exact SeqAt.EqAt.bool_int a b t
  | str b=>obtain⟨t,rfl⟩:=rx;exact SeqAt.EqAt.bool_str a b t
  | _=>exact absurd (show false=true from fx) Av
 | int a=>
  obtain⟨t',rfl⟩:=ry;cases x with
  | non=>cases rx;exact SeqAt.EqAt.int_none a t'
  | bl b=>cases rx;exact SeqAt.EqAt.int_bool a t' b
  | int b=>obtain⟨t,rfl⟩:=rx;exact SeqAt.EqAt.int_int a t' b t
  | str b=>obtain⟨t,rfl⟩:=rx;exact SeqAt.EqAt.int_str a t' b t
  | _=>exact absurd (show false=true from fx) Av
 | str a=>
  obtain⟨t',rfl⟩:=ry;cases x with
  | non=>cases rx;exact SeqAt.EqAt.str_none a t'
  | bl b=>cases rx;exact SeqAt.EqAt.str_bool a t' b
  | int b=>obtain⟨t,rfl⟩:=rx;exact SeqAt.EqAt.str_int a t' b t
  | str b=>obtain⟨t,rfl⟩:=rx;exact SeqAt.EqAt.str_str a t' b t
  | _=>exact absurd (show false=true from fx) Av
 | _=>exact absurd (show false=true from fy) Av
def ll(x:V)(u:Value):Bool:=match u with
 | .none=>cI .non x
 | .bool b=>cI (.bl b) x
 | .int i _=>cI (.int i) x
 | .str z _=>cI (.str z) x
 | _=>false
theorem Lc{x y:V}{u:Value}(r:RelV y u)(f:jI y=true):ll x u=cI y x:=by
 cases y with
 | non=>cases r;rfl
 | bl b=>cases r;rfl
 | int i=>obtain⟨t,rfl⟩:=r;rfl
 | str z=>obtain⟨t,rfl⟩:=r;rfl
 | _=>exact absurd (show false=true from f) Av
theorem zK{x:V}:∀{xs:List V} {us:List Value},az xs us->xs.all jI=true->us.any (ll x)=xs.any λy=>cI y x
 | _,_,.nil,_=>rfl
 | y :: xs,u :: us,.cons r t,f=>by
  rw [Gq,Bv] at f;rw [Fq,Fq,Lc r f.1,zK t f.2]
theorem zL{A:Around}{s:Shared}{x:V}{v:Value}(rx:RelV x v)(fx:jI x=true):∀{xs:List V} {us:List Value},az xs us->xs.all jI=true->∀ u∈us,SeqAt.EqAt A s u v<|ll x u
 | _,_,.nil,_=>λu hu=>by cases hu
 | y :: xs,u :: us,.cons r t,f=>λu' hu=>by
  rw [Gq,Bv] at f
  rcases Ak.mp hu with rfl | hu
  ·rw [Lc r f.1];exact Lb r rx f.1 fx
  ·exact zL rx fx t f.2 u' hu
def qH(x:V)(xs:List V):Bool:=xs.any λy=>cI y x
def Vb(K:PySem.W.Frag)(neg:Bool):R2:=λx y H Q=>∃ p xs,y = .ref p/\(aq K H p xs\/aJ K H p xs)/\jI x=true/\xs.all jI=true/\Q (.bl (if neg then !qH x xs else qH x xs)) H
theorem mU:cK X (compareOp .In) (Vb X.K false):=by
 intro pins s σ H x y v u Q I rx ry h;obtain⟨p,xs,rfl,hq,fx,fs,q⟩:=h;cases ry
 rcases hq with hq | hq
 ·obtain⟨its,r,pl,hz⟩:=I.list hq;refine SeqAt.in_listAt (ll x) pl.isList (λw hw=>zL rx fx r fs w<|by simpa using hw) ⟨.bl _,H,I,rfl,?_⟩;rw [show its.toArray.any (ll x)=its.any (ll x) by simp,zK r fs];exact q
 ·obtain⟨its,r,pl,hz⟩:=I.tuple hq;refine SeqAt.in_tupleAt (ll x) pl (λw hw=>zL rx fx r fs w<|by simpa using hw) ⟨.bl _,H,I,rfl,?_⟩;rw [show its.toArray.any (ll x)=its.any (ll x) by simp,zK r fs];exact q
theorem cX:fH X (.builtin "len") (λxs H Q=>∃ p ys,xs=[.ref p]/\(aq X.K H p ys\/aJ X.K H p ys)/\Q (.int ys.length) H):=by
 intro pins s σ H xs us Q I r h;obtain⟨p,ys,rfl,hq,q⟩:=h;obtain⟨u,rfl,rx⟩:=vals1 r;cases rx;have hn:=sM
 rcases hq with hq | hq
 ·obtain⟨its,r',pl,hz⟩:=I.list hq;have hlen:=r'.length;exact Calls.call_len_list pl.isList (by simp only [Au] <;> omega) ⟨.int ys.length,H,I.tok _,⟨s.toks+1,by rw [Au,hlen]⟩,q⟩
 ·obtain⟨its,r',pl,hz⟩:=I.tuple hq;have hlen:=r'.length;exact len_tuple pl (by simp only [Au] <;> omega) ⟨.int ys.length,H,I.tok _,⟨s.toks+1,by rw [Au,hlen]⟩,q⟩
theorem Ld:fH X (.type "list") (λxs H Q=>∃ p ys,xs=[.ref p]/\(aq X.K H p ys\/aJ X.K H p ys)/\∀ l,H l=none->Q (.ref l) (upd H l<|.lst ys)):=by
 intro pins s σ H xs us Q I r h;obtain⟨p,ys,rfl,hq,q⟩:=h;obtain⟨u,rfl,rx⟩:=vals1 r;cases rx;have fin:∀(its:List Value),az ys its->ys.length<=sizeLine->∀(h':Heap) (c':Nat),(∀ b o',s.heap.get? b=some o'->h'.get? b=some o') ->
   h'.get? s.heap.objs.size=some {cls:= .type "list",dict:=none,data:= .seq its.toArray c',slots:=#[]}->EP X pins σ Q (.ref s.heap.objs.size) {s with heap:=h'}:=λits r' hz h' c' kp e=>
  ⟨.ref s.heap.objs.size,_,I.laid (t':=s.toks) kp (Al _) (show aD X.prog X.w _ h' _ (.lst ys) from⟨hz,its,c',r',e⟩),rfl,q _<|I.aG.fresh<|Al _⟩
 rcases hq with hq | hq
 ·obtain⟨its,r',pl,hz⟩:=I.list hq;have hlen:=r'.length;obtain⟨o,ho,hc,n,hd⟩:=pl.isList;exact call_list_seq p (.inl rfl) ho hc hd (λh' c' kp e=>fin its r' hz h' c' kp e)<|by simp only [Au] <;> omega
 ·obtain⟨its,r',pl,hz⟩:=I.tuple hq;have hlen:=r'.length;obtain⟨o,ho,hc,n,hd⟩:=pl;exact call_list_seq p (.inr rfl) ho hc hd (λh' c' kp e=>fin its r' hz h' c' kp e)<|by simp only [Au] <;> omega
def lq(K:PySem.W.Frag)(T:String)(x:V)(H:Hp):Prop:=match x with
 | .str _=>T = "str"
 | .int _=>T = "int"
 | .ref p=>(T = "list"/\∃ xs,aq K H p xs)\/(T = "tuple"/\∃ o,K.lookup p=some o/\o.cls = .type "tuple"/\o.dict=none) \/
   (T = "dict"/\((∃ kvs,H p=some (.dK kvs))\/∃ kvs,H p=some (.dT kvs)))\/(T = "set"/\∃ S n,H p=some (.set S n))
 | _=>False
theorem Le{pins:List (Addr×Obj)}{σ:St}{H:Hp}{s:Shared}{T:String}{x:V}{v:Value}(I:Inv X pins σ H s)(r:RelV x v)(ty:lq X.K T x H) :
  s.TypeIs v T/\∀ a,v = .ref a->∃ ob,s.heap.get? a=some ob/\ob.dict=none:=by
 cases x with
 | str z=>
  obtain⟨t,rfl⟩:=r;cases (show T = "str" from ty);exact⟨typeIs_str s z t,λ_ e=>nomatch e⟩
 | int i=>
  obtain⟨t,rfl⟩:=r;cases (show T = "int" from ty);exact⟨typeIs_int s i t,λ_ e=>nomatch e⟩
 | ref p=>
  cases r
  rcases ty with ⟨rfl,xs,hq⟩ | ⟨rfl,o,hk,hc,hd⟩ | ⟨rfl,hk⟩ | ⟨rfl,S,n,hk⟩
  ·obtain⟨its,_,pl,_⟩:=I.list hq;refine⟨pl.isList.typeIs,λa e=>?_⟩;cases e;obtain⟨o,n,e,c,hd,_⟩:=pl;exact⟨o,e,hd⟩
  ·refine⟨⟨o,I.fG p o hk,hc⟩,λa e=>?_⟩;cases e;exact⟨o,I.fG _ o hk,hd⟩
  ·have z:∃ o,s.heap.get? p=some o/\o.ExactDict:=by
    rcases hk with ⟨kvs,hk⟩ | ⟨kvs,hk⟩
    ·obtain⟨_,_,_,_,o,_,_,e,ex,_⟩:=I.aG p _ hk;exact⟨o,e,ex⟩
    ·obtain⟨_,_,_,_,o,_,_,e,ex,_⟩:=I.aG p _ hk;exact⟨o,e,ex⟩
   obtain⟨o,e,ex⟩:=z;refine⟨⟨o,e,ex.1⟩,λa e2=>?_⟩;cases e2;exact⟨o,e,ex.2.1⟩
  ·obtain⟨o,_,_,_,e,ex,_⟩:=I.aG p _ hk;refine⟨⟨o,e,ex.1⟩,λa e2=>?_⟩;cases e2;exact⟨o,e,ex.2.1⟩
 | _=>exact False.elim ty
def zM(K:PySem.W.Frag)(T:String)(r:V->List V->Hp->VK->Prop)(to:TE):TE:=λσ H Q=>to σ H λx H1=>lq K T x H1/\r x [] H1 Q
def Vc(K:PySem.W.Frag)(T:String)(r:V->List V->Hp->VK->Prop)(to:TE)(t:TA):TE:=λσ H Q=>to σ H λx H1=>lq K T x H1/\t σ H1 λxs H2=>r x xs H2 Q
variable{o e:Expr}{es:List Expr}{to:TE}{t:TA}{name:Str}{apos b9:Pos}{T id:String}{r:V->List V->Hp->VK->Prop}
theorem Vd(pa:PlainAttrs T)(slot:Slot T name id)(lv:typeOf (.builtin id)=pure (.type "method_descriptor"))(hm:sS X id r)(ho:PE X o to)
  (bL:attributeBase o name X.env (eval o X.env)=eval o X.env:=by rfl) (hline:(apos.endLine == b9.line)=true:=by rfl):PE X (.Call (.Attribute o name apos) [] [] b9) (zM X.K T r to):=by
 intro pins s σ H Q I h;refine wpAny_Call_method0_late bL hline<|aQ (ho pins s σ H _ I h) λv s1 ⟨x,H1,I1,r1,ty,q1⟩=>?_;obtain⟨h1,h2⟩:=Le I1 r1 ty;exact⟨T,id,pa,slot,lv,h1,h2,HN rfl (PySem.evalArgs_none<|hm pins s1 σ H1 x [] v [] Q I1 r1 .nil q1)⟩
theorem zN(pa:PlainAttrs T)(slot:Slot T name id)(lv:typeOf (.builtin id)=pure (.type "method_descriptor"))(hm:sS X id r)(ho:PE X o to)(ha:PA X (e :: es) t)
  (bL:attributeBase o name X.env (eval o X.env)=eval o X.env:=by rfl)
  (eW : ((backTo b9<|starEach (e :: es) X.env).all (λx => !x.1) && (backToKw b9<|keywordEach [] X.env).all (λx => x.1.isSome)
   && decide ((e :: es).length+([]:List Keyword).length+(if([]:List Keyword).isEmpty then 0 else 1) < 30))=true:=by rfl)
  (hline:(apos.endLine == b9.line)=true:=by rfl) (hs:starEach (e :: es) X.env=(false,eval e X.env) :: starEach es X.env:=by rfl) (bX:(backTo b9<|starEach es X.env).any (·.1)=false:=by rfl) :
  PE X (.Call (.Attribute o name apos) (e :: es) [] b9) (Vc X.K T r to t):=by
 intro pins s σ H Q I h;refine wpAny_Call_method_late bL eW hline rfl (aQ (ho pins s σ H _ I h) λv s1 ⟨x,H1,I1,r1,ty,q1⟩=>?_);obtain⟨h1,h2⟩:=Le I1 r1 ty;refine⟨T,id,pa,slot,lv,h1,h2,?_⟩;have hA:=ha b9 pins s1 σ H1 _ I1 q1;rw [hs] at hA ⊢;refine HN (by show(false || (backTo b9<|starEach es X.env).any (·.1))=false;rw [bX] <;> rfl)<|NK ?_;exact aQ hA λus s2 ⟨vs,H2,I2,r2,q2⟩=>hm pins s2 σ H2 x vs v us Q I2 r1 r2 q2
end
def oF(X:Cx)(id:String)(r:V->List V->Hp->VK->Prop):Prop:=
 ∀(pins:List<|Addr×Obj) (s:Shared) (σ:St) (H:Hp) (x:V) (xs:List V) (v:Value) (us:List Value) (Q:VK),Inv X pins σ H s->RelV x v->az xs us->r x xs H Q ->
  wpAny (model X.prog X.w) X.A (call (.builtin id)<|v :: us) (EP X pins σ Q) X.xe s
theorem az.hd{x:V}{xs:List V}{us:List Value}(h:az (x :: xs) us):∃ u vs,us=u :: vs/\RelV x u/\az xs vs:=by
 cases h with
 | cons r t=>exact⟨_,_,rfl,r,t⟩
theorem az.nl{us:List Value}(h:az [] us):us=[]:=by
 cases h;rfl
theorem az.one{x:V}{us:List Value}(h:az [x] us):∃ u,us=[u]/\RelV x u:=by
 obtain⟨u,vs,rfl,r,t⟩:=h.hd;rw [t.nl];exact⟨u,rfl,r⟩
theorem az.two{x y:V}{us:List Value}(h:az [x,y] us):∃ u v,us=[u,v]/\RelV x u/\RelV y v:=by
 obtain⟨u,vs,rfl,r,t⟩:=h.hd;obtain⟨v,ws,rfl,q,t⟩:=t.hd;rw [t.nl];exact⟨u,v,rfl,r,q⟩
theorem az.zero:∀{us:List Value},az [] us->us=[]
 | _,.nil=>rfl
theorem az.dropLast{xs:List V}{us:List Value}(h:az xs us):az xs.dropLast us.dropLast:=by
 induction h with
 | nil=>exact .nil
 | cons r t ih=>
  cases t with
  | nil=>exact .nil
  | cons q t'=>exact .cons r ih
theorem az.eraseIdx:∀{xs:List V} {us:List Value} (i:Nat),az xs us->az (xs.eraseIdx i) (us.eraseIdx i)
 | _,_,_,.nil=> .nil
 | _,_,0,.cons _ t=>t
 | _,_,i+1,.cons r t=> .cons r<|az.eraseIdx i t
theorem Ve{α:Type}(l:List α):l.eraseIdx (l.length - 1)=l.dropLast:=by
 induction l with
 | nil=>rfl
 | cons a r ih=>
  cases r with
  | nil=>rfl
  | cons b r=>
   have e:(a :: b :: r).length - 1=((b :: r).length - 1)+1:=by
    have h1:(a :: b :: r).length=r.length+2:=rfl;have h2:(b :: r).length=r.length+1:=rfl;omega
   rw [e,RL,ih]
   all_goals rfl
theorem Lf{α:Type}:∀(l:List α) (i:Nat),(l.eraseIdx i).length<=l.length
 | [],_=>Al _
 | _ :: _,0=>Eh _
 | _ :: r,i+1=>Nat.succ_le_succ<|Lf r i
section
variable{X:Cx}{pins:List (Addr×Obj)}{σ:St}{H:Hp}{s:Shared}{l b:Addr}{xs ys zs:List V}
theorem Inv.jJ{its its':List Value}{n:Nat}{f:Array Value->Array Value}{t':Nat}(I:Inv X pins σ H s)(hH:H l=some (.lst xs))
  (e:s.heap.get? l=some {cls:= .type "list",data:= .seq its.toArray n}) (hf:f its.toArray=its'.toArray) (hv:az ys its') (hz:ys.length<=sizeLine) :
  Inv X pins σ (upd H l<|.lst ys) {s with heap:=s.heap.update l<|Obj.mapSeq f,toks:=t'}:=by
 have q:=PySem.IsL.update e f;rw [hf] at q;refine I.write (x:=l) (e:=l) (by rw [hH];exact trivial) (.inl rfl) (λb' u hb hu=>(De s.heap (Obj.mapSeq f)<|CG hb).trans hu) ⟨_,q⟩ ?_;exact⟨hz,its',_,hv,q⟩
theorem Inv.sV{its:List Value}{t':Nat}(I:Inv X pins σ H s)(hv:az ys its)(hz:ys.length<=sizeLine) :
  Inv X pins σ (upd H s.heap.objs.size<|.lst ys) {s with heap:=s.heap.push {cls:= .type "list",data:= .seq its.toArray},toks:=t'}:=
 I.laid (λ_ _ q=>Ag _ q) (Al _) ⟨hz,its,0,hv,At _ rfl⟩
theorem Inv.fresh(I:Inv X pins σ H s):H s.heap.objs.size=none:=I.aG.fresh<|Al _
theorem Inv.fM(I:Inv X pins σ H s)(hH:H l=some (.lst xs)):xs.length<=sizeLine/\∃(its:List Value) (n:Nat),az xs its/\xs.length=its.length/\s.heap.get? l=some {cls:= .type "list",data:= .seq its.toArray n}:=by
 obtain⟨z,its,n,r,e⟩:=I.aG l _ hH;exact⟨z,its,n,r,r.length,e⟩
theorem Vf{n:Nat}(h:n<=sizeLine):Builtin.List.listTooLong n=false:=by
 unfold Builtin.List.listTooLong;exact BR<|by omega
end
section
variable{X:Cx}
def Vg:V->List V->Hp->VK->Prop:=λx vs H Q=>∃ l xs y,x = .ref l/\vs=[y]/\H l=some (.lst xs)/\xs.length < sizeLine/\Q .non (upd H l<|.lst<|xs++[y])
theorem Lg:oF X "list.append" Vg:=by
 intro pins s σ H x vs v us Q I rx rv h;obtain⟨l,xs,y,rfl,rfl,hH,hz,q⟩:=h;cases rx;obtain⟨u,rfl,ru⟩:=rv.one;obtain⟨z,its,n,r,hl,e⟩:=I.fM hH;refine NQ F.slot_list_append ⟨_,e,rfl⟩ F.entry_list_append (F.args_list_append_2 _ _) (PySem.list_append l its.toArray n u<|by rw [Au];omega) ⟨e,?_⟩;refine⟨.non,_,I.jJ (its':=its++[u]) hH e (by simp) (r.append<|.cons ru .nil) ?_,rfl,q⟩;rw [Af,Cs];omega
def Vh:V->List V->Hp->VK->Prop:=λx vs H Q=>∃ l b xs zs,x = .ref l/\vs=[.ref b]/\H l=some (.lst xs)/\H b=some (.lst zs)/\xs.length+zs.length<=sizeLine/\Q .non (upd H l<|.lst<|xs++zs)
theorem Vi:oF X "list.extend" Vh:=by
 intro pins s σ H x vs v us Q I rx rv h;obtain⟨l,b,xs,zs,rfl,rfl,hH,hB,hz,q⟩:=h;cases rx;obtain⟨u,rfl,ru⟩:=rv.one;cases ru;obtain⟨z,its,n,r,hl,e⟩:=I.fM hH;obtain⟨z2,dE,n2,r2,fN,e2⟩:=I.fM hB;have hsz:its.toArray.size+dE.toArray.size<=sizeLine:=by rw [Au,Au];omega
 have sW:¬(!its.toArray.isEmpty && Builtin.List.listTooLong (its.toArray.size+dE.toArray.size))=true:=by
  rw [Vf hsz,Go];exact Av
 refine NQ F.slot_list_extend ⟨_,e,rfl⟩ F.entry_list_extend (F.args_list_extend_2 _ _)
  (AutoSeq1.list_extend_list_list_0 l its.toArray n b dE.toArray n2 sW (by rw [Au];omega)<|by omega) ⟨e,e2,?_⟩
 refine⟨.non,_,I.jJ (its':=its++dE) hH e (by simp) (r.append r2) ?_,rfl,q⟩;rw [Af];omega
def zO:V->List V->Hp->VK->Prop:=λx vs H Q=>∃ l xs y,x = .ref l/\vs=[]/\H l=some (.lst xs)/\xs[xs.length - 1]?=some y/\Q y (upd H l<|.lst xs.dropLast)
theorem Vj:oF X "list.pop" zO:=by
 intro pins s σ H x vs v us Q I rx rv h;obtain⟨l,xs,y,rfl,rfl,hH,hy,q⟩:=h;cases rx;have Vk:=rv.zero;subst Vk;obtain⟨z,its,n,r,hl,e⟩:=I.fM hH;obtain⟨u,hu,ru⟩:=r.get hy;have Vl:its.toArray[its.toArray.size - 1]?=some u:=by
  show its.toArray[its.length - 1]?=some u;rw [<- Bq,<- hl];exact hu
 refine NQ F.slot_list_pop ⟨_,e,rfl⟩ F.entry_list_pop (F.args_list_pop_1 _) (MeetsSeq.list_pop_last l its.toArray n u Vl<|by rw [Au];omega) ⟨e,?_⟩;refine⟨y,_,I.jJ (its':=its.dropLast) hH e ?_ r.dropLast ?_,ru,q⟩
 ·show its.toArray.eraseIdxIfInBounds (its.toArray.size - 1)=its.dropLast.toArray;rw [Au,MN,Ve]
 ·rw [List.length_dropLast];omega
def Vm:V->List V->Hp->VK->Prop:=λx vs H Q=>∃ l xs i k y,x = .ref l/\vs=[.int i]/\H l=some (.lst xs)/\-(2 ^ 63)<=i/\i < 2 ^ 63/\seqIndex? i xs.length=some k/\xs[k]?=some y/\Q y (upd H l<|.lst<|xs.eraseIdx k)
theorem Vn:oF X "list.pop" Vm:=by
 intro pins s σ H x vs v us Q I rx rv h;obtain⟨l,xs,i,k,y,rfl,rfl,hH,h1,h2,hk,hy,q⟩:=h;cases rx;obtain⟨u,rfl,ru⟩:=rv.one;obtain⟨t,rfl⟩:=ru;obtain⟨z,its,n,r,hl,e⟩:=I.fM hH;obtain⟨w,hw,d9⟩:=r.get hy;refine NQ F.slot_list_pop ⟨_,e,rfl⟩ F.entry_list_pop (F.args_list_pop_2 _ _)
  (MeetsSeq.list_pop_at l its.toArray n i t k w (fitsIndex_both h1 h2) (by rw [Au,<- hl];exact hk) (by rw [<- Bq];exact hw)<|by rw [Au];omega) ⟨e,?_⟩
 refine⟨y,_,I.jJ (its':=its.eraseIdx k) hH e ?_ (r.eraseIdx k) ?_,d9,q⟩
 ·show its.toArray.eraseIdxIfInBounds k=(its.eraseIdx k).toArray;rw [MN]
 ·have:=Lf xs k;omega
def zP:R2:=λx y H Q=>∃ l b xs zs,x = .ref l/\y = .ref b/\H l=some (.lst xs)/\H b=some (.lst zs)/\xs.length+zs.length<=sizeLine/\∀ p,H p=none->Q (.ref p) (upd H p<|.lst<|xs++zs)
theorem zQ:cK X (binaryOp .Add) zP:=by
 intro pins s σ H x y v u Q I rx ry h;obtain⟨l,b,xs,zs,rfl,rfl,hH,hB,hz,q⟩:=h;cases rx;cases ry;obtain⟨z,its,n,r,hl,e⟩:=I.fM hH;obtain⟨z2,dE,n2,r2,fN,e2⟩:=I.fM hB;refine PySem.P.add_list e e2 ?_ (by rw [Au,Au];omega);have ea:its.toArray++dE.toArray=(its++dE).toArray:=by simp
 rw [ea];exact⟨.ref _,_,I.sV (t':=s.toks) (r.append r2) (by rw [Af];omega),rfl,q _ I.fresh⟩
end
section
variable{prog:Program}{w:World}{A:Around}{E:Value->Shared->Prop}{s:Shared}
end
section
variable{X:Cx}
end
end L2
namespace Lh
open PySem PySem.W PySem.Calls PyProof.Rows
theorem Vo{P:Params}{h:Heap}:∀(ns:List Int) (vs:List Value),WellAll P h vs (ns.map WData.int)->IntsAre vs ns:=by
 intro ns
 induction ns with
 | nil=>
  intro vs w;rw [List.map_nil] at w;cases w;exact .nil
 | cons n ns ih=>
  intro vs w;rw [Bj] at w;cases w with
  | cons a b=>
   cases a;exact .cons _ _<|ih _ b
theorem Vp{l:OpenLaw}{n:Nat}(hn:l.most=some n){P:Params}{h:Heap}{args:List WData}{vals:List Value}
  (lz:l.row.toRowW.claim.pre args=true) (zR:WellAll P h vals args) :
  ∃ a vs ns,vals=[Value.ref a]/\args=[WData.list<|ns.map WData.int]/\h.get? a=some {cls:= .type "list",data:= .seq vs.toArray}/\IntsAre vs ns/\ns.length<=n:=by
 have Vq:WShape.hasAll [] args [.list .int]=true:=(pre_splitW lz).1;have hc:l.pre.holds [] {args:=args}=true:=(pre_splitW lz).2;obtain⟨d,r,rfl,h1,h2⟩:=hasAllW_cons Vq;obtain rfl:=hasAllW_nil h2;obtain⟨xs,rfl,h3⟩:=hasW_list h1;obtain⟨ns,rfl⟩:=items_int h3;have hlen:ns.length<=n:=by
  unfold OpenLaw.pre at hc;have h4:(WTm.not<|.lt (.lit<|.int (n:Int))<|.len<|.arg 0).holds [] {args:=[.list<|ns.map .int]}=true:=by
   have h4:=(holds_andW hc).1;rw [hn] at h4;exact h4
  have h5:=condW_of h4<|w_not<|w_lt w_lit<|w_len_list<|w_arg rfl;rw [Aa] at h5;refine Nat.le_of_not_lt λq=>?_;have q':(n:Int) < ((ns.length:Nat):Int):=by omega
  first
   | (rw [BW q'] at h5;exact absurd h5<|by decide)
   | (simp at h5;omega)
 cases zR with
 | cons w1 w2=>
  cases w2;cases w1 with
  | list ho zS=>exact⟨_,_,ns,rfl,rfl,ho,Vo ns _ zS,hlen⟩
theorem Vr(l:OpenLaw)(args:List WData):l.row.toRowW.claim.post args (.bool true) args=true:=
 postW_of (r:=l.row.toRowW) (X:=(true == true))
  (show WShape.has [] (.bool true) .bool=true by first | rfl | decide | simp [WShape.has,WShape.arms,WShape.armsAll])
  (show(WTm.eq .res<|.lit<|.bool true).value [] {args:=args,res:=some<|.bool true,after:=args}=some (.bool<|true == true) from w_eq_bool (w_res rfl) w_lit) rfl
theorem fO{l:OpenLaw}{n:Nat}{q:Program}{loose:List Str}{XP:(Str->Option Value)->Heap->Prop}{YP:World->Heap->Prop}{d:DefRec}
  (hn:l.most=some n) (lD:d.params.defaults=[])
  (call : ∀ (w : World) (s₀ s₁ : Shared) (mg mb : Str → Option Value) (fa : Addr) (o : Obj) (pm cd doc : Value) (a : Addr) (vs : List Value) (ns : List Int),
   Ground q loose [] XP w s₀ mg mb s₁.heap->YP w s₁.heap ->
   s₁.heap.get? fa=some o->o.data = .func (docDef d.name d.params d.body d.scope pm cd doc)->s₁.heap.CodeRec cd d.name->mg d.name=some (.ref fa) ->
   s₁.heap.get? a=some {cls:= .type "list",data:= .seq vs.toArray}->IntsAre vs ns->ns.length<=n->s₁.gens=#[] ->
   codeAny (model l.prog w) callerA (.call (.ref fa) ⟨[.ref a],[]⟩) (λr s'=>r = .ok (.ret<|.bool true)/\OldK s₁.heap s'.heap/\s'.os=s₁.os/\AllBare s'.gens) s₁) :
  WalkO q loose XP YP l.row.toRowW d [] (λf vs=>PySem.call f vs):=by
 intro w s₀ s₁ mg mb G Y fa o pm cd doc dV kV ho hd jg hD sX hg args vals as lz hlay hrd zR hlo;obtain rfl:dV = .none:=Dflts.none hD lD;obtain rfl:kV = .none:=Dflts.noKw hD;obtain⟨a,vs,ns,rfl,rfl,gP,hints,hlen⟩:=Vp hn lz zR;refine enter_call<|JL (call w s₀ s₁ mg mb fa o pm cd doc a vs ns G Y ho (fd_plain hd) jg sX gP hints hlen hg) λr s' hq=>?_;obtain⟨rfl,h2,h3,h4⟩:=hq;exact⟨.inl ⟨.bool true,.bool true,[],rfl,λ_=>rfl,.bool true,Vr l _,λ_=>⟨List.Pairwise.nil,λ_ hm=>(nomatch hm)⟩⟩,h2,h3,h4⟩
section
variable{prog:Program}{w:World}{A:Around}{E:Value->Shared->Prop}{s:Shared}{K:Frag}
end
end Lh
namespace L2
open PySem PySem.Spec PyProof.Rows
theorem Lj:∀{vs:List Value} {ns:List Int},IntsAre vs ns->az (ns.map V.int) vs
 | _,_,.nil=> .nil
 | _,_,.cons n t h=> .cons ⟨t,rfl⟩<|Lj h
def Only(H:Hp):Prop:=∀ b,H b=none\/∃ o xs,H b=some (.bD o<|.lst xs)
theorem Vs{P:Program}{w:World}{K:PySem.W.Frag}{mg mb:Str->Option Value}{CX:gO}{k:Nat}{fa a:Addr}{fd:FuncData}{x:Str}{sp:Sp}{s₁:Shared}{vs:List Value}{ns:List Int}
  (KX:K.In s₁.heap) (wF:s₁.heap.Ns mainGlobals mg) (hb:s₁.heap.Ns builtinsNs mb) (Vt:∀ x:Str,x ≠ "__name__"->mb x=bootBuiltins x) (zT:s₁.heap.NoLimit) (hg:s₁.gens=#[])
  (ha:s₁.heap.get? a=some {cls:= .type "list",data:= .seq vs.toArray}) (hi:IntsAre vs ns) (hl:ns.length<=sizeLine) (hr:bz k callerA)
  (F:∀ base:Heap,K.In base->base.Ns mainGlobals mg->aI P w K mg base CX k fa fd [x] sp) (sY:∀(s:Shared) (u:Value),BindsTo s fd ⟨[u],[]⟩ [(x,u)])
  (d8:∀ H:Hp,Only H->aq K H a (ns.map V.int)->sp [.ref a] H (λv _=>v = .bl true) λ_ _ _=>False)
  (zU:∀ H e s',CX [] H s₁ (λ_ _ _=>False) e s'->False) :
  codeAny (model P w) callerA (.call (.ref fa) ⟨[.ref a],[]⟩) (λr s'=>r = .ok (.ret<|.bool true)/\OldK s₁.heap s'.heap/\s'.os=s₁.os/\AllBare s'.gens) s₁:=by
 have rv:=Lj hi;have zV:=hi.length;have core:∀ H:Hp,Only H->aq K H a (ns.map V.int)->cv P w H s₁.heap->(∀ b,H b≠none->b=a)->(H a≠none->K.lookup a=none) ->
   codeAny (model P w) callerA (.call (.ref fa) ⟨[.ref a],[]⟩) (λr s'=>r = .ok (.ret<|.bool true)/\OldK s₁.heap s'.heap/\s'.os=s₁.os/\AllBare s'.gens) s₁:=by
  intro H hO hS aG hA hK;have ii:∀{b:Addr} {o:Obj},s₁.heap.get? b=some o->H b=none->(eS s₁.heap H).get? b=some o:=λe n=>S6 e n;have sO:∀{b:Addr} {o:Obj} {es:Array DictEntry} {ep:Nat},s₁.heap.get? b=some o->o.data = .dict es ep->H b=none:=λ{b o es ep} e d=>by
   cases q:H b with
   | none=>rfl
   | some u=>
    have e':b=a:=hA b (by rw [q];simp);subst e';rw [ha] at e;cases e;have d':Data.seq vs.toArray _=Data.dict es ep:=d;cases d'
  have wG:∀{b:Addr} {m:Str->Option Value},s₁.heap.Ns b m->(eS s₁.heap H).Ns b m:=λ{b m} ⟨o,es,ep,e,d,r⟩=>⟨o,es,ep,ii e<|sO e d,d,r⟩;have Ln:K.In (eS s₁.heap H):=λb o e=>ii (KX b o e)<|by
   cases q:H b with
   | none=>rfl
   | some u=>
    have e':b=a:=hA b (by rw [q];simp);subst e';rw [hK<|by rw [q];simp] at e;cases e
  have hM:Mod K mg (eS s₁.heap H):=⟨Ln,wG wF,⟨mb,wG hb,Vt⟩,let ⟨mc,h1,h2⟩:=zT;⟨mc,wG h1,h2⟩⟩;have e0:lh P w K mg (eS s₁.heap H) callerA [] s₁ H:=⟨rfl,hM,λb o e=>S7 e,Nat.le_of_eq<|S0 _ _,trivial,λb hb=>absurd (show b∈([]:List Addr) from hb) (by simp),aG,.of_eq hg⟩;refine JL ((F _ Ln<|wG wF).run callerA [] s₁ H ⟨[.ref a],[]⟩ [.ref a] [.ref a] _ _ hr e0 (sY s₁<|.ref a) (.cons rfl .nil)<|d8 H hO hS) λr s' h=>?_;cases r with
  | error e=>exact(zU H e s' h).elim
  | ok fl=>
   cases fl with
   | next=>exact False.elim h
   | brk=>exact False.elim h
   | cont=>exact False.elim h
   | ret u=>
    obtain⟨v,H',os,bare,un,zW,r',q⟩:=h;have q':v = .bl true:=q;subst q';obtain rfl:u=Value.bool true:=r';refine⟨rfl,OldK.of_keep λb o e=>?_,os,bare⟩;cases q:H b with
    | none=>exact un.keep b o e q (by intro z;exact absurd (show b∈([]:List Addr) from z)<|by simp)<|by simp
    | some u=>
     rcases hO b with z | ⟨ob,xs,z⟩
     ·rw [q] at z;cases z
     ·have z2:=un.eR b ob _ z;obtain⟨e1,_⟩:=aG b _ z;obtain⟨e2,_⟩:=zW b _ z2;rw [e] at e1;cases e1;exact e2
 cases hk:K.lookup a with
 | some o=>
  have e:=KX a o hk;rw [ha] at e;cases e;refine core (λ_=>none) (λ_=> .inl rfl) (.inr ⟨_,vs.toArray,_,hk,rfl,rfl,rfl,by rw [Au,zV];exact hl,by simpa using rv⟩) (λb u z=>by have z':(none:Option HO)=some u:=z;cases z') (λb z=>absurd rfl z) λz=>absurd rfl z
 | none=>
  refine core (λb=>if b=a then some (.bD {cls:= .type "list",data:= .seq vs.toArray}<|.lst<|ns.map V.int) else none) (λb=>?_) (.inl<|.inr ⟨{cls:= .type "list",data:= .seq vs.toArray},BP rfl⟩) (λb u z=>?_) (λb z=>?_) λ_=>hk
  ·by_cases hb:b=a
   ·exact .inr ⟨_,_,BP hb⟩
   ·exact .inl<|BL hb
  ·by_cases hb:b=a
   ·have z':=(BP hb).symm.trans z;cases z';subst hb;exact⟨ha,by rw [Aa];exact hl,vs,_,rv,ha⟩
   ·have z':=(BL hb).symm.trans z;cases z'
  ·by_cases hb:b=a
   ·exact hb
   ·exact absurd (BL hb) z
theorem lE{l:PySem.W.OpenLaw}{n k:Nat}{q:Program}{loose:List Str}{XP:(Str->Option Value)->Heap->Prop}{YP:World->Heap->Prop}{d:DefRec}{K:Params->PySem.W.Frag}{CX:World->gO}{sp:World->Sp}{x:Str}
  (hn:l.most=some n) (zX:n<=sizeLine) (lD:d.params.defaults=[]) (hr:bz k callerA)
  (hY:∀(w:World) (h:Heap),YP w h->(K w.params).In h)
  (F : ∀ (w : World) (mg : Str → Option Value) (fa : Addr) (h : Heap), (K w.params).In h → h.Ns mainGlobals mg → mg d.name = some (.ref fa) →
   ∃ fd:FuncData,(∀(s:Shared) (u:Value),BindsTo s fd ⟨[u],[]⟩ [(x,u)]) /\
    ∀ base:Heap,(K w.params).In base->base.Ns mainGlobals mg->aI l.prog w (K w.params) mg base (CX w) k fa fd [x] (sp w))
  (d8:∀(w:World) (H:Hp) (a:Addr) (ns:List Int),ns.length<=n->Only H->aq (K w.params) H a (ns.map V.int)->sp w [.ref a] H (λv _=>v = .bl true) λ_ _ _=>False)
  (zU:∀(w:World) (H:Hp) (s:Shared) (e:Value) (s':Shared),CX w [] H s (λ_ _ _=>False) e s'->False) :
  PySem.W.WalkO q loose XP YP l.row.toRowW d [] (λf vs=>PySem.call f vs):=by
 refine Lh.fO hn lD λw s₀ s₁ mg mb fa o pm cd doc a vs ns G Y ho hd jg sX gP hints hlen hg=>?_;have KX:=hY w _ Y;obtain⟨fd,hb,hF⟩:=F w mg fa _ KX G.T.g sX;exact Vs KX G.T.g G.T.b G.T.builtins G.T.nolimit hg gP hints (Bs hlen zX) hr hF hb (λH hO hS=>d8 w H a ns hlen hO hS) λH e s'=>zU w H s₁ e s'
def oG(s:Stmt):Arguments:=match s with
 | .FunctionDef _ a _ _ _ _ _ _ _ _=>a
 | _=>{posonlyargs:=[],args:=[],vararg:=none,kwonlyargs:=[],kw_defaults:=[],kwarg:=none,defaults:=[]}
def jK(s:Stmt):List Stmt:=match s with
 | .FunctionDef _ _ b _ _ _ _ _ _ _=>b
 | _=>[]
def a8(s:Stmt):Scope:=match s with
 | .FunctionDef _ _ _ _ _ _ sc _ _ _=>sc
 | _=>{kind:= .function,names:=[],isGenerator:=false,isCoroutine:=false}
abbrev bB:gO:=λ_ _ _ _ _ _=>False
abbrev E0:XK:=λ_ _ _=>False
theorem jL{X:Cx}:sN bB X E0:=λ_ _ _ _ _ _ _ h=>h.elim
structure bE(K:PySem.W.Frag)(x qual:Str)(st:Stmt)(f:Addr)(fd:FuncData):Prop where
 ex:∃(oc:Value) (od:Option Addr) (kV doc pm:Value) (an:Option Addr) (bQ ct:Value) (lj:Array<|Option Value),
  fd=PySem.W.fnOf x qual (oG st) (jK st) (a8 st) .none kV doc pm an bQ ct/\K.lookup f=some ⟨oc,od,.func fd,lj⟩/\PySem.W.codeIn K bQ qual=true
 kp:PySem.W.keepIn K (.ref f)=true
section
variable{P:Program}{w:World}{K:PySem.W.Frag}{mg:Str->Option Value}{base:Heap}
theorem bE.ok{x qual:Str}{st:Stmt}{f:Addr}{fd:FuncData}{N ps:List Str}{k:Nat}{sp:Sp}(F:bE K x qual st f fd)(S:ak N ps<|a8 st)(len:∀ vs H Q E,sp vs H Q E->vs.length=ps.length)
  (dB : ∀ (bQ : Value) (A : Around) (outer : List Env) (s : Shared) (H : Hp) (vs : List V) (Q : VK) (E : XK), bz k (A.deeper<|envOfC qual (a8 st) s.heap.objs.size f bQ) → sp vs H Q E →
   ∃ t,iM (fJ bB P w K mg base N qual (a8 st) f bQ A outer s H E).qB (jK st) t/\t {nx:=λ_ H'=>Q .non H',rt:=Q} (start N vs) H):aI P w K mg base bB (k+1) f fd ps sp:=by
 obtain⟨oc,od,kV,doc,pm,an,bQ,ct,lj,rfl,lk,jg⟩:=F.ex;refine UO lk jg S len λA outer s H vs Q E hr d8=>?_;obtain⟨t,h,q⟩:=dB bQ A outer s H vs Q E hr d8;exact⟨t,h.qB,q⟩
theorem bE.binds{x qual:Str}{st:Stmt}{f:Addr}{fd:FuncData}{ps:List Str}(F:bE K x qual st f fd)
  (h:∀(kV doc pm:Value) (an:Option Addr) (bQ ct:Value) (us:List Value),us.length=ps.length->bindArgs (PySem.W.fnOf x qual (oG st) (jK st) (a8 st) .none kV doc pm an bQ ct) ⟨us,[]⟩=pure (ps.zip us)):Binds K fd ps []:=by
 obtain⟨oc,od,kV,doc,pm,an,bQ,ct,lj,rfl,lk,jg⟩:=F.ex;exact .all<|h kV doc pm an bQ ct
theorem Vu{x qual:Str}{st:Stmt}{f:Addr}{oc:Value}{od an:Option Addr}{lj:Array (Option Value)}{kV doc pm bQ ct:Value}(l:K.lookup f=some ⟨oc,od,.func<|PySem.W.fnOf x qual (oG st) (jK st) (a8 st) .none kV doc pm an bQ ct,lj⟩)
  (c:PySem.W.codeIn K bQ qual=true) (k:PySem.W.keepIn K (.ref f)=true):bE K x qual st f (PySem.W.fnOf x qual (oG st) (jK st) (a8 st) .none kV doc pm an bQ ct):=⟨⟨oc,od,kV,doc,pm,an,bQ,ct,lj,rfl,l,c⟩,k⟩
end
section
variable{X:Cx}
end
theorem bj{A B:Prop}(h:B):if false=true then A else B:=by
 rw [BL Av];exact h
theorem cM{A B:Prop}(h:A):if true=true then A else B:=by
 rw [BP rfl];exact h
theorem jM{c A B:Prop} [Decidable c] (h1:c->A) (h2:¬ c->B):if c then A else B:=by
 by_cases h:c
 ·rw [BP h];exact h1 h
 ·rw [BL h];exact h2 h
def aj(H H':Hp):Prop:=∀ b o,H b=some o->H' b=some o
theorem aj.refl(H:Hp):aj H H:=λ_ _ h=>h
theorem aj.trans{H H1 H2:Hp}(a:aj H H1)(b:aj H1 H2):aj H H2:=λc o h=>b c o<|a c o h
theorem aj.free{H H':Hp}(e:aj H H'){l:Addr}(h:H' l=Option.none):H l=Option.none:=by
 cases q:H l with
 | none=>rfl
 | some o=>
  rw [e l o q] at h;cases h
theorem aj.seq{K:PySem.W.Frag}{H H':Hp}{a:Addr}{xs:List V}(e:aj H H')(h:aq K H a xs):aq K H' a xs:=by
 rcases h with (h | ⟨o,h⟩) | h
 ·exact .inl<|.inl<|e _ _ h
 ·exact .inl<|.inr ⟨o,e _ _ h⟩
 ·exact .inr h
section
variable{κ:Type} [DecidableEq κ]
def aB(kvs:List<|κ×V)(k:κ):Option V:=(kvs.find? λkv=>decide (kv.1=k)).map (·.2)
def putK(kvs:List<|κ×V)(k:κ)(v:V):List (κ×V):=
 if(kvs.any λkv=>decide (kv.1=k))=true then kvs.map (λkv=>if kv.1=k then(kv.1,v) else kv) else kvs++[(k,v)]
theorem gQ{p:κ×V}{r:List (κ×V)}{k:κ}(e:p.1=k):aB (p :: r) k=some p.2:=by simp [aB,Fa,e]
theorem gB{p:κ×V}{r:List (κ×V)}{k:κ}(e:¬ p.1=k):aB (p :: r) k=aB r k:=by simp [aB,Fa,e]
theorem oH(k:κ):∀ kvs:List<|κ×V,(kvs.any λkv=>decide (kv.1=k))=(aB kvs k).isSome
 | []=>rfl
 | p :: r=>by
  rw [Fq]
  by_cases e:p.1=k
  ·simp only [gQ e,BW e,Bool.true_or,Option.isSome_some]
  ·rw [gB e,BR e,Bool.false_or];exact oH k r
theorem Lp(k j:κ)(y:V):∀ kvs:List<|κ×V,aB (kvs.map λkv=>if kv.1=k then(kv.1,y) else kv) j=(aB kvs j).map λx=>if j=k then y else x
 | []=>rfl
 | p :: r=>by
  have ih:=Lp k j y r;rw [Bj]
  by_cases h:p.1=k
  ·rw [BP h]
   by_cases e:p.1=j
   ·rw [gQ (p:=(p.1,y)) e,gQ e,Gk,BP<|e.symm.trans h]
   ·rw [gB (p:=(p.1,y)) e,gB e,ih]
  ·rw [BL h]
   by_cases e:p.1=j
   ·rw [gQ (p:=p) e,gQ e,Gk,BL λz=>h<|e.trans z]
   ·rw [gB (p:=p) e,gB e,ih]
theorem Lq(k j:κ)(y:V):∀ kvs:List<|κ×V,aB kvs k=none->aB (kvs++[(k,y)]) j=if j=k then some y else aB kvs j
 | [],_=>by
  by_cases e:k=j
  ·rw [BP e.symm];exact gQ (p:=(k,y)) e
  ·rw [BL λz=>e z.symm];exact gB (p:=(k,y)) e
 | p :: r,hn=>by
  rw [Fm];have hk:¬ p.1=k:=λz=>by rw [gQ z] at hn;cases hn
  rw [gB hk] at hn;have ih:=Lq k j y r hn
  by_cases e:p.1=j
  ·rw [gQ e,gQ e,BL λz=>hk<|e.trans z]
  ·rw [gB e,gB e,ih]
theorem db(kvs:List<|κ×V)(k j:κ)(y:V):aB (putK kvs k y) j=if j=k then some y else aB kvs j:=by
 unfold putK
 by_cases a:(kvs.any λkv=>decide (kv.1=k))=true
 ·rw [BP a,Lp];rw [oH] at a
  by_cases e:j=k
  ·obtain⟨x,hx⟩:=Em.mp a;rw [BP e,e,hx,Gk,BP rfl]
  ·rw [BL e];cases aB kvs j with
   | none=>rfl
   | some x=>rw [Gk,BL e]
 ·rw [BL a];refine Lq k j y kvs ?_;rw [oH] at a;cases q:aB kvs k with
  | none=>rfl
  | some x=>rw [q] at a;exact(a rfl).elim
theorem ik(kvs:List<|κ×V)(k:κ)(v:V):(putK kvs k v).length<=kvs.length+1:=by
 unfold putK
 split
 ·rw [Aa];omega
 ·rw [Af,Aq,Fb];omega
theorem zY{kvs:List (κ×V)}{k:κ}(v:V)(h:aB kvs k=none):putK kvs k v=kvs++[(k,v)]:=by
 unfold putK;rw [oH,h];exact BL<|by decide
theorem cU.bT{o:Option V}{u:Option Value}(r:cU o u):o.isSome=u.isSome:=by
 cases o with
 | none=>cases u with
  | none=>rfl
  | some _=>exact(show False from r).elim
 | some _=>cases u with
  | none=>exact(show False from r).elim
  | some _=>rfl
theorem cU.getD{o:Option V}{u:Option Value}{d:V}{d':Value}(r:cU o u)(rd:RelV d d'):RelV (o.getD d) (u.getD d'):=by
 cases o with
 | none=>cases u with
  | none=>exact rd
  | some _=>exact(show False from r).elim
 | some _=>cases u with
  | none=>exact(show False from r).elim
  | some _=>exact r
theorem KV.val{kvs:List (κ×V)}{vs:List (κ×Value)}(r:KV kvs vs)(k:κ):cU (aB kvs k) (valueAt vs k):=by
 unfold KV at r
 induction r with
 | nil=>exact True.intro
 | @cons p q ps qs h t ih=>
  obtain⟨h1,h2⟩:=h
  by_cases e:p.1=k
  ·have e':q.1=k:=h1.symm.trans e;have b:valueAt (q :: qs) k=some q.2:=by simp [valueAt,Fa,e']
   rw [gQ e,b];exact h2
  ·have e':¬ q.1=k:=λz=>e<|h1.trans z;have b:valueAt (q :: qs) k=valueAt qs k:=by simp [valueAt,Fa,e']
   rw [gB e,b];exact ih
theorem KV.any{kvs:List (κ×V)}{vs:List (κ×Value)}(r:KV kvs vs)(k:κ):(kvs.any λkv=>decide (kv.1=k))=vs.any λkv=>decide (kv.1=k):=by
 unfold KV at r
 induction r with
 | nil=>rfl
 | cons h t ih=>rw [Fq,Fq,ih,h.1]
theorem KV.repl{kvs:List (κ×V)}{vs:List (κ×Value)}(r:KV kvs vs)(k:κ){y:V}{u:Value}(ry:RelV y u) :
  KV (kvs.map λkv=>if kv.1=k then(kv.1,y) else kv) (vs.map λkv=>if kv.1=k then(kv.1,u) else kv):=by
 unfold KV at r ⊢
 induction r with
 | nil=>exact .nil
 | @cons p q ps qs h t ih=>
  rw [Bj,Bj];refine .cons ?_ ih;obtain⟨h1,h2⟩:=h
  by_cases e:p.1=k
  ·rw [BP e,BP<|h1.symm.trans e];exact⟨h1,ry⟩
  ·rw [BL e,BL λz=>e<|h1.trans z];exact⟨h1,h2⟩
theorem KV.put{kvs:List (κ×V)}{vs:List (κ×Value)}(r:KV kvs vs)(k:κ){y:V}{u:Value}(ry:RelV y u):KV (putK kvs k y) (stored vs k u):=by
 unfold putK stored;rw [r.any k]
 by_cases e:(vs.any λkv=>decide (kv.1=k))=true
 ·rw [BP e,BP e];exact r.repl k ry
 ·rw [BL e,BL e];exact Paired.snoc r ⟨rfl,ry⟩
theorem KV.keys{kvs:List (κ×V)}{vs:List (κ×Value)}(r:KV kvs vs):kvs.map (·.1)=vs.map (·.1):=by
 unfold KV at r
 induction r with
 | nil=>rfl
 | cons h t ih=>rw [Bj,Bj,ih,h.1]
theorem KV.length{kvs:List (κ×V)}{vs:List (κ×Value)}(r:KV kvs vs):kvs.length=vs.length:=Paired.length r
end
theorem lF{P:Program}{w:World}{k:Key}{u:Value}(r:RelV (kV k) u):(cS P w).is k u=true:=by
 cases k with
 | inl i=>obtain⟨t,e⟩:=(show ∃ t,u=Value.int i t from r);subst e;exact SW P w i t
 | inr x=>obtain⟨t,e⟩:=(show ∃ t,u=Value.str x t from r);subst e;exact SY P w x t
theorem Lr{P:Program}{w:World}:∀{ks:List Key} {us:List Value},az (ks.map kV) us->ItemsAre (cS P w) ks us
 | [],_,r=>by rw [List.map_nil] at r;cases r;exact .nil
 | k :: ks,_,r=>by
  rw [Bj] at r;cases r with
  | cons h t=>exact .cons (lF h)<|Lr t
abbrev KT(H:Hp):List (List Key×V)->List (List Key×Addr×Value)->Prop:=Paired λp q=>p.1=q.1/\H q.2.1=some (.tup<|p.1.map kV)/\RelV p.2 q.2.2
theorem KT.val{H:Hp}{kvs:List (List Key×V)}{xs:List (List Key×Addr×Value)}(r:KT H kvs xs)(k:List Key):cU (aB kvs k) ((atKey xs k).map (·.2)):=by
 induction r with
 | nil=>exact True.intro
 | @cons p q ps qs h t ih=>
  obtain⟨h1,_,h2⟩:=h
  by_cases e:p.1=k
  ·have e':q.1=k:=h1.symm.trans e;have b:atKey (q :: qs) k=some q.2:=by simp [atKey,Fa,e']
   rw [gQ e,b];exact h2
  ·have e':¬ q.1=k:=λz=>e<|h1.trans z;have b:atKey (q :: qs) k=atKey qs k:=by simp [atKey,Fa,e']
   rw [gB e,b];exact ih
theorem KT.repl{H:Hp}{kvs:List (List Key×V)}{xs:List (List Key×Addr×Value)}(r:KT H kvs xs)(k:List Key){y:V}{u:Value}(ry:RelV y u) :
  KT H (kvs.map λkv=>if kv.1=k then(kv.1,y) else kv) (xs.map<|putAt k u):=by
 induction r with
 | nil=>exact .nil
 | @cons p q ps qs h t ih=>
  rw [Bj,Bj];refine .cons ?_ ih;obtain⟨h1,h2,h3⟩:=h;unfold putAt
  by_cases e:p.1=k
  ·rw [BP e,BP<|h1.symm.trans e];exact⟨h1,h2,ry⟩
  ·rw [BL e,BL λz=>e<|h1.trans z];exact⟨h1,h2,h3⟩
theorem KT.put{H:Hp}{kvs:List (List Key×V)}{xs:List (List Key×Addr×Value)}(r:KT H kvs xs)(k:List Key){b:Addr}{y:V}{u:Value}(hb:H b=some (.tup<|k.map kV))(ry:RelV y u) :
  KT H (putK kvs k y) (storedH xs k b u):=by
 have e:(kvs.any λkv=>decide (kv.1=k))=(atKey xs k).isSome:=by
  rw [oH,(r.val k).bT,QM]
 unfold putK storedH;rw [e]
 by_cases q:(atKey xs k).isSome=true
 ·rw [BP q,BP q];exact r.repl k ry
 ·rw [BL q,BL q];exact Paired.snoc r ⟨rfl,hb,ry⟩
theorem KT.keeps{H H':Hp}{kvs:List (List Key×V)}{xs:List (List Key×Addr×Value)}(r:KT H kvs xs)(ht:∀ b ys,H b=some (.tup ys)->H' b=some (.tup ys)):KT H' kvs xs:=
 Paired.og r λ_ _ z=>⟨z.1,ht _ _ z.2.1,z.2.2⟩
section
variable{P:Program}{w:World}{H:Hp}{h:Heap}{a:Addr}
theorem Lv{u:HO}(ok:cv P w H h)(e:Rd H a u):aD P w H h a u:=e.ok ok
theorem mV{kvs:List (Key×V)}(ok:cv P w H h)(e:Rd H a<|.dK kvs):kvs.length<=sizeLine/\(a == sysModules)=false/\∃ vs,KV kvs vs/\h.DictOf (cS P w) a vs:=
 show aD P w H h a (.dK kvs) from Lv ok e
theorem tj{kvs:List (Key×V)}(ok:cv P w H h)(e:H a=some (.dK kvs)):kvs.length<=sizeLine/\(a == sysModules)=false/\∃ vs,KV kvs vs/\h.DictOf (cS P w) a vs:=mV ok<|.inl e
theorem oI{ks:List Key}(ok:cv P w H h)(e:H a=some (.tup<|ks.map kV)):(tupleKind<|cS P w).is h ks a:=by
 obtain⟨_,its,r,o,h1,h2,n,h3⟩:=(show aD P w H h a (.tup<|ks.map kV) from ok a _ e);exact⟨o,its.toArray,n,h1,h2,h3,by simpa using Lr r⟩
theorem oJ{kvs:List (List Key×V)}(ok:cv P w H h)(e:Rd H a<|.dT kvs):kvs.length<=sizeLine/\(a == sysModules)=false /\
  ∃ xs,KT H kvs xs/\h.DictOfH (tupleKind<|cS P w) a xs:=by
 obtain⟨z,y,xs,r,o,es,ep,h1,h2,h3,h4,h5⟩:=(show aD P w H h a (.dT kvs) from Lv ok e);refine⟨z,y,xs,r,o,es,ep,h1,h2,h3,h4,λx hx=>?_,h5⟩;have all:∀{l:List (List Key×V)} {m:List (List Key×Addr×Value)},KT H l m->∀ x∈m,(tupleKind<|cS P w).is h x.1 x.2.1:=by
  intro l m q
  induction q with
  | nil=>intro x hx;exact nomatch hx
  | @cons p q ps qs hq t ih=>
   intro x hx
   rcases Ak.mp hx with e | hx
   ·subst e;exact oI ok<|by rw [<- hq.1];exact hq.2.1
   ·exact ih x hx
 exact all r x hx
theorem Lw{kvs:List (List Key×V)}(ok:cv P w H h)(e:H a=some (.dT kvs)):kvs.length<=sizeLine/\(a == sysModules)=false /\
  ∃ xs,KT H kvs xs/\h.DictOfH (tupleKind<|cS P w) a xs:=oJ ok<|.inl e
end
def aV(H:Hp)(a:Addr)(y:V)(r:Option V):Prop:=
 (∃ kvs k,Rd H a (.dK kvs)/\y=kV k/\r=aB kvs k)\/∃ kvs k b,Rd H a (.dT kvs)/\y = .ref b/\H b=some (.tup<|k.map kV)/\r=aB kvs k
def bU(H:Hp)(a:Addr)(y v:V)(H':Hp):Prop:=
 (∃ kvs k,H a=some (.dK kvs)/\y=kV k/\kvs.length < sizeLine/\H'=upd H a (.dK<|putK kvs k v)) \/
 ∃ kvs k b,H a=some (.dT kvs)/\y = .ref b/\H b=some (.tup<|k.map kV)/\kvs.length < sizeLine/\H'=upd H a (.dT<|putK kvs k v)
theorem aV.k{H:Hp}{a:Addr}{kvs:List (Key×V)}{k:Key}(e:H a=some (.dK kvs)):aV H a (kV k) (aB kvs k):= .inl ⟨kvs,k,.inl e,rfl,rfl⟩
theorem aV.t{H:Hp}{a b:Addr}{kvs:List (List Key×V)}{k:List Key}(e:H a=some (.dT kvs))(eb:H b=some (.tup<|k.map kV)):aV H a (.ref b) (aB kvs k):= .inr ⟨kvs,k,b,.inl e,rfl,eb,rfl⟩
theorem bU.k{H:Hp}{a:Addr}{kvs:List (Key×V)}{k:Key}{v:V}(e:H a=some (.dK kvs))(hl:kvs.length < sizeLine):bU H a (kV k) v (upd H a<|.dK<|putK kvs k v):= .inl ⟨kvs,k,e,rfl,hl,rfl⟩
theorem bU.t{H:Hp}{a b:Addr}{kvs:List (List Key×V)}{k:List Key}{v:V}(e:H a=some (.dT kvs))(eb:H b=some (.tup<|k.map kV))(hl:kvs.length < sizeLine) :
  bU H a (.ref b) v (upd H a<|.dT<|putK kvs k v):= .inr ⟨kvs,k,b,e,rfl,eb,hl,rfl⟩
section
variable{X:Cx}{pins:List (Addr×Obj)}{σ:St}{H:Hp}{s:Shared}{a:Addr}{y v:V}{u r:Value}{o:Option V}{A:Around}{E:Value->Shared->Prop}
theorem Inv.big(I:Inv X pins σ H s):sysModules < s.heap.objs.size:=by
 have h:mainGlobals < s.heap.objs.size:=(I.mod.glob.keeps I.bk).lt;exact Nat.lt_trans (by decide) h
theorem Vv{Q:Value->Shared->Prop}(hu:A.units+1 < cLine)(I:Inv X pins σ H s)(g:aV H a y<|some v)(ry:RelV y u)(h:∀ w' s',Inv X pins σ H s'->RelV v w'->Q w' s') :
  wpAny (model X.prog X.w) A (getItem (.ref a) u) Q E s:=by
 rcases g with ⟨kvs,k,e,ey,l⟩ | ⟨kvs,k,b,e,ey,eb,l⟩
 ·subst ey;obtain⟨z,hd,vs,rel,dd⟩:=mV I.aG e;obtain⟨w',hw,d9⟩:=cU.some_of (v:=v) (o:=valueAt vs k) (by rw [l];exact rel.val k);exact wpAny_getItem_of (lF ry) dd.mapOf hw<|h w' _ (I.tok _) d9
 ·subst ey;cases (show u=Value.ref b from ry);obtain⟨z,hd,xs,rel,dd⟩:=oJ I.aG e;obtain⟨w',hw,d9⟩:=cU.some_of (v:=v) (o:=(atKey xs k).map (·.2)) (by rw [l];exact rel.val k);obtain⟨p,hp,iP⟩:=Aw.mp hw;refine wpAny_getItem_heap (JC hu) (oI I.aG eb) dd hp ?_;rw [iP];exact h w' _ (I.tok _) d9
theorem zZ{Q:Value->Shared->Prop}(hu:A.units+1 < cLine)(I:Inv X pins σ H s)(g:aV H a y o)(ry:RelV y u)(h:∀ s',Inv X pins σ H s'->Q (.bool o.isSome) s') :
  wpAny (model X.prog X.w) A (compareOp .In u<|.ref a) Q E s:=by
 rcases g with ⟨kvs,k,e,ey,l⟩ | ⟨kvs,k,b,e,ey,eb,l⟩
 ·subst ey;obtain⟨z,hd,vs,rel,dd⟩:=mV I.aG e;refine wpAny_in_of (lF ry) hd dd.mapOf ?_;rw [<- (rel.val k).bT,<- l];exact h _<|I.tok _
 ·subst ey;cases (show u=Value.ref b from ry);obtain⟨z,hd,xs,rel,dd⟩:=oJ I.aG e;refine wpAny_in_heap (JC hu) (oI I.aG eb) hd dd ?_;have q:=(rel.val k).bT;rw [QM] at q;rw [<- q,<- l];exact h _<|I.tok _
theorem Vw{Q:Value->Shared->Prop}(hu:A.units+1 < cLine)(I:Inv X pins σ H s)(g:aV H a y o)(ry:RelV y u)(h:∀ s',Inv X pins σ H s'->Q (.bool (!o.isSome)) s') :
  wpAny (model X.prog X.w) A (compareOp .NotIn u<|.ref a) Q E s:=by
 rcases g with ⟨kvs,k,e,ey,l⟩ | ⟨kvs,k,b,e,ey,eb,l⟩
 ·subst ey;obtain⟨z,hd,vs,rel,dd⟩:=mV I.aG e;refine wpAny_notIn_of (lF ry) hd dd.mapOf ?_;rw [<- (rel.val k).bT,<- l];exact h _<|I.tok _
 ·subst ey;cases (show u=Value.ref b from ry);obtain⟨z,hd,xs,rel,dd⟩:=oJ I.aG e;refine wpAny_notIn_heap (JC hu) (oI I.aG eb) hd dd ?_;have q:=(rel.val k).bT;rw [QM] at q;rw [<- q,<- l];exact h _<|I.tok _
theorem mW{h':Heap}{t':Nat}{ob:HO}(I:Inv X pins σ H s)(mu:sj<|H a)(hs:Heap.SameBut a s.heap h')(he:∃ q,h'.get? a=some q)(new:aD X.prog X.w (upd H a ob) h' a ob) :
  Inv X pins σ (upd H a ob) {s with heap:=h',toks:=t'}:=
 I.write (x:=a) (e:=a) mu (.inl rfl) (λb q hb z=>(hs.2 b hb).trans z) he new
theorem z6{P:Program}{w:World}{H':Hp}{h':Heap}{kvs:List (Key×V)}{vs:List (Key×Value)}(z:kvs.length<=sizeLine)(hd:(a == sysModules)=false)(rel:KV kvs vs)(dd:h'.DictOf (cS P w) a vs) :
  aD P w H' h' a (.dK kvs):=⟨z,hd,vs,rel,dd⟩
theorem Vx{H':Hp}{Q:Unit->Shared->Prop}(hu:A.units+1 < cLine)(I:Inv X pins σ H s)(g:bU H a y v H')(ry:RelV y u)(rv:RelV v r)(h:∀ s',Inv X pins σ H' s'->Q () s') :
  wpAny (model X.prog X.w) A (setItem (.ref a) u r) Q E s:=by
 rcases g with ⟨kvs,k,e,ey,l,eH⟩ | ⟨kvs,k,b,e,ey,eb,l,eH⟩
 ·subst ey eH;obtain⟨z,hd,vs,rel,dd⟩:=tj I.aG e;have hz:vs.length<=sizeLine:=by rw [<- rel.length];exact z
  have hl:(putK kvs k v).length<=sizeLine:=by have:=ik kvs k v;omega
  refine wpAny_setItem_pairs (hsz:=hz) (lF ry) dd λh' jh hs=>h _ ?_;have he:∃ q,h'.get? a=some q:=let ⟨q,_,_,hq,_⟩:=jh;⟨q,hq⟩
  exact mW I (by rw [e];exact True.intro) hs he<|z6 hl hd (rel.put k rv) jh
 ·subst ey eH;cases (show u=Value.ref b from ry);obtain⟨z,hd,xs,rel,dd⟩:=Lw I.aG e;have hz:xs.length<=sizeLine:=by rw [<- Paired.length rel];exact z
  have hl:(putK kvs k v).length<=sizeLine:=by have:=ik kvs k v;omega
  refine wpAny_setItem_heap (hsz:=hz) (JC hu) (oI I.aG eb) dd λh' jh hs=>h _ ?_;obtain⟨q,es,ep,hq,h2,h3,h4,_,h5⟩:=jh;refine mW I (by rw [e];exact True.intro) hs ⟨q,hq⟩ ⟨hl,hd,_,(rel.put k eb rv).keeps λc ys ec=>?_,q,es,ep,hq,h2,h3,h4,h5⟩;rw [av<|ce ec e λz=>nomatch z];exact ec
end
section
variable{X:Cx}{pins:List (Addr×Obj)}{σ:St}{H:Hp}{s:Shared}{a:Addr}{kvs:List (Key×V)}{k:Key}{u:Value}{A:Around}{E:Value->Shared->Prop}
end
def oK(i:Expr):Prop:=∀ ov iv,subscripted i false ov iv=operate [ov,iv] (getItem ov iv)
theorem Vy{prog:Program}{w:World}{A:Around}{E:Value->Shared->Prop}{s:Shared}{env:Env}{value slice:Expr}{pos:Pos}{T id:String}{Q:Value->Shared->Prop}
  (hl:typeLookup (.type T) "__getitem__" = pure (some<|.builtin id)) (hs:oK slice)
  (h:wpAny (model prog w) A (eval value env) (λo s₁=>wpAny (model prog w) A (eval slice env) (λi s₂=>s₂.TypeIs o T/\wpAny (model prog w) A (getItem o i) Q E s₂) E s₁) E s) :
  wpAny (model prog w) A (eval (.Subscript value slice pos) env) Q E s:=by
 refine Subscript_<|CW h (λo s₁ h₁=>CW h₁ (λi s₂ h₂=>?_) λ_ _ x=>x) λ_ _ x=>x;obtain⟨hT,h₂⟩:=h₂;unfold subscriptTail;refine BJ ?_;rw [getitemInPython_of_ne hT.not_modules];refine BJ<|RX hT hl ?_;have fin:wpAny (model prog w) A (subscripted slice false o i) (λr s₃=>wpAny (model prog w) A (letTemporaryGo value o r >>= λ_=>pure r) Q E s₃) E s₂:=by
  rw [hs o i];exact wpAny_operating<|CW h₂ (λr s₃ h₃=>BJ<|wpAny_letTemporaryGo<|BK h₃) λ_ _ x=>x
 first
  | exact BK<|BJ fin
  | exact BJ<|BK<|BJ fin
  | exact BJ fin
theorem Vz{X:Cx}{pins:List (Addr×Obj)}{σ:St}{H:Hp}{s:Shared}{a:Addr}{y:V}{o:Option V}(I:Inv X pins σ H s)(g:aV H a y o):s.TypeIs (.ref a) "dict":=by
 rcases g with ⟨kvs,k,e,_,_⟩ | ⟨kvs,k,b,e,_,_,_⟩
 ·obtain⟨_,_,vs,_,dd⟩:=mV I.aG e;exact dd.typeIs
 ·obtain⟨_,_,xs,_,dd⟩:=oJ I.aG e;exact dd.typeIs
def VA(td ty:TE):TE:=λσ H Q=>td σ H λx H1=>ty σ H1 λy H2=>∃ a v,x = .ref a/\aV H2 a y (some v)/\Q v H2
def z7(ty td:TE):TE:=λσ H Q=>ty σ H λy H1=>td σ H1 λx H2=>∃ a o,x = .ref a/\aV H2 a y o/\Q (.bl o.isSome) H2
def VC(ty td:TE):TE:=λσ H Q=>ty σ H λy H1=>td σ H1 λx H2=>∃ a o,x = .ref a/\aV H2 a y o/\Q (.bl (!o.isSome)) H2
def VE(td ty tv:TE):TS:=λD σ H=>tv σ H λv H1=>td σ H1 λx H2=>ty σ H2 λy H3=>∃ a H4,x = .ref a/\bU H3 a y v H4/\D.nx σ H4
section
variable{X:Cx}{o i e value:Expr}{pos pos' zy:Pos}{td ty tv:TE}
theorem VH(hu:X.A.units+1 < cLine)(ho:PE X o td)(hi:PE X i ty)(hs:oK i):PE X (.Subscript o i pos) (VA td ty):=by
 intro pins s σ H Q I h;refine Vy PySem.F.slot_dict_getitem.lookup hs<|aQ (ho pins s σ H _ I h) λu s1 ⟨x,H1,I1,rx,q1⟩=>aQ (hi pins s1 σ H1 _ I1 q1) λiv s2 ⟨y,H2,I2,ry,a,v,ex,g,q2⟩=>?_;subst ex;obtain rfl:u=Value.ref a:=rx;exact⟨Vz I2 g,Vv hu I2 g ry λw' s3 I3 d9=>⟨v,H2,I3,d9,q2⟩⟩
theorem VI(hu:X.A.units+1 < cLine)(hi:PE X i ty)(ho:PE X o td):PC X .In i o (z7 ty td):=by
 intro pins s σ H Q I h;refine aQ (hi pins s σ H _ I h) λiv s1 ⟨y,H1,I1,ry,q1⟩=>aQ (ho pins s1 σ H1 _ I1 q1) λu s2 ⟨x,H2,I2,rx,a,ov,ex,g,q2⟩=>?_;subst ex;obtain rfl:u=Value.ref a:=rx;exact zZ hu I2 g ry λs3 I3=>⟨.bl ov.isSome,H2,I3,rfl,q2⟩
theorem VJ(hu:X.A.units+1 < cLine)(hi:PE X i ty)(ho:PE X o td):PC X .NotIn i o (VC ty td):=by
 intro pins s σ H Q I h;refine aQ (hi pins s σ H _ I h) λiv s1 ⟨y,H1,I1,ry,q1⟩=>aQ (ho pins s1 σ H1 _ I1 q1) λu s2 ⟨x,H2,I2,rx,a,ov,ex,g,q2⟩=>?_;subst ex;obtain rfl:u=Value.ref a:=rx;exact Vw hu I2 g ry λs3 I3=>⟨.bl (!ov.isSome),H2,I3,rfl,q2⟩
theorem VL(hu:X.A.units+1 < cLine)(ho:PE X o td)(hi:PE X i ty)(hv:PE X value tv)(hs:swapsWith value (some<|.Subscript o i pos') pos.line X.env=pure false) :
  PS X (.Assign [.Subscript o i pos'] value pos) (VE td ty tv):=by
 intro pins s σ H D I h;refine wpAny_Assign_Subscript (aQ (hv pins s σ H _ I h) λr s1 ⟨v,H1,I1,rv,q1⟩=>aQ (ho pins s1 σ H1 _ I1 q1) λu s2 ⟨x,H2,I2,rx,q2⟩=>aQ (hi pins s2 σ H2 _ I2 q2) λiv s3 ⟨y,H3,I3,ry,a,H4,ex,g,q3⟩=>?_) hs;subst ex;obtain rfl:u=Value.ref a:=rx;exact Vx hu I3 g ry rv λs4 I4=>⟨σ,H4,I4,q3⟩
end
theorem Lx{P:Program}{w:World}{H:Hp}(h:Heap)(hb:sysModules < h.objs.size):aD P w H (h.push {cls:= .type "dict",data:= .dict #[]}) h.objs.size (.dK []):=
 ⟨Bx _,beq_eq_false_iff_ne.mpr<|CG<|Bo hb,[],.nil,Heap.DictOf.new h⟩
theorem z8{P:Program}{w:World}{H:Hp}(h:Heap)(hb:sysModules < h.objs.size):aD P w H (h.push {cls:= .type "dict",data:= .dict #[]}) h.objs.size (.dT []):=
 ⟨Bx _,beq_eq_false_iff_ne.mpr<|CG<|Bo hb,[],.nil,_,#[],0,At _ rfl,⟨rfl,rfl,rfl⟩,rfl,rfl,Ch⟩
def VM:TE:=λ_ H Q=>∀ p,H p=none->Q (.ref p) (upd H p<|.dK [])
def VN:TE:=λ_ H Q=>∀ p,H p=none->Q (.ref p) (upd H p<|.dT [])
section
variable{X:Cx}{pos:Pos}
theorem VO:PE X (.Dict [] [] pos) VM:=λpins s σ H Q I h=>
 wpAny_Dict_empty ⟨.ref s.heap.objs.size,_,I.laid (a:=s.heap.objs.size) (o:= .dK []) (t':=s.toks) (λ_ _ q=>Ag _ q) (Al _)<|Lx s.heap I.big,rfl,h _<|I.aG.fresh<|Al _⟩
theorem VP:PE X (.Dict [] [] pos) VN:=λpins s σ H Q I h=>
 wpAny_Dict_empty ⟨.ref s.heap.objs.size,_,I.laid (a:=s.heap.objs.size) (o:= .dT []) (t':=s.toks) (λ_ _ q=>Ag _ q) (Al _)<|z8 s.heap I.big,rfl,h _<|I.aG.fresh<|Al _⟩
end
structure M2(X:Cx)(o:Expr)(m:Str)(apos:Pos)(e f:Expr)(b9:Pos):Prop where
 base:attributeBase o m X.env (eval o X.env)=eval o X.env
 few:((backTo b9<|starEach [e,f] X.env).all (λx=>!x.1) && (backToKw b9<|keywordEach [] X.env).all (λx=>x.1.isSome)
  && decide (([e,f]:List Expr).length+([]:List Keyword).length+(if([]:List Keyword).isEmpty then 0 else 1) < 30))=true
 line:(apos.endLine == b9.line)=true
 trees:backTo b9 (starEach [e,f] X.env)=[(false,eval e X.env),(false,eval f X.env)]
def z9(H:Hp)(a:Addr):Prop:=(∃ kvs,Rd H a<|.dK kvs)\/∃ kvs,Rd H a<|.dT kvs
theorem VQ{X:Cx}{pins:List (Addr×Obj)}{σ:St}{H:Hp}{s:Shared}{a:Addr}(I:Inv X pins σ H s)(d:z9 H a) :
  s.TypeIs (.ref a) "dict"/\(∀ b,Value.ref a = .ref b->∃ ob,s.heap.get? b=some ob/\ob.dict=none)/\(a == sysModules)=false:=by
 rcases d with ⟨kvs,e⟩ | ⟨kvs,e⟩
 ·obtain⟨_,hd,vs,_,dd⟩:=mV I.aG e;refine⟨dd.typeIs,λb q=>?_,hd⟩;cases q;obtain⟨ob,_,_,h1,h2,_⟩:=dd;exact⟨ob,h1,h2.2.1⟩
 ·obtain⟨_,hd,xs,_,dd⟩:=oJ I.aG e;refine⟨dd.typeIs,λb q=>?_,hd⟩;cases q;obtain⟨ob,_,_,h1,h2,_⟩:=dd;exact⟨ob,h1,h2.2.1⟩
section
variable{X:Cx}{pins:List (Addr×Obj)}{σ:St}{H:Hp}{s:Shared}{a:Addr}{y d:V}{u r:Value}{o:Option V}{A:Around}{E:Value->Shared->Prop}
theorem VR{Q:Value->Shared->Prop}(hu:A.units+1 < cLine)(I:Inv X pins σ H s)(g:aV H a y o)(ry:RelV y u)(rd:RelV d r)(h:∀ w' s',Inv X pins σ H s'->RelV (o.getD d) w'->Q w' s') :
  wpAny (model X.prog X.w) A (call (.builtin "dict.get") [.ref a,u,r]) Q E s:=by
 rcases g with ⟨kvs,k,e,ey,l⟩ | ⟨kvs,k,b,e,ey,eb,l⟩
 ·subst ey;obtain⟨z,hd,vs,rel,dd⟩:=mV I.aG e;refine QZ LQ dd.typeIs SN (RM _ _ _) (meets_dict_get_default (cS X.prog X.w) a (lF ry) hd r) ⟨_,dd.mapOf,h _ _ (I.tok _) ?_⟩;rw [l];exact(rel.val k).getD rd
 ·subst ey;cases (show u=Value.ref b from ry);obtain⟨z,hd,xs,rel,dd⟩:=oJ I.aG e;refine QZ LQ dd.typeIs SN (RM _ _ _) (meetsH_dict_get_default (tupleKind<|cS X.prog X.w) a b hd r) ⟨JC hu,k,xs,oI I.aG eb,dd,h _ _ (I.tok _) ?_⟩;rw [l];exact(rel.val k).getD rd
end
def VS(td ty tx:TE):TE:=λσ H Q=>td σ H λx H1=>∃ a,x = .ref a/\z9 H1 a/\ty σ H1 λy H2=>tx σ H2 λz H3=>∃ o,aV H3 a y o/\Q (o.getD z) H3
section
variable{X:Cx}{o e f:Expr}{apos b9:Pos}{td ty tx:TE}
theorem VU(hu:X.A.units+1 < cLine)(ho:PE X o td)(he:PE X e ty)(hf:PE X f tx)(m:M2 X o "get" apos e f b9):PE X (.Call (.Attribute o "get" apos) [e,f] [] b9) (VS td ty tx):=by
 intro pins s σ H Q I h;refine wpAny_Call_method m.base m.few m.line RN LQ PySem.F.type_dict_get<|aQ (ho pins s σ H _ I h) λu s1 ⟨x,H1,I1,rx,a,ex,d,q1⟩=>?_;subst ex;obtain rfl:u=Value.ref a:=rx;obtain⟨t1,t2,_⟩:=VQ I1 d;refine⟨t1,t2,?_⟩;rw [m.trees];refine HN rfl (NK<|QB<|aQ (he pins s1 σ H1 _ I1 q1) λiv s2 ⟨y,H2,I2,ry,q2⟩=>
  QB (aQ (hf pins s2 σ H2 _ I2 q2) λfv s3 ⟨z,H3,I3,rz,ov,g,q3⟩=>Calls.spliced_nil ?_))
 exact VR hu I3 g ry rz λw' s4 I4 d9=>⟨_,H3,I4,d9,q3⟩
end
section
variable{X:Cx}{pins:List (Addr×Obj)}{σ:St}{H:Hp}{s:Shared}{a:Addr}{kvs:List (Key×V)}{A:Around}{E:Value->Shared->Prop}
end
section
variable{X:Cx}{pins:List (Addr×Obj)}{σ:St}{H:Hp}{s:Shared}{a:Addr}{y:V}{u:Value}{A:Around}{E:Value->Shared->Prop}
end
section
variable{X:Cx}
end
section
variable{κ:Type} [DecidableEq κ]
theorem AA{kvs:List (κ×V)}{k:κ}{v:V}(h:aB kvs k=some v):k∈kvs.map (·.1):=by
 have q:(kvs.any λkv=>decide (kv.1=k))=true:=by
  rw [oH,h]
  all_goals rfl
 obtain⟨p,hp,e⟩:=List.any_eq_true.mp q;exact An.mpr ⟨p,hp,BX e⟩
theorem mX:∀{l:List κ} {k:κ},l.Nodup->¬ k∈l->(l++[k]).Nodup
 | [],k,_,_=>by simp
 | a :: r,k,h,hk=>by
  obtain⟨h1,h2⟩:=Be.mp h;show(a :: (r++[k])).Nodup;refine Be.mpr ⟨λm=>?_,mX h2 λm=>hk<|Ak.mpr<|Or.inr m⟩
  rcases Am.mp m with q | q
  ·exact h1 q
  ·exact hk<|Ak.mpr<|Or.inl (Ad.mp q).symm
end
section
variable{X:Cx}{tg:Expr}
end
theorem Ly{env:Env}:∀{names:List (Str×NameKind)} {x:Str} {k':NameKind},
  (names.map λ(n,k)=>if(k == NameKind.free && env.scope.kind == .function && env.kindOf n == some .cell) then(n,NameKind.cell) else(n,k)).lookup x=some k' ->
  ∃ k,names.lookup x=some k/\(k'=k\/(k = .free/\k' = .cell))
 | [],_,_,h=>by simp at h
 | (n,k) :: r,x,k',h=>by
  have ih:=@Ly env r x k'
  change List.lookup x ((if(k == NameKind.free && env.scope.kind == .function && env.kindOf n == some .cell)=true then(n,NameKind.cell) else(n,k)) :: _)=_ at h
  cases hx:x == n with
  | true=>
   by_cases hc:(k == NameKind.free && env.scope.kind == .function && env.kindOf n == some .cell)=true
   ·rw [BP hc] at h;simp only [Dp,hx] at h;cases h;have hk:k = .free:=by
     have:=(Bv _ _ ▸ (Bv _ _ ▸ hc).1).1;cases k <;> first | rfl | (exact absurd this<|by decide)
    exact⟨k,by simp [Dp,hx],.inr ⟨hk,rfl⟩⟩
   ·rw [BL hc] at h;simp only [Dp,hx] at h;cases h;exact⟨k,by simp [Dp,hx],.inl rfl⟩
  | false=>
   have h2:∃ k,r.lookup x=some k/\(k'=k\/(k = .free/\k' = .cell)):=by
    by_cases hc:(k == NameKind.free && env.scope.kind == .function && env.kindOf n == some .cell)=true
    ·rw [BP hc] at h;simp only [Dp,hx] at h;exact ih h
    ·rw [BL hc] at h;simp only [Dp,hx] at h;exact ih h
   obtain⟨k2,e2,r2⟩:=h2;exact⟨k2,by simp [Dp,hx,e2],r2⟩
def cB(names:List<|Str×NameKind)(cells:List<|Str×Addr)(acc:List<|Str×Addr):List (Str×Addr):=
 names.foldl (λa x=>if x.2 == .free then(match cells.lookup x.1 with | some c=>(x.1,c) :: a | none=>a) else a) acc
theorem Lz{scope:Scope}{env:Env}(h:∀ x∈scope.names,x.2 = .free->∃ c,env.cells.lookup x.1=some c):closureFor scope env=pure (cB scope.names env.cells []):=by
 have all:∀(l:List<|Str×NameKind) (acc:List<|Str×Addr),(∀ x∈l,x.2 = .free->∃ c,env.cells.lookup x.1=some c) ->
   (forIn l acc λ(x:Str×NameKind) (cs:List<|Str×Addr)=>(if x.2 == .free then(do let c <- cellOf env x.1;pure (ForInStep.yield<|(x.1,c) :: cs)) else pure (ForInStep.yield cs):Sem _))=pure (cB l env.cells acc):=by
  intro l
  induction l with
  | nil=>intro acc _;rfl
  | cons x r ih=>
   intro acc hl;rw [Gm];have hr:∀ y∈r,y.2 = .free->∃ c,env.cells.lookup y.1=some c:=λy hy=>hl y<|Ai _ hy;cases hk:x.2 == .free with
   | true=>
    have AB:x.2 = .free:=by
     revert hk
     cases x.2 <;> intro hk <;> first | rfl | (exact absurd hk<|by decide)
    obtain⟨c,hc⟩:=hl x Ae AB;simp only [DP,cellOf,hc];rw [show cB (x :: r) env.cells acc=cB r env.cells ((x.1,c) :: acc) by unfold cB;rw [Dd];simp [hk,hc]];exact ih _ hr
   | false=>
    simp only [Bb,CV];rw [show cB (x :: r) env.cells acc=cB r env.cells acc by unfold cB;rw [Dd];simp [hk]];exact ih _ hr
 have q:=all scope.names [] h;simp only [closureFor];exact(BZ (· >>= λr=>pure r) q).trans rfl
theorem AF:∀(names:List<|Str×NameKind) (cells acc:List<|Str×Addr),(∀ x c,(x,c)∈acc->cells.lookup x=some c)->∀ x c,(x,c)∈cB names cells acc->cells.lookup x=some c
 | [],_,_,h=>h
 | y :: r,cells,acc,h=>by
  have e:cB (y :: r) cells acc=cB r cells (if y.2 == .free then(match cells.lookup y.1 with | some c=>(y.1,c) :: acc | none=>acc) else acc):=rfl;rw [e];refine AF r cells _ ?_;cases hk:y.2 == .free with
  | false=>simpa using h
  | true=>
   cases hc:cells.lookup y.1 with
   | none=>simpa using h
   | some c=>
    intro x d hx;simp only [DP] at hx
    rcases Ak.mp hx with e | hx
    ·cases e;exact hc
    ·exact h x d hx
theorem LA:∀(names:List<|Str×NameKind) (cells acc:List<|Str×Addr) (x:Str) (c:Addr),(x,c)∈acc->(x,c)∈cB names cells acc
 | [],_,_,_,_,h=>h
 | y :: r,cells,acc,x,c,h=>by
  have e:cB (y :: r) cells acc=cB r cells (if y.2 == .free then(match cells.lookup y.1 with | some c=>(y.1,c) :: acc | none=>acc) else acc):=rfl;rw [e];refine LA r cells _ x c ?_;cases hk:y.2 == .free with
  | false=>simpa using h
  | true=>
   cases hc:cells.lookup y.1 with
   | none=>simpa using h
   | some d=>simp only [DP];exact Ai _ h
theorem AG:∀(names:List<|Str×NameKind) (cells acc:List<|Str×Addr) (x:Str) (c:Addr),(x,NameKind.free)∈names->cells.lookup x=some c->(x,c)∈cB names cells acc
 | [],_,_,_,_,h,_=>by cases h
 | y :: r,cells,acc,x,c,h,hc=>by
  have e:cB (y :: r) cells acc=cB r cells (if y.2 == .free then(match cells.lookup y.1 with | some c=>(y.1,c) :: acc | none=>acc) else acc):=rfl;rw [e]
  rcases Ak.mp h with e2 | h
  ·subst e2;refine LA r cells _ x c ?_;have:(NameKind.free == NameKind.free)=true:=rfl;simp only [hc,this,DP];exact Ae
  ·exact AG r cells _ x c h hc
theorem AH{α:Type}:∀{l:List (Str×α)} {x:Str} {c:α},(x,c)∈l->∃ d,l.lookup x=some d
 | [],_,_,h=>by cases h
 | (n,d) :: r,x,c,h=>by
  cases hx:x == n with
  | true=>exact⟨d,by simp [Dp,hx]⟩
  | false=>
   rcases Ak.mp h with e | h
   ·cases e;simp at hx
   ·obtain⟨d',e⟩:=AH h;exact⟨d',by simp [Dp,hx,e]⟩
section
variable{prog:Program}{w:World}{A:Around}{R:Result->Shared->Prop}{s:Shared}
theorem k1a{elt target iter:Expr}{ifs:List Expr}{scope:Scope}{pos:Pos}{it acc:Value}{env:Env}(I:Nat->Shared->Prop)
  (turn : ∀ n s, I n s → wpAny (model prog w) A (pyNext it) (λr s₁ => match r with
   | none=>R (.ok .next) s₁
   | some v=>wpAny (model prog w) A (letOwnedTupleGo target it v) (λ_ s₁'=>wpAny (model prog w) A (assign target env v) (λ_ s₂=>
     wpAny (model prog w) A (forIn ifs true λc r=>if r=true then do let ok <- isTrue c env<|eval c env;pure (ForInStep.yield ok) else pure (ForInStep.yield r)) (λok s₃=>
      if ok=true then wpAny (model prog w) A (eval elt env) (λx s₄=>
       wpAny (model prog w) A (call (.builtin "list.append") [acc,x]) (λ_ s₅=>∃ m,m < n/\I m s₅) (notedBy (model prog w) A env λe s'=>R (.error e) s') s₄) (notedBy (model prog w) A env λe s'=>R (.error e) s') s₃
      else ∃ m,m < n/\I m s₃) (notedBy (model prog w) A env λe s'=>R (.error e) s') s₂) (notedBy (model prog w) A env λe s'=>R (.error e) s') s₁') (notedBy (model prog w) A env λe s'=>R (.error e) s') s₁) (notedBy (model prog w) A env λe s'=>R (.error e) s') s)
  (n:Nat) (h:I n s) :
  codeAny (model prog w) A (.compLoop (.ListComp elt [⟨target,iter,ifs,0⟩] scope pos) 0 it acc env) R s:=by
 refine codeAny_loop rfl I (λn s hI=>?_) n h;show wpAny _ A ((compTurn (.ListComp elt [⟨target,iter,ifs,0⟩] scope pos) 0 it acc env).onRaise λx=>do noteFrame x env;theTreesLotGoes x) _ _ s;refine wpAny_noted ?_;rw [compTurn_list];refine BJ<|IK<|BJ<|CW (turn n s hI) (λr s₁ h₁=>?_) λ_ _ h'=>h';cases r with
 | none=>exact BK h₁
 | some v=>
  refine BJ<|CW h₁ (λ_ s₁' h₁'=>?_) λ_ _ h'=>h';refine BJ<|CW h₁' (λ_ s₂ h₂=>BJ<|CW h₂ (λok s₃ h₃=>?_) λ_ _ h'=>h') λ_ _ h'=>h';cases ok with
  | false=>exact BK ⟨rfl,h₃⟩
  | true=>
   exact BJ<|BJ<|CW h₃ (λx s₄ h₄=>BJ<|CW h₄ (λ_ s₅ h₅=>BK<|BK ⟨rfl,h₅⟩) λ_ _ h'=>h') λ_ _ h'=>h'
end
def LD(X:Cx)(ifs:List Expr)(t:TT):Prop:=
 ∀(pins:List<|Addr×Obj) (s:Shared) (σ:St) (H:Hp) (Q:Bool->Hp->Prop),Inv X pins σ H s->t σ H Q ->
  wpAny (model X.prog X.w) X.A (forIn ifs true λc r=>if r=true then do let ok <- isTrue c X.env<|eval c X.env;pure (ForInStep.yield ok) else pure (ForInStep.yield r)) (TP X pins σ Q) X.xe s
def AI:TT:=λ_ H Q=>Q true H
theorem VV{X:Cx}:LD X [] AI:=λ_ _ _ H _ I h=>wpAny_tests_nil ⟨H,I,h⟩
theorem VW{X:Cx}{c:Expr}{t:TT}(h:PT X c t):LD X [c] t:=λpins s σ H Q I hq=>wpAny_tests_one<|h pins s σ H Q I hq
def fz(X:Cx)(N':List Str)(scope:Scope)(cl:List<|Str×Addr)(C:Addr)(s₀:Shared)(H₀:Hp)(ex:List Addr):Cx:=
 {prog:=X.prog,w:=X.w,K:=X.K,mg:=X.mg,base:=X.base,A:=X.A,N:=N',s₀:=s₀,H₀:=H₀,env:=compEnvC scope cl C X.env,outer:=X.stack,stack:=X.stack,ex:=ex,fn:=λx=>match scope.names.lookup x with | some .cell=>true | _=>false,calm:=X.calm,pn:=[],xe:=λ_ _=>False}
theorem iQ{α:Type}{t:Sem α}{Q Q':α->Shared->Prop}{M:Model}{A:Around}{E:Value->Shared->Prop}{s:Shared}(h:wpAny M A t Q (λ_ _=>False) s)(hQ:∀ a s,Q a s->Q' a s):wpAny M A t Q' E s:=CW h hQ λ_ _ z=>z.elim
section
variable{X:Cx}
theorem wH:fH X (.builtin "isinstance") (λxs H Q=>∃ x t T b,xs=[x,.ty T]/\cW X.K H x t/\PySem.W.kitOne X.K t (.type T)=some b/\Q (.bl b) H):=by
 intro pins s σ H xs us Q I r h;obtain⟨x,t,T,b,rfl,ty,e,q⟩:=h;obtain⟨u,w',rfl,ru,d9⟩:=vals2 r;cases (show w'=Value.type T from d9);exact UB I ru ty e λtk=>⟨.bl b,H,I.tok tk,rfl,q⟩
theorem VX:cK X (binaryOp .Mult) (λx y H Q=>∃ z i,x = .str z/\y = .int i/\0<=i/\i<=100000/\z.length * i.toNat<=100000/\Q (.str<|Txt.mul z i) H):=by
 intro pins s σ H x y v u Q I rx ry h;obtain⟨z,i,rfl,rfl,h0,h1,h2,q⟩:=h;obtain⟨t,rfl⟩:=rx;obtain⟨t',rfl⟩:=ry;have hsz:sizeLine=16777216:=DW;refine SB.mul ⟨?_,λh3 h4=>?_,λh3 h4=>?_⟩ λt' k=>⟨.str _,H,I.tok k,⟨_,rfl⟩,q⟩
 ·rw [BR (by omega),BR<|by omega];rfl
 ·have h5:(z.length:Int)<=100000:=by
   have h6:z.length * 1<=z.length * i.toNat:=Nat.mul_le_mul_left _ (by omega);omega
  have h7:(100000:Int)<=(2 ^ 63 - 1) / i:=by
   rw [Int.le_ediv_iff_mul_le<|by omega];have:(100000:Int) * i<=100000 * 100000:=Int.mul_le_mul_of_nonneg_left h1 (by decide);have e:(2:Int) ^ 63 - 1=9223372036854775807:=by decide
   omega
  omega
 ·unfold Builtin.Str.tooLong;rw [hsz];exact BR<|by omega
end
def isStar:Expr->Bool
 | .Starred _ _=>true
 | _=>false
def noStar(es:List Expr):Bool:=es.all λe=>!isStar e
theorem oM(e:Expr)(es:List Expr)(env:Env)(h:isStar e=false):starEach (e :: es) env=(false,eval e env) :: starEach es env:=by
 cases e <;> first | rfl | (exact absurd h<|by simp [isStar])
theorem wI(pos:Pos)(env:Env):∀ es:List Expr,noStar es=true->(backTo pos<|starEach es env).any (·.1)=false
 | [],_=>rfl
 | e :: es,h=>by
  have h':(!isStar e)=true/\noStar es=true:=by
   have:=h;unfold noStar at this ⊢;rw [Gq,Bv] at this;exact this
  have hs:isStar e=false:=by
   have:=h'.1;cases q:isStar e with
   | true=>rw [q] at this;cases this
   | false=>rfl
  rw [oM e es env hs];show(false || (backTo pos<|starEach es env).any (·.1))=false;rw [wI pos env es h'.2];rfl
theorem qI{e:Expr}{es:List Expr}(h:noStar (e :: es)=true):isStar e=false/\noStar es=true:=by
 unfold noStar at h ⊢;rw [Gq,Bv] at h;refine⟨?_,h.2⟩;cases q:isStar e with
 | true=>rw [q] at h;cases h.1
 | false=>rfl
section
variable{X:Cx}{CX:gO}{k:Nat}{f C:Addr}{fd:FuncData}{ps:List Str}{sp:Sp}{li:List V}{ds:List Value}{E:XK}{x m:Str}{p pos apos:Pos}{e o:Expr}{es:List Expr}{ta te:TE}{t:TA}{id T:String}{r:List V->Hp->VK->Prop}
theorem VY(ha:PE X e te)(hr:PA X es t)(hs:isStar e=false:=by rfl):PA X (e :: es) (KU te t):=UD ha hr<|oM _ _ _ hs
theorem VZ(F:aI X.prog X.w X.K X.mg X.base CX k f fd ps sp)(hr:bz k X.A)(hm:X.mg x=some (.ref f))(hk:PySem.W.keepIn X.K (.ref f)=true)(hb:Binds X.K fd ps [])(hx:sN CX X E)
  (ha:PA X (e :: es) t) (hg:Gl X x:=by rfl) (dU:(x == ("__debug__" : Str))=false:=by decide) (hs:noStar (e :: es)=true:=by rfl):PE X (.Call (.Name x p) (e :: es) [] pos) (KW sp [] E t):=
 UK F hr hg hm hk hb .nil hx ha dU (oM _ _ _ (qI hs).1) (wI _ _ _ (qI hs).2)
theorem AJ(hc:fH X (.builtin id) r)(hm:X.mg x=none)(hv:bootBuiltins x=some (.builtin id))(ha:PA X (e :: es) t)(hg:Gl X x:=by rfl)(hn:x ≠ "__name__":=by decide)(dU:(x == ("__debug__" : Str))=false:=by decide)
  (hs:noStar (e :: es)=true:=by rfl):PE X (.Call (.Name x p) (e :: es) [] pos) (wB r t):=
 UP hc hg hm hv ha hn dU (oM _ _ _ (qI hs).1) (wI _ _ _ (qI hs).2)
theorem AK(hc:fH X (.type T) r)(hm:X.mg x=none)(hv:bootBuiltins x=some (.type T))(ha:PA X (e :: es) t)(hg:Gl X x:=by rfl)(hn:x ≠ "__name__":=by decide)(dU:(x == ("__debug__" : Str))=false:=by decide)
  (hs:noStar (e :: es)=true:=by rfl):PE X (.Call (.Name x p) (e :: es) [] pos) (wB r t):=
 UQ hc hg hm hv ha hn dU (oM _ _ _ (qI hs).1) (wI _ _ _ (qI hs).2)
end
structure Ev(X:Cx)(e:Expr)(σ:St)(H:Hp)(Q:VK):Prop where
 run:∀(pins:List<|Addr×Obj) (s:Shared),Inv X pins σ H s->wpAny (model X.prog X.w) X.A (eval e X.env) (EP X pins σ Q) X.xe s
structure Et(X:Cx)(e:Expr)(σ:St)(H:Hp)(Q:Bool->Hp->Prop):Prop where
 run:∀(pins:List<|Addr×Obj) (s:Shared),Inv X pins σ H s->wpAny (model X.prog X.w) X.A (isTrue e X.env<|eval e X.env) (TP X pins σ Q) X.xe s
structure Ew(X:Cx)(e:Expr)(σ:St)(H:Hp)(Q:Bool->Hp->Prop):Prop where
 run:∀(whole:Sem Value) (pins:List<|Addr×Obj) (s:Shared),Inv X pins σ H s->wpAny (model X.prog X.w) X.A (isTrue e X.env whole) (TP X pins σ Q) X.xe s
structure Ea(X:Cx)(es:List Expr)(σ:St)(H:Hp)(Q:List V->Hp->Prop):Prop where
 run:∀(pos:Pos) (pins:List<|Addr×Obj) (s:Shared),Inv X pins σ H s->wpAny (model X.prog X.w) X.A (spliced<|backTo pos<|starEach es X.env) (AP X pins σ Q) X.xe s
structure Eo(X:Cx)(e:Option Expr)(σ:St)(H:Hp)(Q:Option Int->Hp->Prop):Prop where
 run:∀(pins:List<|Addr×Obj) (s:Shared),Inv X pins σ H s->wpAny (model X.prog X.w) X.A (evalPart e X.env) (λu s'=>∃ o H',Inv X pins σ H' s'/\IsPart u o/\Q o H') X.xe s
structure Eg(X:Cx)(e:Expr)(v:V)(σ:St)(H:Hp)(Q:St->Hp->Prop):Prop where
 run:∀(pins:List<|Addr×Obj) (s:Shared) (u:Value),Inv X pins σ H s->RelV v u->wpAny (model X.prog X.w) X.A (assign e X.env u) (λ_ s'=>∃ σ' H',Inv X pins σ' H' s'/\Q σ' H') X.xe s
structure Run(X:Cx)(l:List Stmt)(D:Ends)(σ:St)(H:Hp):Prop where
 run:∀(pins:List<|Addr×Obj) (s:Shared),Inv X pins σ H s->wpAny (model X.prog X.w) X.A (execs l X.env) (SP X pins D) X.xe s
def V0(X:Cx)(e:Expr):TE:=λσ H Q=>Ev X e σ H Q
def V1(X:Cx)(e:Expr):TT:=λσ H Q=>Et X e σ H Q
def V2(X:Cx)(e:Expr):TT:=λσ H Q=>Ew X e σ H Q
def tq(X:Cx)(es:List Expr):TA:=λσ H Q=>Ea X es σ H Q
def V3(X:Cx)(e:Option Expr):TO:=λσ H Q=>Eo X e σ H Q
def V4(X:Cx)(e:Expr):TG:=λv σ H Q=>Eg X e v σ H Q
def AO(X:Cx)(l:List Stmt):TS:=λD σ H=>Run X l D σ H
section
variable{X:Cx}{e a b c o:Expr}{es:List Expr}{st:Stmt}{rest body kz:List Stmt}{σ:St}{H:Hp}{Q:VK}{T:Bool->Hp->Prop}{L:List V->Hp->Prop}{D:Ends}{pos p p2:Pos}
theorem bt:PE X e (V0 X e):=λpins s _ _ _ I h=>h.run pins s I
theorem mY:PT X e (V1 X e):=λpins s _ _ _ I h=>h.run pins s I
theorem LI:PW X e (V2 X e):=λwh pins s _ _ _ I h=>h.run wh pins s I
theorem iR:PA X es (tq X es):=λpos pins s _ _ _ I h=>h.run pos pins s I
theorem LJ{e:Option Expr}:PO X e (V3 X e):=λpins s _ _ _ I h=>h.run pins s I
theorem oN:PG X e (V4 X e):=λpins s _ _ _ u _ I r h=>h.run pins s u I r
theorem qJ{l:List Stmt}:iM X l (AO X l):=λpins s _ _ _ I h=>h.run pins s I
theorem dc{t:TE}(h1:PE X e t)(h2:t σ H Q):Ev X e σ H Q:=⟨λpins s I=>h1 pins s σ H Q I h2⟩
theorem qK{t:TT}(h1:PT X e t)(h2:t σ H T):Et X e σ H T:=⟨λpins s I=>h1 pins s σ H T I h2⟩
theorem wJ{t:TT}(h1:PW X e t)(h2:t σ H T):Ew X e σ H T:=⟨λwh pins s I=>h1 wh pins s σ H T I h2⟩
theorem LL{t:TA}(h1:PA X es t)(h2:t σ H L):Ea X es σ H L:=⟨λpos pins s I=>h1 pos pins s σ H L I h2⟩
theorem LN{e:Option Expr}{t:TO}{R:Option Int->Hp->Prop}(h1:PO X e t)(h2:t σ H R):Eo X e σ H R:=⟨λpins s I=>h1 pins s σ H R I h2⟩
theorem AQ{t:TG}{v:V}{R:St->Hp->Prop}(h1:PG X e t)(h2:t v σ H R):Eg X e v σ H R:=⟨λpins s u I r=>h1 pins s σ H v u R I r h2⟩
theorem mZ{t:TS}(h1:PS X st t)(h2:t {D with nx:=λσ' H'=>Run X rest D σ' H'} σ H):Run X (st :: rest) D σ H:=⟨λpins s I=>TH h1 qJ pins s σ H D I h2⟩
theorem aY(h:D.nx σ H):Run X [] D σ H:=⟨λpins s I=>TD pins s σ H D I h⟩
theorem Ev.mono{Q':VK}(h:Ev X e σ H Q)(f:∀ v H',Q v H'->Q' v H'):Ev X e σ H Q':=⟨λpins s I=>aQ (h.run pins s I) λ_ _ ⟨v,H',I',r,q⟩=>⟨v,H',I',r,f v H' q⟩⟩
theorem Et.mono{T':Bool->Hp->Prop}(h:Et X e σ H T)(f:∀ v H',T v H'->T' v H'):Et X e σ H T':=⟨λpins s I=>aQ (h.run pins s I) λv _ ⟨H',I',q⟩=>⟨H',I',f v H' q⟩⟩
theorem Ea.mono{L':List V->Hp->Prop}(h:Ea X es σ H L)(f:∀ v H',L v H'->L' v H'):Ea X es σ H L':=⟨λpos pins s I=>aQ (h.run pos pins s I) λ_ _ ⟨v,H',I',r,q⟩=>⟨v,H',I',r,f v H' q⟩⟩
theorem ae(i:Nat){x:Str}{v:V}(h:Q v H)(hv:σ[i]?=some (some v):=by rfl)(hN:X.N[i]?=some x:=by rfl)(hs:yR X.env.scope x:=by first | exact Or.inl rfl | exact Or.inr (Or.inl rfl) | exact Or.inr<|Or.inr rfl)(hd:(x == ("__debug__" : Str))=false:=by decide)
  (jg:(x == ("__classdict__" : Str))=false:=by decide):Ev X (.Name x p) σ H Q:=dc (Ta (i:=i) hN hs hd jg) ⟨v,hv,h⟩
theorem aC{i:Int}{j:Nat}(h:Q (.int i) H):Ev X (.Constant (.int i) j p) σ H Q:=dc (Tc) h
theorem tu{i:Bool}{j:Nat}(h:Q (.bl i) H):Ev X (.Constant (.bool i) j p) σ H Q:=dc (Td) h
theorem AT{j:Nat}(h:Q .non H):Ev X (.Constant .none j p) σ H Q:=dc (Te) h
theorem m4{i:Str}{j:Nat}(h:Q (.str i) H):Ev X (.Constant (.str i) j p) σ H Q:=dc (Tg) h
theorem wK{x:Str}(v:V){u:Value}(hm:X.mg x=none)(hv:bootBuiltins x=some u)(r:RelV v u)(h:Q v H)(hg:Gl X x:=by rfl)(hn:x ≠ "__name__":=by decide)(hd:(x == ("__debug__" : Str))=false:=by decide):Ev X (.Name x p) σ H Q:=dc (Tj hg hm hv r hn hd) h
theorem aZ{op:Operator}{r:R2}(ho:cK X (binaryOp op) r)(h:Ev X a σ H λx H1=>Ev X b σ H1 λy H2=>r x y H2 Q):Ev X (.BinOp a op b pos) σ H Q:=dc (Uk ho bt bt) h
theorem LO{op:UnaryOp}{r:V->Hp->VK->Prop}(ho:wv X (unaryOp op) r)(h:Ev X a σ H λx H1=>r x H1 Q):Ev X (.UnaryOp op a pos) σ H Q:=dc (Ul ho bt) h
theorem kA{op:CmpOp}{r:R2}(ho:cK X (compareOp op) r)(h:Ev X a σ H λx H1=>Ev X b σ H1 λy H2=>r x y H2 Q)(hm:behindInMarks op b=false:=by with_unfolding_all rfl):Ev X (.Compare a [op] [b] pos) σ H Q:=dc (Us ho bt bt hm) h
theorem LU(h:Ev X a σ H λx H1=>∃ k,x = .bl k/\if k=true then Ev X (.BoolOp .And (b :: es) pos) σ H1 Q else Q (.bl false) H1):Ev X (.BoolOp .And (a :: b :: es) pos) σ H Q:=dc (TB bt bt) h
theorem V5{op:BoolOp}(h:Ev X a σ H Q):Ev X (.BoolOp op [a] pos) σ H Q:=dc (Tz bt) h
theorem aU{r:R2}(hr:sR X r)(h:Ev X a σ H λx H1=>Ev X b σ H1 λy H2=>r x y H2 Q)(hs:K9 b:=by intro _ _;rfl):Ev X (.Subscript a b pos) σ H Q:=dc (U9 hr bt bt hs) h
theorem AU{r:V->Option Int->Option Int->Hp->VK->Prop}{lo hi:Option Expr}(hr:wD X r)(h:Ev X a σ H λx H1=>Eo X lo σ H1 λl H2=>Eo X hi σ H2 λu H3=>r x l u H3 Q):Ev X (.Subscript a (.Slice lo hi none p2) pos) σ H Q:=dc (U5 hr bt LJ LJ) h
theorem AV{R:Option Int->Hp->Prop}(h:R none H):Eo X none σ H R:=LN (U2) h
theorem AW{R:Option Int->Hp->Prop}(h:Ev X a σ H λx H1=>∃ i,x = .int i/\R (some i) H1):Eo X (some a) σ H R:=LN (U3 bt) h
theorem ay(h:L [] H):Ea X [] σ H L:=LL (UC) h
theorem ah(h:Ev X e σ H λx H1=>Ea X es σ H1 λxs H2=>L (x :: xs) H2)(hs:isStar e=false:=by rfl):Ea X (e :: es) σ H L:=LL (VY bt iR hs) h
theorem eF{k:Nat}(h:Ea X es σ H λxs H1=>xs.length<=sizeLine/\∀ p,H1 p=none->Q (.ref p) (upd H1 p<|.tup xs)):Ev X (.Tuple es k pos) σ H Q:=dc (UE iR) h
theorem cY(h:Ea X es σ H λxs H1=>xs.length<=sizeLine/\∀ p,H1 p=none->Q (.ref p) (upd H1 p<|.lst xs)):Ev X (.List es pos) σ H Q:=dc (UH iR) h
theorem V6{CX:gO}{k:Nat}{f:Addr}{fd:FuncData}{ps:List Str}{sp:Sp}{E:XK}{x:Str}(F:aI X.prog X.w X.K X.mg X.base CX k f fd ps sp)(hr:bz k X.A)(hm:X.mg x=some (.ref f))(hk:PySem.W.keepIn X.K (.ref f)=true)(hb:Binds X.K fd ps [])(hx:sN CX X E)
  (h:Ea X (e :: es) σ H λvs H1=>sp vs H1 Q E) (hg:Gl X x:=by rfl) (dU:(x == ("__debug__" : Str))=false:=by decide) (hs:noStar (e :: es)=true:=by rfl):Ev X (.Call (.Name x p) (e :: es) [] pos) σ H Q:=
 dc (VZ F hr hm hk hb hx iR hg dU hs) (show Ea X (e :: es) σ H _ from h.mono λvs H1 q=>by rw [Bi];exact q)
theorem bW{id:String}{r:List V->Hp->VK->Prop}{x:Str}(hc:fH X (.builtin id) r)(hm:X.mg x=none)(hv:bootBuiltins x=some (.builtin id))(h:Ea X (e :: es) σ H λvs H1=>r vs H1 Q)(hg:Gl X x:=by rfl)(hn:x ≠ "__name__":=by decide)(dU:(x == ("__debug__" : Str))=false:=by decide)
  (hs:noStar (e :: es)=true:=by rfl):Ev X (.Call (.Name x p) (e :: es) [] pos) σ H Q:=dc (AJ hc hm hv iR hg hn dU hs) h
theorem lG{T:String}{r:List V->Hp->VK->Prop}{x:Str}(hc:fH X (.type T) r)(hm:X.mg x=none)(hv:bootBuiltins x=some (.type T))(h:Ea X (e :: es) σ H λvs H1=>r vs H1 Q)(hg:Gl X x:=by rfl)(hn:x ≠ "__name__":=by decide)(dU:(x == ("__debug__" : Str))=false:=by decide)
  (hs:noStar (e :: es)=true:=by rfl):Ev X (.Call (.Name x p) (e :: es) [] pos) σ H Q:=dc (AK hc hm hv iR hg hn dU hs) h
theorem cb{op:CmpOp}{r:R2}(ho:cK X (compareOp op) r)(h:Ev X a σ H λx H1=>Ev X b σ H1 λy H2=>r x y H2 λz H3=>∃ k,z = .bl k/\T k H3)(hm:behindInMarks op b=false:=by with_unfolding_all rfl):Et X (.Compare a [op] [b] pos) σ H T:=qK (Uu ho bt bt hm) h
theorem ji(h:Et X a σ H λk H1=>T (!k) H1):Et X (.UnaryOp .Not a pos) σ H T:=qK (Tw mY) h
theorem jj(h:Ev X e σ H λx H1=>∃ k,x = .bl k/\T k H1)(he:∀ whole,isTrue e X.env whole=(do let v <- whole;standAt e.pos;holding [v] (truthy v)):=by intro _;rfl):Et X e σ H T:=qK (Tl bt he) h
theorem V7(h:Ev X e σ H λx H1=>∃ k,oz X.K x H1 k/\T k H1)(he:∀ whole,isTrue e X.env whole=(do let v <- whole;standAt e.pos;holding [v] (truthy v)):=by intro _;rfl):Et X e σ H T:=qK (Ux bt he) h
theorem kC(h:Ew X e σ H T):Et X e σ H T:=⟨λpins s I=>h.run _ pins s I⟩
theorem wL(h:Et X a σ H λk H1=>if k=true then Ew X (.BoolOp .And (b :: es) pos) σ H1 T else T false H1):Ew X (.BoolOp .And (a :: b :: es) pos) σ H T:=wJ (Ts mY LI) h
theorem lH(h:Et X a σ H λk H1=>if k=true then T true H1 else Ew X (.BoolOp .Or (b :: es) pos) σ H1 T):Ew X (.BoolOp .Or (a :: b :: es) pos) σ H T:=wJ (Tv mY LI) h
theorem AX(h:Et X a σ H T):Ew X (.BoolOp .And [a] pos) σ H T:=wJ (Tq mY) h
theorem qL(h:Et X a σ H T):Ew X (.BoolOp .Or [a] pos) σ H T:=wJ (Tr mY) h
theorem bf(i:Nat){x:Str}{v:V}{R:St->Hp->Prop}(hN:X.N.Nodup)(h:R (σ.set i<|some v) H)(hi:X.N[i]?=some x:=by rfl)(hx:Loc X.env.scope x:=by first | exact Or.inl rfl | exact Or.inr rfl)(hf:X.fn x=true\/X.env.scope.names.lookup x=some .local:=by first | exact .inl rfl | exact .inr rfl | assumption):Eg X (.Name x p) v σ H R:=AQ (T1 hN hi hx hf) h
theorem aW(i:Nat){x:Str}{pos':Pos}(hN:X.N.Nodup)(h:Ev X e σ H λv H1=>Run X rest D (σ.set i<|some v) H1)(hi:X.N[i]?=some x:=by rfl)(hx:Loc X.env.scope x:=by first | exact Or.inl rfl | exact Or.inr rfl)(hs:swapsWith e (some<|.Name x pos') pos.line X.env=pure false:=by rfl)
  (hf:X.fn x=true\/X.env.scope.names.lookup x=some .local:=by first | exact .inl rfl | exact .inr rfl | assumption):Run X (.Assign [.Name x pos'] e pos :: rest) D σ H:=mZ (T5 hN hi hx bt hs hf) h
theorem du(h:Et X c σ H λk H1=>if k=true then Run X body {D with nx:=λσ' H'=>Run X rest D σ' H'} σ H1 else Run X kz {D with nx:=λσ' H'=>Run X rest D σ' H'} σ H1):Run X (.If c body kz pos :: rest) D σ H:=mZ (TU mY qJ qJ) h
theorem LV(φ ψ:Prop)(hc:∀ T:Bool->Hp->Prop,(∀ k:Bool,(k=true->φ)->(k=false->ψ)->T k H)->Et X c σ H T)(ht:φ->Run X body {D with nx:=λσ' H'=>Run X rest D σ' H'} σ H)(hu:ψ->Run X kz {D with nx:=λσ' H'=>Run X rest D σ' H'} σ H):Run X (.If c body kz pos :: rest) D σ H:=
 du (hc _ λk p q=>by
  cases k with
  | true=>rw [BP rfl];exact ht<|p rfl
  | false=>rw [BL Av];exact hu<|q rfl)
theorem bO(h:Ev X e σ H D.rt):Run X (.Return (some e) pos :: rest) D σ H:=mZ (TR bt) h
theorem gC(h:Ev X e σ H λ_ H1=>Run X rest D σ H1)(hs:swapsWith e none pos.line X.env=pure false:=by rfl):Run X (.Expr e pos :: rest) D σ H:=mZ (TL bt hs) h
theorem qM{tg:Expr}(h:Ev X e σ H λv H1=>Eg X tg v σ H1 λσ' H'=>Run X rest D σ' H')(hs:swapsWithSole [tg] e pos.line X.env=pure false:=by rfl)(hw:swappedStores [tg] e X.env=pure none:=by rfl)
  (h1:(assignEach [tg] X.env).map (·.2)=[assign tg X.env]:=by rfl):Run X (.Assign [tg] e pos :: rest) D σ H:=mZ (T4 bt oN hs hw h1) h
def Loop(X:Cx)(tg:Expr)(body:List Stmt)(J:It)(D:Ends)(after:St->Hp->Prop)(σ:St)(H:Hp):Prop:=
 ∃ W:Nat->Nat->St->Hp->Prop,(∃ m,W 0 m σ H)/\∀ i m σ H,W i m σ H->(J.stop i H/\after σ H)\/(J.go i H/\∃ N:St->Hp->Prop,(∀ σ' H',N σ' H'->∃ m',m' < m/\W (i+1) m' σ' H') /\
  ∀ x H',J.sD i H x H'->Eg X tg x σ H' λσ2 H2=>Run X body {D with nx:=N,ct:=N,bk:=after} σ2 H2)
theorem wM{tg iter:Expr}{wi:TI}(hi:PI X tg iter wi)(h:wi σ H λJ H1=>Loop X tg body J D (λσ' H'=>Run X rest D σ' H') σ H1)(hp:PassesOwn (model X.prog X.w) X.A X.env X.xe:=by exact JX)(hc:X.calm=true:=by rfl)
  (hs:∀ x,foldedSetIterable iter X.env x=pure x:=by intro _;rfl):Run X (.For tg iter body [] pos :: rest) D σ H:=mZ (Ug hp hc hi oN qJ hs) h
theorem kD{tg:Expr}{q:Pos}(hm:X.mg "range" = none)(h:Ev X a σ H λx H1=>∃ j:Int,x = .int j/\-(2 ^ 62)<=j/\j < 2 ^ 62/\Loop X tg body (qE 0 j.toNat) D (λσ' H'=>Run X rest D σ' H') σ H1)(hg:Gl X "range":=by rfl)(hp:PassesOwn (model X.prog X.w) X.A X.env X.xe:=by exact JX)(hc:X.calm=true:=by rfl)(hs:isStar a=false:=by rfl) :
  Run X (.For tg (.Call (.Name "range" q) [a] [] p) body [] pos :: rest) D σ H:=
 wM (wi:=Kt<|tq X [a]) (Ku hg hm iR<|oM a [] _ hs) (show Ea X [a] σ H _ from ah (h.mono λx H1 ⟨j,e,h1,h2,h3⟩=>ay ⟨j,by rw [e],h1,h2,h3⟩) hs) hp hc (by intro _;rfl)
theorem V8{tg iter:Expr}(h:Ev X iter σ H λx H1=>∃ a,x = .ref a/\(∃ xs,aJ X.K H1 a xs)/\Loop X tg body (wt X.K a) D (λσ' H'=>Run X rest D σ' H') σ H1)(hp:PassesOwn (model X.prog X.w) X.A X.env X.xe:=by exact JX)(hc:X.calm=true:=by rfl)
  (hs:∀ x,foldedSetIterable iter X.env x=pure x:=by intro _;rfl):Run X (.For tg iter body [] pos :: rest) D σ H:=wM (Uc bt) h hp hc hs
theorem iS{tg iter:Expr}(h:Ev X iter σ H λx H1=>∃ a,x = .ref a/\(∃ xs,aq X.K H1 a xs)/\Loop X tg body (oo X.K a) D (λσ' H'=>Run X rest D σ' H') σ H1)(hp:PassesOwn (model X.prog X.w) X.A X.env X.xe:=by exact JX)(hc:X.calm=true:=by rfl)
  (hs:∀ x,foldedSetIterable iter X.env x=pure x:=by intro _;rfl):Run X (.For tg iter body [] pos :: rest) D σ H:=wM (gA bt) h hp hc hs
theorem kE{tg:Expr}{lo:Int}{n:Nat}{after:St->Hp->Prop}(Pv:Nat->St->Hp->Prop)(h0:Pv 0 σ H)
  (hs:∀ i σ H,i < n->Pv i σ H->Eg X tg (.int<|lo+i) σ H λσ2 H2=>Run X body {D with nx:=Pv<|i+1,ct:=Pv<|i+1,bk:=after} σ2 H2) (hd:∀ σ H,Pv n σ H->after σ H):Loop X tg body (qE lo n) D after σ H:=by
 refine⟨λi m σ H=>m=n - i/\i<=n/\Pv i σ H,⟨n,by simp,Bx _,h0⟩,?_⟩;rintro i m σ H ⟨rfl,hi,p⟩
 by_cases a7:i < n
 ·refine .inr ⟨a7,Pv<|i+1,λσ' H' p'=>⟨n - (i+1),by omega,rfl,a7,p'⟩,λx H' y=>?_⟩;obtain⟨e,y⟩:=y;subst e y;exact hs i σ _ a7 p
 ·have e:i=n:=by omega
  subst e;exact .inl ⟨Al _,hd σ H p⟩
theorem V9{tg:Expr}{at_:Addr}{xs:List V}{after:St->Hp->Prop}(Pv:Nat->St->Hp->Prop)(h0:Pv 0 σ H)(hl:∀ i σ H,i<=xs.length->Pv i σ H->aJ X.K H at_ xs)
  (hs:∀ i x σ H,xs[i]?=some x->Pv i σ H->Eg X tg x σ H λσ2 H2=>Run X body {D with nx:=Pv<|i+1,ct:=Pv<|i+1,bk:=after} σ2 H2) (hd:∀ σ H,Pv xs.length σ H->after σ H):Loop X tg body (wt X.K at_) D after σ H:=by
 refine⟨λi m σ H=>m=xs.length - i/\i<=xs.length/\Pv i σ H,⟨xs.length,by simp,Bx _,h0⟩,?_⟩;rintro i m σ H ⟨rfl,hi,p⟩;have q:=hl i σ H hi p
 by_cases a7:i < xs.length
 ·refine .inr ⟨⟨xs,xs[i],q,by simp [a7]⟩,Pv<|i+1,λσ' H' p'=>⟨xs.length - (i+1),by omega,rfl,a7,p'⟩,λx H' y=>?_⟩;obtain⟨e,y⟩:=y;subst e;exact hs i x σ _ (y xs q) p
 ·have e:i=xs.length:=by omega
  subst e;exact .inl ⟨⟨xs,q,Al _⟩,hd σ H p⟩
theorem iT{tg:Expr}{at_:Addr}{xs:List V}{after:St->Hp->Prop}(Pv:Nat->St->Hp->Prop)(h0:Pv 0 σ H)(hl:∀ i σ H,i<=xs.length->Pv i σ H->aq X.K H at_ xs)
  (hs:∀ i x σ H,xs[i]?=some x->Pv i σ H->Eg X tg x σ H λσ2 H2=>Run X body {D with nx:=Pv<|i+1,ct:=Pv<|i+1,bk:=after} σ2 H2) (hd:∀ σ H,Pv xs.length σ H->after σ H):Loop X tg body (oo X.K at_) D after σ H:=by
 refine⟨λi m σ H=>m=xs.length - i/\i<=xs.length/\Pv i σ H,⟨xs.length,by simp,Bx _,h0⟩,?_⟩;rintro i m σ H ⟨rfl,hi,p⟩;have q:=hl i σ H hi p
 by_cases a7:i < xs.length
 ·refine .inr ⟨⟨xs,xs[i],q,by simp [a7]⟩,Pv<|i+1,λσ' H' p'=>⟨xs.length - (i+1),by omega,rfl,a7,p'⟩,λx H' y=>?_⟩;obtain⟨e,y⟩:=y;subst e;exact hs i x σ _ (y xs q) p
 ·have e:i=xs.length:=by omega
  subst e;exact .inl ⟨⟨xs,q,Al _⟩,hd σ H p⟩
theorem bE.go{P:Program}{w:World}{K:PySem.W.Frag}{mg:Str->Option Value}{base:Heap}{x qual:Str}{st:Stmt}{f:Addr}{fd:FuncData}{N ps:List Str}{k:Nat}{sp:Sp}(F:bE K x qual st f fd)(S:ak N ps<|a8 st)(len:∀ vs H Q E,sp vs H Q E->vs.length=ps.length)
  (dB : ∀ (bQ : Value) (A : Around) (outer : List Env) (s : Shared) (H : Hp) (vs : List V) (Q : VK) (E : XK), bz k (A.deeper<|envOfC qual (a8 st) s.heap.objs.size f bQ) → sp vs H Q E →
   Run (fJ bB P w K mg base N qual (a8 st) f bQ A outer s H E).qB (jK st) {nx:=λ_ H'=>Q .non H',rt:=Q} (start N vs) H):aI P w K mg base bB (k+1) f fd ps sp:=
 F.ok S len λbQ A outer s H vs Q E hr d8=>⟨_,qJ,dB bQ A outer s H vs Q E hr d8⟩
end
structure Ei(X:Cx)(ifs:List Expr)(σ:St)(H:Hp)(Q:Bool->Hp->Prop):Prop where
 run:∀(pins:List<|Addr×Obj) (s:Shared),Inv X pins σ H s ->
  wpAny (model X.prog X.w) X.A (forIn ifs true λc r=>if r=true then do let ok <- isTrue c X.env<|eval c X.env;pure (ForInStep.yield ok) else pure (ForInStep.yield r)) (TP X pins σ Q) X.xe s
def wN(X:Cx)(N':List Str)(scope:Scope)(e:Expr)(σ:St)(H:Hp)(Q:VK):Prop:=∀ cl C s₀ H₀ ex,Ev (fz X N' scope cl C s₀ H₀ ex) e σ H Q
def wO(X:Cx)(N':List Str)(scope:Scope)(e:Expr)(v:V)(σ:St)(H:Hp)(Q:St->Hp->Prop):Prop:=∀ cl C s₀ H₀ ex,Eg (fz X N' scope cl C s₀ H₀ ex) e v σ H Q
def wQ(X:Cx)(N':List Str)(scope:Scope)(ifs:List Expr)(σ:St)(H:Hp)(Q:Bool->Hp->Prop):Prop:=∀ cl C s₀ H₀ ex,Ei (fz X N' scope cl C s₀ H₀ ex) ifs σ H Q
def oO(X:Cx)(N':List Str)(scope:Scope)(tg:Expr)(ifs:List Expr)(elt:Expr)(J:It)(D:Addr)(after:Hp->Prop)(σ:St)(H:Hp):Prop:=
 ∃ W:Nat->Nat->St->Hp->Prop,(∃ m,W 0 m σ H)/\∀ i m σ' H',W i m σ' H' ->
  (J.stop i H' ∧ after H') ∨ (J.go i H' ∧ ∃ N : St → Hp → Prop, (∀ σ' H', N σ' H' → ∃ m', m' < m ∧ W (i + 1) m' σ' H') ∧ ∀ x H2, J.sD i H' x H2 → wO X N' scope tg x σ' H2 λσ2 H3 => wQ X N' scope ifs σ2 H3 λb H4 =>
   if b=true then wN X N' scope elt σ2 H4 λv H5=>∃ ys,H5 D=some (.lst ys)/\ys.length < sizeLine/\N σ2 (upd H5 D<|.lst<|ys++[v]) else N σ2 H4)
theorem oP:∀(names:List<|Str×NameKind) (n:Nat) (acc:List<|Str×Addr),cellsFrom n names acc=cellsFrom n names []++acc
 | [],_,_=>rfl
 | (y,k) :: r,n,acc=>by
  unfold cellsFrom
  split
  ·rw [oP r (n+1)<|(y,n) :: acc,oP r (n+1) [(y,n)],Ar];rfl
  ·exact oP r n acc
theorem tD:∀(names:List<|Str×NameKind) (n:Nat) {x:Str} {c:Addr},(x,c)∈cellsFrom n names []->(x,NameKind.cell)∈names/\n<=c
 | [],_,_,_,h=>by cases h
 | (y,k) :: r,n,x,c,h=>by
  unfold cellsFrom at h
  split at h
  ·rename_i hk;rw [oP,Am] at h
   rcases h with h | h
   ·obtain⟨a,b⟩:=tD r (n+1) h;exact⟨Ai _ a,by omega⟩
   ·cases Ad.mp h;have:k = .cell:=by cases k <;> first | rfl | exact absurd hk<|by decide
    subst this;exact⟨Ae,Al _⟩
  ·obtain⟨a,b⟩:=tD r n h;exact⟨Ai _ a,b⟩
theorem LW{names:List (Str×NameKind)}{n:Nat}{cl:List (Str×Addr)}{x:Str}{c:Addr}(h:(cellsFrom n names cl).lookup x=some c):((x,c)∈cellsFrom n names []/\n<=c)\/cl.lookup x=some c:=by
 rw [oP,QC] at h;cases e:(cellsFrom n names []).lookup x with
 | some d=>
  rw [e] at h;cases h;have hm:=CZ e;exact .inl ⟨hm,(tD _ _ hm).2⟩
 | none=>
  rw [e] at h;exact .inr h
theorem V'{names:List (Str×NameKind)}{n:Nat}{cl:List (Str×Addr)}{x:Str}(h:(x,NameKind.cell)∉names):(cellsFrom n names cl).lookup x=cl.lookup x:=by
 rw [oP,QC];cases e:(cellsFrom n names []).lookup x with
 | some d=>exact absurd (tD _ _<|CZ e).1 h
 | none=>rfl
section
variable{M:Model}{A:Around}{E:Value->Shared->Prop}{s:Shared}
theorem Wa{scope:Scope}{globals:Addr}{closure:List (Str×Addr)}{qual:Str}{func:Option Addr}{code:Value}{outer:Env}{builtins:Addr}{Q:Env->Shared->Prop}
  (hQ : ∀ h', h'.Ns s.heap.objs.size (λ_ => none) → (∀ b o, s.heap.get? b = some o → h'.get? b = some o) → CellsOk h' (s.heap.objs.size + 1) (cellsFrom (s.heap.objs.size + 1) scope.names []) →
   Q (newEnv scope s.heap.objs.size globals (cellsFrom (s.heap.objs.size+1) scope.names closure) qual func code (some outer) builtins) {s with heap:=h'}) :
  wpAny M A (newFunctionEnv scope globals closure [] qual func code (some outer) builtins) Q E s:=by
 simp only [newFunctionEnv,Option.isSome_some,DP];refine BJ<|SQ ?_;refine BJ (wpAny_layCells _ (λname kind cells=>by cases Wb:kind == NameKind.cell <;> simp [Wb]) _ _ _ _ ?_);have ok:=cellsFrom_ok scope.names (s.heap.push {cls:= .type "dict",data:= .dict #[]}) (s.heap.objs.size+1) [] ⟨λ_ _ hm=>(nomatch hm),List.Pairwise.nil⟩ (by rw [Cz];exact Al _);rw [Cz] at ok;rw [show({s with heap:=s.heap.push {cls:= .type "dict",data:= .dict #[]}}:Shared).heap.objs.size=s.heap.objs.size+1 from Cz ..];rw [List.forIn_nil];exact BJ<|BK<|BK<|hQ _ ((Heap.Ns.new s.heap<|.type "dict").keeps<|pushCells_keeps _ _) (λb o e=>pushCells_keeps _ _ b o<|Ag _ e) ok
end
def oQ(sc scope:Scope)(N N':List Str):Bool:=
 (match scope.kind with | .function=>true | _=>false) &&
 scope.names.all (λy=>match y.2 with
  | .cell=>(match scope.names.lookup y.1 with | some .cell=>true | _=>false)
  | .local=>(match scope.names.lookup y.1 with | some .local=>true | _=>false)
  | .free=>(match sc.names.lookup y.1 with | some .cell=>true | some .free=>true | _=>false) && (match scope.names.lookup y.1 with | some .free=>true | _=>false)
  | _=>true) &&
 (List.range N'.length).all λi => match N'[i]? with
  | none=>true
  | some x=>match scope.names.lookup x with
   | some .local=>decide (N.length<=i)
   | some .cell=>decide (N.length<=i)
   | some .free=>decide (N[i]?=some x)
   | _=>true
structure cD(sc scope:Scope)(N N':List Str):Prop where
 kind:scope.kind = .function
 cell:∀ y∈scope.names,y.2 = .cell->scope.names.lookup y.1=some .cell
 names:∀ y∈scope.names,y.2 = .local->scope.names.lookup y.1=some .local
 free:∀ y∈scope.names,y.2 = .free->sc.names.lookup y.1=some .cell\/sc.names.lookup y.1=some .free
 LX:∀ y∈scope.names,y.2 = .free->scope.names.lookup y.1=some .free
 own:∀(i:Nat) x,N'[i]?=some x->scope.names.lookup x=some .local->N.length<=i
 AY:∀(i:Nat) x,N'[i]?=some x->scope.names.lookup x=some .cell->N.length<=i
 out:∀(i:Nat) x,N'[i]?=some x->scope.names.lookup x=some .free->N[i]?=some x
theorem cD.of{sc scope:Scope}{N N':List Str}(h:oQ sc scope N N'=true):cD sc scope N N':=by
 unfold oQ at h;rw [Bv,Bv] at h;obtain⟨⟨h1,h2⟩,h3⟩:=h;have oR:=Ee.mp h2;have AZ:=Ee.mp h3;refine⟨?_,λy hy e=>?_,λy hy e=>?_,λy hy e=>?_,λy hy e=>?_,λi x hi e=>?_,λi x hi e=>?_,λi x hi e=>?_⟩
 ·revert h1;cases scope.kind <;> intro h1 <;> first | rfl | cases h1
 ·have q:=oR y hy;rw [e] at q;simp only at q
  split at q
  ·assumption
  ·cases q
 ·have q:=oR y hy;rw [e] at q;simp only at q
  split at q
  ·assumption
  ·cases q
 ·have q:=oR y hy;rw [e] at q;simp only at q;rw [Bv] at q;have q:=q.1
  split at q
  ·exact .inl<|by assumption
  ·exact .inr<|by assumption
  ·cases q
 ·have q:=oR y hy;rw [e] at q;simp only at q;rw [Bv] at q;have q:=q.2
  split at q
  ·assumption
  ·cases q
 ·have q:=AZ i<|Br.mpr (Ac.mp hi).1;rw [hi] at q;simp only [e] at q;exact BX q
 ·have q:=AZ i<|Br.mpr (Ac.mp hi).1;rw [hi] at q;simp only [e] at q;exact BX q
 ·have q:=AZ i<|Br.mpr (Ac.mp hi).1;rw [hi] at q;simp only [e] at q;exact BX q
section
variable{X:Cx}{pins:List (Addr×Obj)}{σ:St}{H:Hp}{s:Shared}
theorem Wc{N':List Str}{scope:Scope}{n:Nat}{fp:List Addr}{h₁:Heap}{t':Nat}{m:Str->Option Value}(I:Inv X pins σ H s)(ck:cD X.env.scope scope X.N N')(hl:N'.length=X.N.length+n)
  (wF:h₁.Ns s.heap.objs.size m) (old:∀ b o,s.heap.get? b=some o->h₁.get? b=some o) (jH:CellsOk h₁ (s.heap.objs.size+1)<|cellsFrom (s.heap.objs.size+1) scope.names [])
  (m5:∀ b∈fp,ci X pins H b/\b < s.heap.objs.size) :
  Inv (fz X N' scope (cellsFrom (s.heap.objs.size+1) scope.names<|cB scope.names X.env.cells []) s.heap.objs.size s H fp) [] (σ++List.replicate n none) H {s with heap:=h₁,toks:=t'}:=by
 have sub:∀ x c,(cB scope.names X.env.cells []).lookup x=some c->X.env.cells.lookup x=some c:=λx c e=>AF _ _ _ (λ_ _ z=>by simp at z) x c<|CZ e;have both:∀ x c,(cellsFrom (s.heap.objs.size+1) scope.names<|cB scope.names X.env.cells []).lookup x=some c->((x,c)∈cellsFrom (s.heap.objs.size+1) scope.names []/\s.heap.objs.size+1<=c)\/X.env.cells.lookup x=some c:=λx c e=>by
  rcases LW e with z | z
  ·exact .inl z
  ·exact .inr<|sub x c z
 have m6:∀ x c,X.env.cells.lookup x=some c->c < s.heap.objs.size:=λx c e=>by
  obtain⟨v,o,ho,_⟩:=I.cell x c e;exact Ay ho
 have Wd:H s.heap.objs.size=none:=I.aG.fresh<|Al _;have kindOf:∀{x:Str} {k':NameKind},(relabel scope X.env).names.lookup x=some k'->∃ k,scope.names.lookup x=some k/\(k'=k\/(k = .free/\k' = .cell)):=λz=>Ly z;have LY:∀ x,scope.names.lookup x=some .free->(cellsFrom (s.heap.objs.size+1) scope.names<|cB scope.names X.env.cells []).lookup x=(cB scope.names X.env.cells []).lookup x:=λx e=>V' λhm=>by
  have:=ck.cell _ hm rfl;rw [e] at this;cases this
 have A0:∀ x,scope.names.lookup x=some .cell->∃ c,(cellsFrom (s.heap.objs.size+1) scope.names<|cB scope.names X.env.cells []).lookup x=some c:=λx e=>Em.mp<|JF _ _ _<|.inl e;have Wf:(fz X N' scope (cellsFrom (s.heap.objs.size+1) scope.names<|cB scope.names X.env.cells []) s.heap.objs.size s H fp).Ok:=by
  refine⟨I.ok.mod,ck.kind,I.ok.glob,I.ok.blt,Al _,λx y c e1 e2=>?_,λx hx=>?_,λx c hf e=>?_,I.ok.hd,I.ok.frames,.inl rfl,λb hb=>⟨Bo (m5 b hb).2,λx c e=>?_⟩,
   I.bs,Bs I.ok.mO I.sz,λb o e hb=>?_,λb hb hf=>?_,I.stack,I.hG⟩
  ·rcases both x c e1 with z1 | z1
   ·rcases both y c e2 with z2 | z2
    ·exact name_of_addr jH.apart z1.1 z2.1
    ·exact absurd (m6 y c z2)<|Nat.not_lt.mpr<|Ej z1.2
   ·rcases both y c e2 with z2 | z2
    ·exact absurd (m6 x c z1)<|Nat.not_lt.mpr<|Ej z2.2
    ·exact I.ok.inj x y c z1 z2
  ·have fP:(relabel scope X.env).names.lookup x=some .cell\/(relabel scope X.env).names.lookup x=some .free:=hx;have:∃ k,scope.names.lookup x=some k/\(k = .free\/k = .cell):=by
    rcases fP with z | z
    ·obtain⟨k,e,r⟩:=kindOf z
     rcases r with r | ⟨r,_⟩
     ·exact⟨k,e,.inr r.symm⟩
     ·exact⟨k,e,.inl r⟩
    ·obtain⟨k,e,r⟩:=kindOf z
     rcases r with r | ⟨r,_⟩
     ·exact⟨k,e,.inl r.symm⟩
     ·exact⟨k,e,.inl r⟩
   obtain⟨k,e,rfl | rfl⟩:=this
   ·have hm:=CZ e;obtain⟨c,hc⟩:=I.ok.has x<|ck.free _ hm rfl;obtain⟨d,hd⟩:=AH<|AG scope.names X.env.cells [] x c hm hc;exact⟨d,(LY x e).trans hd⟩
   ·exact A0 x e
  ·have hx:scope.names.lookup x=some .cell:=by
    have wR:(match scope.names.lookup x with | some .cell=>true | _=>false)=true:=hf
    split at wR
    ·assumption
    ·cases wR
   have e':(cellsFrom (s.heap.objs.size+1) scope.names<|cB scope.names X.env.cells []).lookup x=some c:=e;have q1:=Em.mp<|JF scope.names (s.heap.objs.size+1) []<|.inl hx;obtain⟨d,hd⟩:=q1;rw [oP,QC,hd] at e';have e2:d=c:=Option.some.inj e';have:=(tD _ _<|CZ hd).2;rw [<- e2];exact Ej this
  ·have e':(cellsFrom (s.heap.objs.size+1) scope.names<|cB scope.names X.env.cells []).lookup x=some c:=e
   rcases both x c e' with z | z
   ·have h1:=(m5 b hb).2;have h2:=z.2;exact λk=>absurd h1<|Nat.not_lt.mpr<|by rw [<- k];exact Ej h2
   ·exact(m5 b hb).1.2.2.2.2.1 x c z
  ·have:=(m5 b hb).1.2.2.2.1
   rcases this with z | z
   ·exact I.ok.jF b o e z
   ·exact absurd (Bg (Ay e)<|Bs I.ok.mO z)<|Ds _
  ·rcases Ak.mp (I.eU b hf) with z | z
   ·exact(m5 b hb).1.2.1 z
   ·exact(m5 b hb).1.2.2.1 z
 refine⟨Wf,rfl,I.bare,Un.kept old,⟨m,wF,λi x v e1 e2 e3=>?_⟩,λx c e=>?_,Wd,λx c e=>?_,λp hp=>absurd hp (by simp [fz]),I.aG.kept old,?_⟩
 ·have hi:i < σ.length:=by
   by_cases hi:i < σ.length
   ·exact hi
   ·rw [Az (by omega),Es] at e2
    split at e2 <;> cases e2
  rw [As hi] at e2;have oS:N'[i]?=some x:=e1;have Wg:∃ k',(relabel scope X.env).names.lookup x=some k'/\(k' = .local\/k' = .cell\/k' = .free):=by
   rcases e3 with z | z | z
   ·exact⟨_,z,.inl rfl⟩
   ·exact⟨_,z,.inr<|.inl rfl⟩
   ·exact⟨_,z,.inr<|.inr rfl⟩
  obtain⟨k',A1,lJ⟩:=Wg;obtain⟨k,ek,r⟩:=kindOf A1;have kf:k = .free:=by
   rcases r with r | ⟨r,_⟩
   ·subst r
    rcases lJ with z | z | z
    ·subst z;have:=ck.own i x oS ek;rw [I.len] at hi;omega
    ·subst z;have:=ck.AY i x oS ek;rw [I.len] at hi;omega
    ·exact z
   ·exact r
  subst kf;have hm:=CZ ek;have Wh:=ck.out i x oS ek;obtain⟨m0,A2,jl⟩:=I.loc;have kx:=ck.free _ hm rfl;obtain⟨u,ru,lk⟩:=jl i x v Wh e2 (by rcases kx with z | z;exact .inr<|.inl z;exact .inr<|.inr z);refine⟨u,ru,.inr ⟨?_,?_⟩⟩
  ·rcases r with r | ⟨_,r⟩
   ·subst r;exact .inr A1
   ·subst r;exact .inl A1
  ·rcases lk with ⟨k1,_⟩ | ⟨_,c,hc,ia⟩
   ·have LZ:X.env.scope.names.lookup x=some .local:=k1
    rcases kx with z | z
    ·rw [LZ] at z;cases z
    ·rw [LZ] at z;cases z
   ·have wU:=AG scope.names X.env.cells [] x c hm hc;obtain⟨d,hd⟩:=AH wU;have:d=c:=Option.some.inj<|(sub x d hd).symm.trans hc;subst this;obtain⟨o,ho,iU⟩:=ia;exact⟨d,(LY x ek).trans hd,o,old _ _ ho,iU⟩
 ·have e':(cellsFrom (s.heap.objs.size+1) scope.names<|cB scope.names X.env.cells []).lookup x=some c:=e
  rcases both x c e' with z | z
  ·exact⟨none,(jH.empty x c z.1).1⟩
  ·obtain⟨v,o,ho,iU⟩:=I.cell x c z;exact⟨v,o,old _ _ ho,iU⟩
 ·have e':(cellsFrom (s.heap.objs.size+1) scope.names<|cB scope.names X.env.cells []).lookup x=some c:=e
  rcases both x c e' with z | z
  ·exact I.aG.fresh<|Ej z.2
  ·exact I.cf x c z
 ·rw [Af,Fd,I.len];exact hl.symm
end
structure Clause(e:Expr)(d:Nat)(tg iter:Expr)(ifs:List Expr)(acc:Value)(env:Env)(inner:Sem Unit):Prop where
 at':(clausesOf e)[d]?=some ⟨tg,iter,ifs,0⟩
 quiet:∀ it,(Code.compLoop e d it acc env).quiet=true
 den:∀(prog:Program) (w:World) it,(model prog w).den (.compLoop e d it acc env)=(compTurn e d it acc env).onRaise (λx=>do noteFrame x env;theTreesLotGoes x)
 Wi:∀(A:Around) it,A.under (.compLoop e d it acc env)=A
 A3:∀(prog:Program) (w:World) it,(model prog w).den (.compStart e d it acc env)=(compStart e d it acc env).onRaise (λx=>do noteFrame x env;standAt theWindowsPlace)
 A4:∀(A:Around) it,A.under (.compStart e d it acc env)=A
 turn:∀ it,compTurn e d it acc env=(do
   standAt iter.pos
   match <- pyNext it with
   | none=>pure<|.done .next
   | some v=>
    letOwnedTupleGo tg it v
    assign tg env v
    let mut ok:=true
    for c in ifs do
     if ok then ok <- isTrue c env<|eval c env
    if ok then
     inner
    again (.compLoop e d it acc env))
section
variable{prog:Program}{w:World}{A:Around}{R:Result->Shared->Prop}{s:Shared}
theorem Wj{e:Expr}{d:Nat}{tg iter:Expr}{ifs:List Expr}{it acc:Value}{env:Env}{inner:Sem Unit}(C:Clause e d tg iter ifs acc env inner)(I:Nat->Shared->Prop)
  (turn : ∀ n s, I n s → wpAny (model prog w) A (pyNext it) (λr s₁ => match r with
   | none=>R (.ok .next) s₁
   | some v=>wpAny (model prog w) A (letOwnedTupleGo tg it v) (λ_ s₁'=>wpAny (model prog w) A (assign tg env v) (λ_ s₂=>
     wpAny (model prog w) A (forIn ifs true λc r=>if r=true then do let ok <- isTrue c env<|eval c env;pure (ForInStep.yield ok) else pure (ForInStep.yield r)) (λok s₃=>
      if ok=true then wpAny (model prog w) A inner (λ_ s₄=>∃ m,m < n/\I m s₄) (notedBy (model prog w) A env λe s'=>R (.error e) s') s₃
      else ∃ m,m < n/\I m s₃) (notedBy (model prog w) A env λe s'=>R (.error e) s') s₂) (notedBy (model prog w) A env λe s'=>R (.error e) s') s₁') (notedBy (model prog w) A env λe s'=>R (.error e) s') s₁) (notedBy (model prog w) A env λe s'=>R (.error e) s') s)
  (n:Nat) (h:I n s) :
  codeAny (model prog w) A (.compLoop e d it acc env) R s:=by
 refine codeAny_loop (C.quiet it) I (λn s hI=>?_) n h;rw [C.Wi,C.den];refine wpAny_noted ?_;rw [C.turn];refine BJ<|IK<|BJ<|CW (turn n s hI) (λr s₁ h₁=>?_) λ_ _ h'=>h';cases r with
 | none=>exact BK h₁
 | some v=>
  refine BJ<|CW h₁ (λ_ s₁' h₁'=>?_) λ_ _ h'=>h';refine BJ<|CW h₁' (λ_ s₂ h₂=>BJ<|CW h₂ (λok s₃ h₃=>?_) λ_ _ h'=>h') λ_ _ h'=>h';cases ok with
  | false=>exact BK ⟨rfl,h₃⟩
  | true=>exact BJ<|CW h₃ (λ_ s₄ h₄=>BK ⟨rfl,h₄⟩) λ_ _ h'=>h'
theorem Wk{e:Expr}{d:Nat}{tg iter:Expr}{ifs:List Expr}{it acc:Value}{env:Env}{inner:Sem Unit}(C:Clause e d tg iter ifs acc env inner)
  (h0:codeAny (model prog w) A (.compLoop e d it acc env) R s)
  (h:wpAny (model prog w) A (pyIter it) (λA5 s'=>codeAny (model prog w) A (.compLoop e d A5 acc env) R s') (notedBy (model prog w) A env λx s'=>R (.error x) s') s) :
  codeAny (model prog w) A (.compStart e d it acc env) R s:=by
 refine JZ ?_;rw [C.A4,C.A3];refine wpAny_notedAt ?_;unfold compStart;rw [C.at'];show wpAny _ _ (ask >>= _) _ _ s;refine BJ<|JQ<|wpAny_ite ?_
 split
 ·first
   | exact BJ<|BK<|BK<|And.intro (C.quiet _) h0
   | exact BK<|And.intro (C.quiet _) h0
 ·first
   | exact BJ<|HS<|BJ<|IK<|BJ<|CW h (λA5 s' h'=>BK<|And.intro (C.quiet _) h') λ_ _ x=>x
   | (refine BJ<|HS ?_;show wpAny _ _ (standAt iter.pos >>= _) _ _ s;exact BJ<|IK<|BJ<|CW h (λA5 s' h'=>BK<|And.intro (C.quiet _) h') λ_ _ x=>x)
end
structure m7(X:Cx)(m:Sem Unit)(σ:St)(H:Hp)(Q:St->Hp->Prop):Prop where
 run:∀(pins:List<|Addr×Obj) (s:Shared),Inv X pins σ H s->wpAny (model X.prog X.w) X.A m (λ_ s'=>∃ σ' H',Inv X pins σ' H' s'/\Q σ' H') X.xe s
def iV(X:Cx)(tg:Expr)(ifs:List Expr)(inner:Sem Unit)(J:It)(after:St->Hp->Prop)(σ:St)(H:Hp):Prop:=
 ∃ W:Nat->Nat->St->Hp->Prop,(∃ m,W 0 m σ H)/\∀ i m σ' H',W i m σ' H' ->
  (J.stop i H' ∧ after σ' H') ∨ (J.go i H' ∧ ∃ N : St → Hp → Prop, (∀ σ' H', N σ' H' → ∃ m', m' < m ∧ W (i + 1) m' σ' H') ∧ ∀ x H2, J.sD i H' x H2 → Eg X tg x σ' H2 λσ2 H3 => Ei X ifs σ2 H3 λb H4 =>
   if b=true then m7 X inner σ2 H4 N else N σ2 H4)
theorem A6{X:Cx}(jN:X.xe=λ_ _=>False)(hc:X.calm=true){e:Expr}{d:Nat}{tg iter:Expr}{ifs:List Expr}{acc:Value}{inner:Sem Unit}(C:Clause e d tg iter ifs acc X.env inner){pins:List (Addr×Obj)}{σ:St}{H:Hp}{s:Shared}
  {it:Addr} {fp:List Addr} {tn:Nat->Heap->Prop} {J:It} {after:St->Hp->Prop} {R:Result->Shared->Prop} (I:Inv X pins σ H s) (T:Turn X.prog X.w X.K tg J fp it tn) (st:tn 0 s.heap) (hf:∀ b∈fp,ci X pins H b) (h:iV X tg ifs inner J after σ H)
  (hR:∀ σ' H' s',Inv X pins σ' H' s'->after σ' H'->R (.ok .next) s') :
  codeAny (model X.prog X.w) X.A (.compStart e d (.ref it) acc X.env) R s:=by
 obtain⟨W,⟨m0,w0⟩,turn⟩:=h;have stat:∀{H':Hp},(∀ b∈fp,H' b=none)->∀ b∈fp,ci X pins H' b:=λhn b hb=>⟨hn b hb,(hf b hb).2⟩;have loop:codeAny (model X.prog X.w) X.A (.compLoop e d (.ref it) acc X.env) R s:=by
  refine Wj C (λk s'=>∃ i σ' H',Inv X pins σ' H' s'/\tn i s'.heap/\(∀ b∈fp,H' b=none)/\W i k σ' H') ?_ m0 ⟨0,σ,H,I,st,λb hb=>(hf b hb).1,w0⟩;rintro k s4 ⟨i,σ4,H4,J4,L0,L3,w4⟩
  rcases turn i k σ4 H4 w4 with ⟨stop,qn⟩ | ⟨go,N,hN,step⟩
  ·have d1:=T.done X rfl rfl rfl hc i pins s4 σ4 H4 (λ_ _=>False) J4 (stat L3) L0 stop;refine iQ d1 λr s5 ⟨hr,I5⟩=>?_;subst hr;exact hR _ _ _ I5 qn
  ·have d1:=T.item X rfl rfl rfl hc i pins s4 σ4 H4 (λ_ _=>False) J4 (stat L3) L0 go;refine iQ d1 λr s5 ⟨u,hr,h5⟩=>?_;subst hr;refine iQ h5 λ_ s6 ⟨x,H6,I6,r6,y6,A7,Wl⟩=>?_;have Wm:=I6.pinned (stat Wl)<|T.obj _ _ A7;have again:∀{σ7:St} {H7:Hp} {s7:Shared},Inv X (pins++sE fp s6.heap) σ7 H7 s7->N σ7 H7->∃ m,m < k/\∃ i σ' H',Inv X pins σ' H' s7/\tn i s7.heap/\(∀ b∈fp,H' b=none)/\W i m σ' H':=λ{σ7 H7 s7} I7 n7=>by
    obtain⟨m',hm,w7⟩:=hN σ7 H7 n7;refine⟨m',hm,i+1,σ7,H7,I7.cJ,T.keep _ _ _ A7 λb hb o e=>(I7.pin (b,o)<|Ax _<|Ax _<|wu hb e).1,λb hb=>?_,w7⟩;obtain⟨o,e,d⟩:=T.obj _ _ A7 b hb;exact(I7.pin (b,o)<|Ax _<|Ax _<|wu hb e).2.1
   have a1:=(step x H6 y6).run _ s6 u Wm r6;rw [jN] at a1;refine iQ a1 λ_ s7 ⟨σ7,H7,I7,q7⟩=>?_;have a2:=q7.run _ s7 I7;rw [jN] at a2;refine iQ a2 λok s8 ⟨H8,I8,q8⟩=>?_;cases ok with
   | false=>
    rw [BL Av] at q8 ⊢;exact again I8 q8
   | true=>
    rw [BP rfl] at q8 ⊢;have a3:=q8.run _ s8 I8;rw [jN] at a3;exact iQ a3 λ_ s9 ⟨σ9,H9,I9,q9⟩=>again I9 q9
 exact Wk C loop<|T.self _ 0 _ _ _ st loop
theorem L4{X:Cx}{e:Expr}{tg iter:Expr}{ifs:List Expr}{scope:Scope}{N':List Str}{newAcc:Sem Value}{o0:Obj}{u0:Addr->HO}{n:Nat}{inner:Value->Env->Sem Unit}{pins:List (Addr×Obj)}{σ:St}{H2:Hp}{s2:Shared}{E:Value->Shared->Prop}{RR:Value->Addr->Result->Shared->Prop}{it:Addr}{fp:List Addr}{tn:Nat->Heap->Prop}{J:It}{Q:VK}
  (dW:∀(Q:Value->Shared->Prop) (E:Value->Shared->Prop) (s:Shared),Q (.ref s.heap.objs.size) {s with heap:=s.heap.push o0}->wpAny (model X.prog X.w) X.A newAcc Q E s) (gP:∀(H:Hp) (h:Heap),sysModules < h.objs.size->aD X.prog X.w H (h.push o0) h.objs.size (u0 h.objs.size))
  (hc:X.calm=true) (ck:cD X.env.scope scope X.N N') (hl:N'.length=X.N.length+n) (hC:∀ acc env,Clause e 0 tg iter ifs acc env<|inner acc env)
  (I2:Inv X pins σ H2 s2) (T:Turn X.prog X.w X.K tg J fp it tn) (ib:tn 0 s2.heap) (f2:∀ b∈fp,ci X pins H2 b)
  (q:∀ D,H2 D=none->∀ cl C s₀ H₀ ex,iV (fz X N' scope cl C s₀ H₀ ex) tg ifs (inner (.ref D)<|compEnvC scope cl C X.env) J (λ_ H'=>Q (.ref D) H') (σ++List.replicate n none)<|upd H2 D<|u0 D)
  (A8:∀ D C H' s' m,Inv X pins σ H' s'->s'.heap.Ns C m->H' C=none->C≠X.env.locals->X.s₀.heap.objs.size<=C->(∀ x c,X.env.cells.lookup x=some c->c≠C)->(∀ p∈X.pn++pins,p.1≠C)->Q (.ref D) H'->RR (.ref D) C (.ok .next) s') :
  wpAny (model X.prog X.w) X.A newAcc (λacc s₃=>wpAny (model X.prog X.w) X.A (newFunctionEnv scope X.env.globals (cB scope.names X.env.cells []) [] X.env.qual none .none<|some X.env) (λjO s₄=>
   codeAny (model X.prog X.w) X.A (.compStart e 0 (.ref it) acc {jO with scope:=relabel scope X.env}) (RR acc jO.locals) s₄) E s₃) E s2:=by
 refine dW _ _ _<|Wa λh₁ hns₁ old₁ hcs₁=>?_;have hD:H2 s2.heap.objs.size=none:=I2.aG.fresh<|Al _;have q0:=q s2.heap.objs.size hD;have fl:∀ b∈fp,b < s2.heap.objs.size:=λb hb=>by
  obtain⟨o,e,_⟩:=T.obj 0 _ ib b hb;exact Ay e
 have I3:Inv X pins σ (upd H2 s2.heap.objs.size<|u0 s2.heap.objs.size) {s2 with heap:=s2.heap.push o0}:=
  I2.laid (t':=s2.toks) (λb o e=>Ag _ e) (Al _) (gP _ _ I2.big)
 generalize qN:({s2 with heap:=s2.heap.push o0}:Shared)=s3 at I3 hns₁ old₁ hcs₁ ⊢;have Wn:s3.heap.objs.size=s2.heap.objs.size+1:=by rw [<- qN];exact Cz ..
 have A9:∀ b o,s2.heap.get? b=some o->s3.heap.get? b=some o:=λb o e=>by rw [<- qN];exact Ag _ e
 have old:∀ b o,s3.heap.get? b=some o->h₁.get? b=some o:=old₁;have f3:∀ b∈fp,ci X pins (upd H2 s2.heap.objs.size<|u0 s2.heap.objs.size) b/\b < s3.heap.objs.size:=λb hb=>by
  refine⟨⟨?_,(f2 b hb).2⟩,by rw [Wn];exact By<|fl b hb⟩;rw [av<|Bo<|fl b hb];exact(f2 b hb).1
 have I4:=λ(t':Nat)=>Wc (N':=N') (scope:=scope) (n:=n) (fp:=fp) (h₁:=h₁) (t':=t') I3 ck hl hns₁ old hcs₁ f3;generalize hX:fz X N' scope (cellsFrom (s3.heap.objs.size+1) scope.names<|cB scope.names X.env.cells []) s3.heap.objs.size s3 (upd H2 s2.heap.objs.size<|u0 s2.heap.objs.size) fp=X' at I4;have eP:X'.prog=X.prog:=by rw [<- hX];rfl
 have ew:X'.w=X.w:=by rw [<- hX];rfl
 have eK:X'.K=X.K:=by rw [<- hX];rfl
 have eA:X'.A=X.A:=by rw [<- hX];rfl
 have eE:X'.env=compEnvC scope (cellsFrom (s3.heap.objs.size+1) scope.names<|cB scope.names X.env.cells []) s3.heap.objs.size X.env:=by rw [<- hX];rfl
 have ec:X'.calm=true:=by rw [<- hX];exact hc
 have Ki:X'.xe=λ_ _=>False:=by rw [<- hX];rfl
 have stat:∀{H':Hp},(∀ b∈fp,H' b=none)->∀ b∈fp,ci X' [] H' b:=λhn b hb=>by
  refine⟨hn b hb,?_,?_,?_,?_,?_⟩
  ·rw [eE];exact Bo (f3 b hb).2
  ·rw [<- hX];intro hf
   rcases Ak.mp (I3.eU b hf) with z | z
   ·exact(f3 b hb).1.2.1 z
   ·exact(f3 b hb).1.2.2.1 z
  ·rw [<- hX];exact .inl hb
  ·rw [eE];intro x c e
   rcases LW e with z | z
   ·exact λk=>absurd (f3 b hb).2<|Nat.not_lt.mpr<|by rw [<- k];exact Ej z.2
   ·exact(f3 b hb).1.2.2.2.2.1 x c<|AF _ _ _ (λ_ _ z=>by simp at z) x c<|CZ z
  ·rw [<- hX];intro p hp;exact absurd hp<|by simp [fz]
 have fin:∀{σ':St} {H':Hp} {s':Shared},Inv X' [] σ' H' s'->Q (.ref s2.heap.objs.size) H'->RR (.ref s2.heap.objs.size) s3.heap.objs.size (.ok .next) s':=λ{σ' H' s'} I' q'=>by
  obtain⟨m',wm,_⟩:=id I'.loc;rw [eE] at wm;have oE:s'.os=s3.os:=by have:=I'.os;rw [<- hX] at this;exact this
  have Wo:Un (jf X.stack) fp (upd H2 s2.heap.objs.size<|u0 s2.heap.objs.size) H' s3.heap s'.heap:=by have:=I'.base;rw [<- hX] at this;exact this
  have aG:cv X.prog X.w H' s'.heap:=by have:=I'.aG;rw [eP,ew] at this;exact this
  have IX:Inv X pins σ H' s':=I3.call' (ch:=fp) oE Wo aG I'.bare λb hb=>⟨(f3 b hb).1.2.2.2.1,(f3 b hb).1.2.1,(f3 b hb).1.2.2.2.2.1,(f3 b hb).1.2.2.2.2.2⟩;have qO:=I'.free;rw [eE] at qO;refine A8 _ _ H' s' m' IX wm qO (Cy I3.lt) I3.sz (λx c e z=>?_) (λp hp z=>?_) q'
  ·obtain⟨v,o,ho,_⟩:=I3.cell x c e;exact absurd (Ay ho)<|by rw [z];exact Ds _
  ·exact absurd (Ay (I3.pin p hp).1)<|by rw [z];exact Ds _
 have Wp:∀ b∈fp,ci X' [] (upd H2 s2.heap.objs.size<|u0 s2.heap.objs.size) b:=stat λb hb=>(f3 b hb).1.1;have q1:iV X' tg ifs (inner (.ref s2.heap.objs.size) X'.env) J (λ_ H'=>Q (.ref s2.heap.objs.size) H') (σ++List.replicate n none) (upd H2 s2.heap.objs.size<|u0 s2.heap.objs.size):=by
  rw [eE,<- hX];exact q0 _ _ _ _ _
 have T':Turn X'.prog X'.w X'.K tg J fp it tn:=by rw [eP,ew,eK];exact T
 have fin2:=A6 (s:={s3 with heap:=h₁,toks:=s3.toks}) Ki ec (hC (.ref s2.heap.objs.size) X'.env) (I4 s3.toks) T' (T.keep 0 _ _ ib λb _ o e=>old b o<|A9 b o e) Wp q1 (R:=RR (.ref s2.heap.objs.size) s3.heap.objs.size) λσ' H' s' I' a'=>fin I' a';rw [eP,ew,eA,eE] at fin2;exact fin2
def emit(elt:Expr)(acc:Value)(env:Env):Sem Unit:=do let _ <- call (.builtin "list.append") [acc,<- eval elt env]
section
variable{X:Cx}{elt tg iter:Expr}{ifs:List Expr}{scope:Scope}{pos:Pos}{σ:St}{H:Hp}{acc:Value}{env:Env}{N':List Str}{J:It}
theorem Wq:Clause (.ListComp elt [⟨tg,iter,ifs,0⟩] scope pos) 0 tg iter ifs acc env (emit elt acc env):=⟨rfl,λ_=>rfl,λ_ _ _=>rfl,λ_ _=>rfl,λ_ _ _=>rfl,λ_ _=>rfl,λ_=>rfl⟩
theorem L5{D:Addr}{Q:St->Hp->Prop} (h:Ev X elt σ H λv H1=>∃ ys,H1 D=some (.lst ys)/\ys.length < sizeLine/\Q σ (upd H1 D<|.lst<|ys++[v])):m7 X (emit elt (.ref D) X.env) σ H Q:=by
 refine⟨λpins s I=>?_⟩;unfold emit;refine BJ<|aQ (h.run pins s I) λv s1 ⟨x,H1,I1,r1,ys,hy,hz,q⟩=>?_;refine BJ<|aQ (Lg (X:=X) _ s1 σ H1 (.ref D) [x] (.ref D) [v] (λ_ H'=>Q σ H') I1 rfl (.cons r1 .nil) ⟨_,ys,x,rfl,rfl,hy,hz,q⟩) λ_ s2 ⟨_,H2,I2,_,q2⟩=>BK ⟨σ,H2,I2,q2⟩
theorem Eg.mono{v:V}{R R':St->Hp->Prop}(h:Eg X elt v σ H R)(f:∀ σ' H',R σ' H'->R' σ' H'):Eg X elt v σ H R':=⟨λpins s u I r=>aQ (h.run pins s u I r) λ_ _ ⟨σ',H',I',q⟩=>⟨σ',H',I',f _ _ q⟩⟩
theorem Ei.mono{T T':Bool->Hp->Prop}(h:Ei X ifs σ H T)(f:∀ b H',T b H'->T' b H'):Ei X ifs σ H T':=⟨λpins s I=>aQ (h.run pins s I) λ_ _ ⟨H',I',q⟩=>⟨H',I',f _ _ q⟩⟩
theorem Wr{D:Addr}{after:Hp->Prop}(h:oO X N' scope tg ifs elt J D after σ H)(cl:List<|Str×Addr)(C:Addr)(s₀:Shared)(H₀:Hp)(ex:List Addr):iV (fz X N' scope cl C s₀ H₀ ex) tg ifs (emit elt (.ref D)<|compEnvC scope cl C X.env) J (λ_ H'=>after H') σ H:=by
 obtain⟨W,w0,t⟩:=h;refine⟨W,w0,λi m σ' H' w=>(t i m σ' H' w).imp id λ⟨g,N,hN,st⟩=>⟨g,N,hN,λx H2 y=>(st x H2 y cl C s₀ H₀ ex).mono λσ2 H3 h3=>(h3 cl C s₀ H₀ ex).mono λb H4 h4=>?_⟩⟩;cases b with
 | true=>
  rw [BP rfl] at h4 ⊢;exact L5 (X:=fz X N' scope cl C s₀ H₀ ex)<|h4 cl C s₀ H₀ ex
 | false=>
  rw [BL Av] at h4 ⊢;exact h4
theorem Ws{n:Nat}{pins:List (Addr×Obj)}{H2:Hp}{s2:Shared}{E:Value->Shared->Prop}{RR:Value->Addr->Result->Shared->Prop}{it:Addr}{fp:List Addr}{tn:Nat->Heap->Prop}{Q:VK}
  (hc:X.calm=true) (ck:cD X.env.scope scope X.N N') (hl:N'.length=X.N.length+n) (I2:Inv X pins σ H2 s2) (T:Turn X.prog X.w X.K tg J fp it tn) (ib:tn 0 s2.heap) (f2:∀ b∈fp,ci X pins H2 b)
  (q:∀ D,H2 D=none->oO X N' scope tg ifs elt J D (λH'=>Q (.ref D) H') (σ++List.replicate n none) (upd H2 D<|.lst []))
  (A8:∀ D C H' s' m,Inv X pins σ H' s'->s'.heap.Ns C m->H' C=none->C≠X.env.locals->X.s₀.heap.objs.size<=C->(∀ x c,X.env.cells.lookup x=some c->c≠C)->(∀ p∈X.pn++pins,p.1≠C)->Q (.ref D) H'->RR (.ref D) C (.ok .next) s') :
  wpAny (model X.prog X.w) X.A (newList []) (λacc s₃=>wpAny (model X.prog X.w) X.A (newFunctionEnv scope X.env.globals (cB scope.names X.env.cells []) [] X.env.qual none .none<|some X.env) (λjO s₄=>
   codeAny (model X.prog X.w) X.A (.compStart (.ListComp elt [⟨tg,iter,ifs,0⟩] scope pos) 0 (.ref it) acc {jO with scope:=relabel scope X.env}) (RR acc jO.locals) s₄) E s₃) E s2:=
 L4 (newAcc:=newList []) (o0:={cls:= .type "list",dict:=none,data:= .seq ([]:List Value).toArray}) (u0:=λ_=> .lst []) (λ_ _ _ h=>CQ h<|by show(0:Nat)<=sizeLine;exact Bx _) (λ_ _ _=>⟨Bx _,[],0,.nil,At _ rfl⟩) hc ck hl (λ_ _=>Wq) I2 T ib f2 (λD hD=>Wr<|q D hD) A8
end
section
variable{X:Cx}{elt tg iter c:Expr}{ifs:List Expr}{scope:Scope}{pos p:Pos}{wi:TI}{σ:St}{H:Hp}{Q:VK}{T:Bool->Hp->Prop}{rest:List Stmt}{D:Ends}
theorem jm(h:T true H):Ei X [] σ H T:=⟨λpins s I=>VV pins s σ H T I h⟩
theorem lK(h:Et X c σ H T):Ei X [c] σ H T:=⟨λpins s I=>VW mY pins s σ H T I h⟩
theorem gR(sc:Scope)(N N':List Str)(n:Nat)(hi:PI X tg iter wi)
  (h:wi σ H λJ H1=>∀ D,H1 D=none->oO X N' scope tg ifs elt J D (λH'=>Q (.ref D) H') (σ++List.replicate n none) (upd H1 D<|.lst []))
  (hc:X.calm=true:=by rfl) (lP:X.env.scope=sc:=by rfl) (hN:X.N=N:=by rfl) (hk:oQ sc scope N N'=true:=by decide +kernel) (hl:N'.length=N.length+n:=by rfl)
  (hs:∀ x,foldedSetIterable iter X.env x=pure x:=by intro _;rfl):Ev X (.ListComp elt [⟨tg,iter,ifs,0⟩] scope pos) σ H Q:=by
 refine⟨λpins s I=>?_⟩;subst lP hN;have ck:=cD.of hk;rw [eval_ListComp];refine wpAny_comprehension_free (use:=none) rfl hs (Lz λx hx hf=>I.ok.has x.1<|ck.free x hx hf) ck.kind ck.names (aQ (hi pins s σ H _ I h) λv s1 h1=>aQ h1 λqD s2 h2=>?_);obtain⟨it,fp,tn,J,H2,e,I2,T,ib,f2,q⟩:=h2;subst e;refine Ws (RR:=λacc C=>compPost (model X.prog X.w) X.A X.xe none (EP X pins σ Q) acc C) hc ck hl I2 T ib f2 q ?_;intro D C H' s' m IX hn hC c1 c2 c3 c4 qq;exact⟨m,hn,λh' iW=>⟨.ref D,H',IX.turned (t':=s'.toks) (λb o hb e=>iW.extBut b o hb e) hC (CG<|CG c1) (.inr c2) c3 c4,rfl,qq⟩⟩
end
structure aO(P:Program)(w:World)(K:PySem.W.Frag)(mg:Str->Option Value)(base:Heap)(k:Nat)(x:Str)(ps:List Str)(sp:Sp):Prop where
 ex:∃ f fd,aI P w K mg base bB k f fd ps sp/\Binds K fd ps []/\PySem.W.keepIn K (.ref f)=true/\mg x=some (.ref f)
theorem aO.mono{P:Program}{w:World}{K:PySem.W.Frag}{mg:Str->Option Value}{base:Heap}{j k:Nat}{x:Str}{ps:List Str}{sp:Sp}(h:aO P w K mg base j x ps sp)(le:j<=k):aO P w K mg base k x ps sp:=
 let ⟨f,fd,F,r⟩:=h.ex;⟨f,fd,F.mono le,r⟩
theorem bn{X:Cx}{k:Nat}{ps:List Str}{sp:Sp}{x:Str}{e:Expr}{es:List Expr}{σ:St}{H:Hp}{Q:VK}{p pos:Pos}(G:aO X.prog X.w X.K X.mg X.base k x ps sp)(hr:bz k X.A)
  (h:Ea X (e :: es) σ H λvs H1=>sp vs H1 Q E0) (hg:Gl X x:=by rfl) (dU:(x == ("__debug__" : Str))=false:=by decide) (hs:noStar (e :: es)=true:=by rfl):Ev X (.Call (.Name x p) (e :: es) [] pos) σ H Q:=
 let ⟨_,_,F,b,kp,m⟩:=G.ex;V6 F hr m kp b jL h hg dU hs
theorem _root_.L2.bz.fQ{k:Nat}{A:Around}(hr:bz k A):A.units+100 < cLine:=by have:=hr.un;omega
theorem _root_.L2.bz.u1{k:Nat}{A:Around}(hr:bz k A):A.units+1 < cLine:=by have:=hr.un;omega
def Df(K:PySem.W.Frag)(x:Str)(st:Stmt):Prop:=∃(f:Addr) (fd:FuncData),PySem.W.nsIn K mainGlobals x=some (some<|.ref f)/\bE K x x st f fd
theorem aH{K:PySem.W.Frag}{x:Str}{st:Stmt}{f:Addr}{oc kV doc pm bQ ct:Value}{od an:Option Addr}{sl:Array (Option Value)}(a:PySem.W.nsIn K mainGlobals x=some (some<|.ref f))
  (l:K.lookup f=some ⟨oc,od,.func<|PySem.W.fnOf x x (oG st) (jK st) (a8 st) .none kV doc pm an bQ ct,sl⟩) (c:PySem.W.codeIn K bQ x=true) (k:PySem.W.keepIn K (.ref f)=true):Df K x st:=⟨f,_,a,Vu l c k⟩
structure L9 where
 f:Addr
 bQ:Value
 A:Around
 outer:List Env
 s:Shared
 H:Hp
 E:XK
def Wt(N:List Str)(qual:Str)(scope:Scope)(P:Program)(w:World)(K:PySem.W.Frag)(mg:Str->Option Value)(base:Heap)(b:L9):Cx:=(fJ bB P w K mg base N qual scope b.f b.bQ b.A b.outer b.s b.H b.E).qB
def En(Q:VK):Ends:={nx:=λ_ H'=>Q .non H',rt:=Q}
theorem bE.gb{P:Program}{w:World}{K:PySem.W.Frag}{mg:Str->Option Value}{base:Heap}{x qual:Str}{st:Stmt}{f:Addr}{fd:FuncData}{N ps:List Str}{k:Nat}{sp:Sp}(F:bE K x qual st f fd)(S:ak N ps<|a8 st)(len:∀ vs H Q E,sp vs H Q E->vs.length=ps.length)
  (dB:∀(b:L9) (H:Hp) (vs:List V) (Q:VK) (E:XK),bz k (b.A.deeper<|envOfC qual (a8 st) b.s.heap.objs.size b.f b.bQ)->sp vs H Q E->Run (Wt N qual (a8 st) P w K mg base b) (jK st) (En Q) (start N vs) H):aI P w K mg base bB (k+1) f fd ps sp:=
 F.go S len λbQ A outer s H vs Q E hr d8=>dB ⟨f,bQ,A,outer,s,H,E⟩ H vs Q E hr d8
theorem kF{us:List Value}{k:Nat}(h:us.length=k+1):∃ a r,us=a :: r/\r.length=k:=by
 cases us with
 | nil=>cases h
 | cons a r=>exact⟨a,r,rfl,Nat.succ.inj h⟩
theorem jn{fd:FuncData}{ps:List Str}(f:∀ a:Value,bindArgs fd ⟨[a],[]⟩=pure (ps.zip [a])):∀ us:List Value,us.length=1->bindArgs fd ⟨us,[]⟩=pure (ps.zip us):=λus h=>by
 obtain⟨a,r0,e0,h0⟩:=kF h;have z:=Bk.mp h0;subst z e0;exact f a
theorem fT{fd:FuncData}{ps:List Str}(f:∀ a b:Value,bindArgs fd ⟨[a,b],[]⟩=pure (ps.zip [a,b])):∀ us:List Value,us.length=2->bindArgs fd ⟨us,[]⟩=pure (ps.zip us):=λus h=>by
 obtain⟨a,r0,e0,h0⟩:=kF h;obtain⟨b,r1,e1,h1⟩:=kF h0;have z:=Bk.mp h1;subst z e1 e0;exact f a b
theorem qP{fd:FuncData}{ps:List Str}(f:∀ a b c:Value,bindArgs fd ⟨[a,b,c],[]⟩=pure (ps.zip [a,b,c])):∀ us:List Value,us.length=3->bindArgs fd ⟨us,[]⟩=pure (ps.zip us):=λus h=>by
 obtain⟨a,r0,e0,h0⟩:=kF h;obtain⟨b,r1,e1,h1⟩:=kF h0;obtain⟨c,r2,e2,h2⟩:=kF h1;have z:=Bk.mp h2;subst z e2 e1 e0;exact f a b c
theorem Ma{fd:FuncData}{ps:List Str}(f:∀ a b c d:Value,bindArgs fd ⟨[a,b,c,d],[]⟩=pure (ps.zip [a,b,c,d])):∀ us:List Value,us.length=4->bindArgs fd ⟨us,[]⟩=pure (ps.zip us):=λus h=>by
 obtain⟨a,r0,e0,h0⟩:=kF h;obtain⟨b,r1,e1,h1⟩:=kF h0;obtain⟨c,r2,e2,h2⟩:=kF h1;obtain⟨d,r3,e3,h3⟩:=kF h2;have z:=Bk.mp h3;subst z e3 e2 e1 e0;exact f a b c d
theorem Df.has{P:Program}{w:World}{K:PySem.W.Frag}{mg:Str->Option Value}{h base:Heap}{k:Nat}{x:Str}{st:Stmt}{ps:List Str}{sp:Sp}(d:Df K x st)(X:K.In h)(G:h.Ns mainGlobals mg)
  (hb:∀(kV doc pm:Value) (an:Option Addr) (bQ ct:Value) (us:List Value),us.length=ps.length->bindArgs (PySem.W.fnOf x x (oG st) (jK st) (a8 st) .none kV doc pm an bQ ct) ⟨us,[]⟩=pure (ps.zip us))
  (ok:∀{f:Addr} {fd:FuncData},bE K x x st f fd->aI P w K mg base bB k f fd ps sp):aO P w K mg base k x ps sp:=
 let ⟨f,fd,a,F⟩:=d;⟨f,fd,ok F,F.binds hb,F.kp,PySem.W.mg_of X G a⟩
theorem Df.law{P:Program}{w:World}{K:PySem.W.Frag}{mg:Str->Option Value}{h:Heap}{k:Nat}{x y:Str}{st:Stmt}{sp:Sp}{fa:Addr}(d:Df K x st)(X:K.In h)(G:h.Ns mainGlobals mg)(BA:mg x=some (.ref fa))
  (hb:∀(kV doc pm:Value) (an:Option Addr) (bQ ct:Value) (s:Shared) (v:Value),BindsTo s (PySem.W.fnOf x x (oG st) (jK st) (a8 st) .none kV doc pm an bQ ct) ⟨[v],[]⟩ [(y,v)])
  (ok:∀(base:Heap) {f:Addr} {fd:FuncData},bE K x x st f fd->aI P w K mg base bB k f fd [y] sp) :
  ∃ fd:FuncData,(∀(s:Shared) (v:Value),BindsTo s fd ⟨[v],[]⟩ [(y,v)])/\∀ base:Heap,K.In base->base.Ns mainGlobals mg->aI P w K mg base bB k fa fd [y] sp:=by
 obtain⟨f,fd,a,F⟩:=d;have e:=BA.symm.trans<|PySem.W.mg_of X G a;cases e;obtain⟨oc,od,kV,doc,pm,an,bQ,ct,lj,rfl,lk,jg⟩:=id F.ex;exact⟨_,hb kV doc pm an bQ ct,λbase _ _=>ok base F⟩
end L2
namespace bM
open PySem
def qQ(m i:Nat):Nat:=(i * 5+1) % m
def fU(m:Nat):Nat->Nat->List Nat
 | 0,_=>[]
 | n+1,i=>i :: fU m n (qQ m i)
def lQ(m:Nat):Nat->Nat->Nat
 | 0,i=>i
 | n+1,i=>lQ m n<|qQ m i
theorem wV(m:Nat):∀ a b i,lQ m (a+b) i=lQ m b (lQ m a i)
 | 0,b,i=>by rw [Ex];rfl
 | a+1,b,i=>by
  rw [show a+1+b=(a+b)+1 by omega];exact wV m a b<|qQ m i
theorem BD(m:Nat):∀ n t i,t < n->lQ m t i∈fU m n i
 | 0,_,_,h=>by omega
 | n+1,0,i,_=>Ae
 | n+1,t+1,i,h=>Ai _<|BD m n t (qQ m i)<|by omega
theorem BE(m:Nat):∀ n i j,j∈fU m n i->∃ t,t < n/\lQ m t i=j
 | 0,_,_,h=>by cases h
 | n+1,i,j,h=>by
  rcases Ak.mp h with rfl | h
  ·exact⟨0,Fy _,rfl⟩
  ·obtain⟨t,ht,e⟩:=BE m n (qQ m i) j h;exact⟨t+1,Nat.succ_lt_succ ht,e⟩
def covers(m:Nat):Bool:=lQ m m 0 == 0 && (List.range m).all λj=>(fU m m 0).contains j
theorem Wu:covers 8=true:=by decide +kernel
theorem Wv:covers 16=true:=by decide +kernel
theorem Ww:covers 32=true:=by decide +kernel
theorem Wx:covers 64=true:=by decide +kernel
theorem Wy:covers 128=true:=by decide +kernel
theorem Wz:covers 512=true:=by decide +kernel
def Pow(m:Nat):Prop:=m=8\/m=16\/m=32\/m=64\/m=128\/m=512
theorem Pow.covers{m:Nat}(h:Pow m):bM.covers m=true:=by
 rcases h with rfl | rfl | rfl | rfl | rfl | rfl
 ·exact Wu
 ·exact Wv
 ·exact Ww
 ·exact Wx
 ·exact Wy
 ·exact Wz
theorem Pow.pos{m:Nat}(h:Pow m):8<=m/\m<=512:=by rcases h with rfl | rfl | rfl | rfl | rfl | rfl <;> decide
theorem Pow.mem{m i j:Nat}(h:Pow m)(hi:i < m)(hj:j < m):j∈fU m m i:=by
 have q:=h.covers;unfold bM.covers at q;rw [Bv,Ee,KJ] at q;obtain⟨z,q⟩:=q;obtain⟨a,ha,ea⟩:=BE m m 0 i<|Ck.mp<|q i<|Br.mpr hi;obtain⟨b,hb,eb⟩:=BE m m 0 j<|Ck.mp<|q j<|Br.mpr hj
 rcases Dg b a with c | c
 ·have e:lQ m (b+m - a) i=j:=by
   rw [<- ea,<- wV,show a+(b+m - a)=m+b by omega,wV,z,eb]
  rw [<- e];exact BD m m _ i<|by omega
 ·have e:lQ m (b - a) i=j:=by
   rw [<- ea,<- wV,show a+(b - a)=b by omega,eb]
  rw [<- e];exact BD m m _ i<|by omega
def qR(mask:Nat):Nat->Nat->Nat->List Nat
 | 0,_,_=>[]
 | n+1,i,p=>i :: qR mask n (SetTable.leap mask i p).1 (SetTable.leap mask i p).2
theorem Mb(mask:Nat):∀ n i,qR mask n i 0=fU (mask+1) n i
 | 0,_=>rfl
 | n+1,i=>by
  show i :: qR mask n ((i * 5+1+0 / 32) % (mask+1)) (0 / 32)=i :: fU (mask+1) n (qQ (mask+1) i);rw [show(0 / 32:Nat)=0 by decide,VD,Mb mask n];rfl
theorem WB{mask i p:Nat}:(SetTable.leap mask i p).1 < mask+1:=Gp _<|Fy _
theorem Md{mask:Nat}:∀(t n i p:Nat),i < mask+1->p < 32 ^ t->∃ i',i' < mask+1/\∀ j∈fU (mask+1) n i',j∈qR mask (t+n) i p
 | 0,n,i,p,hi,hp=>by
  have e:p=0:=by simpa using hp
  subst e;refine⟨i,hi,λj hj=>?_⟩;rw [Ex,Mb];exact hj
 | t+1,n,i,p,hi,hp=>by
  have h2:p / 32 < 32 ^ t:=by
   rw [Nat.div_lt_iff_lt_mul<|by decide];rw [Nat.pow_succ] at hp;exact hp
  obtain⟨i',h',q⟩:=Md t n (SetTable.leap mask i p).1 (p / 32) WB h2;refine⟨i',h',λj hj=>?_⟩;rw [show t+1+n=(t+n)+1 by omega];exact Ai _<|q j hj
theorem WC{mask i p j:Nat}(hm:Pow<|mask+1)(hi:i < mask+1)(hp:p < 2 ^ 64)(hj:j < mask+1):j∈qR mask (mask+15) i p:=by
 obtain⟨i',h',q⟩:=Md (mask:=mask) 14 (mask+1) i p hi (Bg hp<|by decide);have:=q j<|hm.mem h' hj;rwa [show 14+(mask+1)=mask+15 by omega] at this
abbrev fV:=Array<|Option Nat
def nil?(owner:fV)(j:Nat):Bool:=(owner.getD j<|some 0).isNone
theorem WD(mask i:Nat):i<=SetTable.runEnd mask i:=by unfold SetTable.runEnd;split <;> omega
theorem Mf{mask:Nat}{owner:fV}:∀{fuel i p:Nat},SetTable.layClean.free mask owner fuel i p=none->∀ j∈qR mask fuel i p,nil? owner j=false
 | 0,_,_,_,j,hj=>by cases hj
 | fuel+1,i,p,h,j,hj=>by
  unfold SetTable.layClean.free at h
  split at h
  ·cases h
  ·rename_i hf
   rcases Ak.mp hj with rfl | hj
   ·have:=Fu.mp hf 0 (Br.mpr<|by have:=WD mask j;omega);rw [VD] at this;exact Ek.mpr this
   ·exact Mf (fuel:=fuel) h j hj
theorem Mg{mask:Nat}{owner:fV}:∀{fuel i p j:Nat},SetTable.layClean.free mask owner fuel i p=some j->nil? owner j=true
 | 0,_,_,_,h=>by cases h
 | fuel+1,i,p,j,h=>by
  unfold SetTable.layClean.free at h
  split at h
  ·rename_i k hf;cases h;have:=Gn hf;exact this
  ·exact Mg (fuel:=fuel) h
theorem nil?_iff{owner:fV}{j:Nat}:nil? owner j=true↔owner[j]?=some none:=by
 unfold nil?;rw [Dr];cases h:owner[j]? with
 | none=>simp
 | some v=>cases v <;> simp
structure Lies(m:Nat)(owner:fV)(k:Nat):Prop where
 size:owner.size=m
 lt:∀(j v:Nat),owner[j]?=some (some v)->v < k
 has:∀ v:Nat,v < k->∃ j:Nat,owner[j]?=some (some v)
 inj:∀(i j v:Nat),owner[i]?=some (some v)->owner[j]?=some (some v)->i=j
theorem Lies.start(m:Nat):Lies m (Array.replicate m none) 0 where
 size:=by simp
 lt:=λj v h=>by
  rw [RB] at h
  split at h <;> cases h
 has:=λv h=>by omega
 inj:=λi j v h=>by
  rw [RB] at h
  split at h <;> cases h
theorem Lies.put{m k j:Nat}{owner:fV}(L:Lies m owner k)(hj:owner[j]?=some none):Lies m (owner.setIfInBounds j<|some k) (k+1):=by
 have a7:j < owner.size:=by
  rcases Dg j owner.size with h | h
  ·exact h
  ·rw [Ec h] at hj;cases hj
 have at':∀ i:Nat,(owner.setIfInBounds j<|some k)[i]?=if j=i then some (some k) else owner[i]?:=by
  intro i;rw [Array.getElem?_setIfInBounds]
  split
  ·rename_i e;subst e;first | rfl | rw [BP a7]
  ·rfl
 refine⟨by rw [Array.size_setIfInBounds];exact L.size,λi v h=>?_,λv h=>?_,λa b v ha hb=>?_⟩
 ·rw [at'] at h
  split at h
  ·cases h;exact Ge _
  ·exact By<|L.lt i v h
 ·rcases Nat.lt_succ_iff_lt_or_eq.mp h with h | rfl
  ·obtain⟨i,hi⟩:=L.has v h;refine⟨i,?_⟩;rw [at',BL λe=>by subst e;rw [hj] at hi;cases hi];exact hi
  ·exact⟨j,by rw [at',BP rfl]⟩
 ·rw [at'] at ha hb
  split at ha
  ·rename_i e;cases ha
   split at hb
   ·rename_i e2;exact e.symm.trans e2
   ·have:=L.lt b k hb;omega
  ·split at hb
   ·cases hb;have:=L.lt a k ha;omega
   ·exact L.inj a b v ha hb
def live(m:Nat)(owner:fV):List (Nat×Nat):=(List.range m).filterMap λj=>(owner.getD j none).map (j,·)
theorem getD_some{owner:fV}{j v:Nat}:owner.getD j none=some v↔owner[j]?=some (some v):=by
 rw [Dr];cases h:owner[j]? with
 | none=>simp
 | some x=>simp
theorem fX{m:Nat}{owner:fV}{p:Nat×Nat}:p∈live m owner↔p.1 < m/\owner[p.1]?=some (some p.2):=by
 unfold live;rw [Ft]
 constructor
 ·rintro ⟨j,hj,e⟩;cases hv:owner.getD j none with
  | none=>rw [hv] at e;cases e
  | some v=>
   rw [hv] at e;cases e;exact⟨Br.mp hj,getD_some.mp hv⟩
 ·rintro ⟨h1,h2⟩;exact⟨p.1,Br.mpr h1,by rw [getD_some.mpr h2];rfl⟩
theorem Lies.nodup{m k:Nat}{owner:fV}(L:Lies m owner k):((live m owner).map (·.2)).Nodup:=by
 have q:∀ l:List Nat,l.Nodup->((l.filterMap λj=>(owner.getD j none).map (j,·)).map (·.2)).Nodup:=by
  intro l
  induction l with
  | nil=>intro _;exact Ch
  | cons a r ih=>
   intro hn;rw [Be] at hn;rw [Dz];cases hv:owner.getD a none with
   | none=>exact ih hn.2
   | some v=>
    show(v :: (r.filterMap λj=>(owner.getD j none).map (j,·)).map (·.2)).Nodup;rw [Be];refine⟨λh=>?_,ih hn.2⟩;obtain⟨p,hp,e⟩:=An.mp h;obtain⟨j,hj,e2⟩:=Ft.mp hp;cases hw:owner.getD j none with
    | none=>rw [hw] at e2;cases e2
    | some u=>
     rw [hw] at e2;cases e2;have e3:u=v:=e;subst e3;have:=L.inj a j u (getD_some.mp hv)<|getD_some.mp hw;subst this;exact hn.1 hj
 exact q _ RD
theorem Lies.perm{m k:Nat}{owner:fV}(L:Lies m owner k):((live m owner).map (·.2)).Perm (List.range k):=by
 rw [QJ L.nodup RD];intro v;rw [Br,An]
 constructor
 ·rintro ⟨p,hp,rfl⟩;exact L.lt _ _ (fX.mp hp).2
 ·intro h;obtain⟨j,hj⟩:=L.has v h;have a7:j < m:=by
   rw [<- L.size]
   rcases Dg j owner.size with h | h
   ·exact h
   ·rw [Ec h] at hj;cases hj
  exact⟨(j,v),fX.mpr ⟨a7,hj⟩,rfl⟩
theorem Lies.length{m k:Nat}{owner:fV}(L:Lies m owner k):(live m owner).length=k:=by
 have:=L.perm.length_eq;rwa [Aa,El] at this
theorem Lies.room{m k:Nat}{owner:fV}(L:Lies m owner k)(h:k < m):∃ j,j < m/\nil? owner j=true:=by
 refine DQ λhn=>?_;have all:∀ j,j < m->∃ v,owner.getD j none=some v:=by
  intro j hj;have hs:j < owner.size:=by rw [L.size];exact hj
  cases hv:owner[j] with
  | none=>exact absurd ⟨j,hj,nil?_iff.mpr<|by rw [Di hs,hv]⟩ hn
  | some v=>exact⟨v,getD_some.mpr<|by rw [Di hs,hv]⟩
 have len:∀ l:List Nat,(∀ j∈l,j < m)->(l.filterMap λj=>(owner.getD j none).map (j,·)).length=l.length:=by
  intro l
  induction l with
  | nil=>intro _;rfl
  | cons a r ih=>
   intro hl;obtain⟨v,hv⟩:=all a<|hl a Ae;rw [Dz,hv];show(_ :: _).length=_;rw [Aq,Aq,ih λj hj=>hl j<|Ai _ hj]
 have e:=len (List.range m) λj hj=>Br.mp hj;have e2:=L.length;unfold live at e2;rw [e,El] at e2;omega
theorem WG(h:Int):SetTable.bits h < 2 ^ 64:=by
 unfold SetTable.bits;have h1:0<=h % (2 ^ 64:Int):=Bw _ (by decide);have h2:h % (2 ^ 64:Int) < 2 ^ 64:=Cc _ (by decide);omega
theorem Lies.free{mask k:Nat}{owner:fV}(L:Lies (mask+1) owner k)(hm:Pow<|mask+1)(h:k < mask+1)(x:Int) :
  ∃ j,SetTable.layClean.free mask owner (SetTable.turns mask) (SetTable.bits x % (mask+1)) (SetTable.bits x)=some j/\owner[j]?=some none:=by
 cases e:SetTable.layClean.free mask owner (SetTable.turns mask) (SetTable.bits x % (mask+1)) (SetTable.bits x) with
 | some j=>exact⟨j,rfl,nil?_iff.mp<|Mg e⟩
 | none=>
  obtain⟨j,hj,q⟩:=L.room h;have:=Mf e j<|WC hm (Gp _<|Fy _) (WG x) hj;rw [q] at this;cases this
def wW(mask:Nat)(acc:Option<|fV×Nat)(h:Int):Option (fV×Nat):=do
 let (owner,k) <- acc
 let j <- SetTable.layClean.free mask owner (SetTable.turns mask) (SetTable.bits h % (mask+1))<|SetTable.bits h
 pure (owner.setIfInBounds j<|some k,k+1)
theorem Mh{mask:Nat}(hm:Pow<|mask+1):∀(hs:List Int) (owner:fV) (k:Nat),Lies (mask+1) owner k->k+hs.length < mask+1+1 ->
  ∃ jP,hs.foldl (wW mask) (some (owner,k))=some (jP,k+hs.length)/\Lies (mask+1) jP (k+hs.length)
 | [],owner,k,L,_=>⟨owner,rfl,L⟩
 | h :: r,owner,k,L,hk=>by
  rw [Aq] at hk ⊢;obtain⟨j,e,hj⟩:=L.free hm (by omega) h;obtain⟨o',e',L'⟩:=Mh hm r _ (k+1) (L.put hj) (by omega);refine⟨o',?_,?_⟩
  ·rw [Dd,show wW mask (some (owner,k)) h=some (owner.setIfInBounds j<|some k,k+1) by unfold wW;simp [e],e']
   congr 2
   omega
  ·rw [show k+(r.length+1)=k+1+r.length by omega];exact L'
theorem WH{mask:Nat}(hm:Pow<|mask+1)(hs:Array Int)(hl:hs.size < mask+1+1):∃ owner,SetTable.layClean mask hs=some owner/\Lies (mask+1) owner hs.size:=by
 obtain⟨o',e,L⟩:=Mh hm hs.toList _ 0 (Lies.start<|mask+1) (by simpa using hl);refine⟨o',?_,by simpa using L⟩;have e2:SetTable.layClean mask hs=(hs.foldl (wW mask)<|some (Array.replicate (mask+1) none,0)).map (·.1):=rfl;rw [e2,<- Array.foldl_toList,e];rfl
theorem Mi{mask finger moves:Nat}{led plain:Bool}(hm:Pow<|mask+1)(hs:Array Int)(hl:hs.size<=mask) :
  ∃ t order,SetTable.laid mask finger moves led plain hs=some (t,order)/\order.toList.Perm (List.range hs.size)/\t.fits hs.size=true/\t.led=led/\t.plain=plain/\t.mask=mask/\t.dummies=#[]/\t.place.size=hs.size:=by
 obtain⟨o,e,L⟩:=WH hm hs (by omega);have hp:((live (mask+1) o).map (·.1)).toArray.size=hs.size:=by
  rw [Au,Aa,L.length]
 refine⟨_,_,by unfold SetTable.laid;rw [e];rfl,?_,?_,rfl,rfl,rfl,rfl,hp⟩
 ·show((live (mask+1) o).map (·.2)).Perm _;exact L.perm
 ·unfold SetTable.fits SetTable.fill;show(((live (mask+1) o).map (·.1)).toArray.size == hs.size && decide (((live (mask+1) o).map (·.1)).toArray.size+0<=mask))=true;rw [hp];simp only [LK,Gr,VD,DN];exact hl
def cE(w:World):Bool:=w.params.followText "set-order"
def keyOf(e:Int×Value):Str:=match e.2 with
 | .str x _=>x
 | _=>⟨#[]⟩
section
variable(prog:Program)(w:World)
def m8(e:Int×Value):Prop:=∃ z t,e=((strKind prog w).hash z,Value.str z t)
structure Tab(es:Array<|Int×Value)(t:SetTable)(zs:List Str):Prop where
 elts:∀ e∈es.toList,m8 prog w e
 keys:(es.toList.map keyOf).Perm zs
 nodup:zs.Nodup
 few:zs.length < 1000
 fits:t.fits es.size=true
 led:t.led = !cE w
 plain:es=#[]\/t.plain=false
def aA(h:Heap)(a:Addr)(zs:List Str):Prop:=∃ o es ep t,h.get? a=some o/\o.ExactSet/\o.data = .set es ep t/\Tab prog w es t zs
end
section
variable{prog:Program}{w:World}{es:Array (Int×Value)}{t:SetTable}{zs:List Str}{h h':Heap}{a:Addr}
theorem Tab.elems(T:Tab prog w es t zs):ElemsOf (strKind prog w) es.toList:=λe he=>by
 obtain⟨z,u,rfl⟩:=T.elts e he;exact⟨⟨z,NZ _ _ _ _,rfl⟩,rfl⟩
theorem Tab.size(T:Tab prog w es t zs):es.size=zs.length:=by
 have:=T.keys.length_eq;rw [Aa,Bm] at this;exact this
theorem Tab.eX(T:Tab prog w es t zs):es.size < 1000:=by rw [T.size];exact T.few
theorem Tab.scan(T:Tab prog w es t zs):es.size < scanBound:=by have:=T.eX;unfold scanBound;omega
theorem Tab.perm{eV:Array (Int×Value)}{t':SetTable}(T:Tab prog w es t zs)(p:eV.toList.Perm es.toList)(hf:t'.fits eV.size=true)(hl:t'.led=t.led)(hp:eV=#[]\/t'.plain=false):Tab prog w eV t' zs:=
 ⟨λe he=>T.elts e<|p.mem_iff.mp he,(p.map keyOf).trans T.keys,T.nodup,T.few,hf,hl.trans T.led,hp⟩
theorem aA.keep(S:aA prog w h a zs)(k:∀ o,h.get? a=some o->h'.get? a=some o):aA prog w h' a zs:=let ⟨o,es,ep,t,h1,h2⟩:=S;⟨o,es,ep,t,k o h1,h2⟩
theorem aA.typeIs{s:Shared}(S:aA prog w s.heap a zs):s.TypeIs (.ref a) "set":=let ⟨o,_,_,_,h1,h2,_⟩:=S;⟨o,h1,h2.1⟩
theorem aA.lt(S:aA prog w h a zs):a < h.objs.size:=let ⟨_,_,_,_,h1,_⟩:=S;Ay h1
theorem aA.few(S:aA prog w h a zs):zs.length < 1000:=let ⟨_,_,_,_,_,_,_,T⟩:=S;T.few
theorem aA.nodup(S:aA prog w h a zs):zs.Nodup:=let ⟨_,_,_,_,_,_,_,T⟩:=S;T.nodup
theorem oT{o:Obj}{ep:Nat}{eV:Array (Int×Value)}{t':SetTable}{ip:List Str}(ho:h.get? a=some o)(hx:o.ExactSet)(hd:o.data = .set es ep t)(T':Tab prog w eV t' ip) :
  (h.update a<|Obj.putSet eV t').get? a=some {o with data:= .set eV (ep+1) t'}/\aA prog w (h.update a<|Obj.putSet eV t') a ip:=by
 have q:=Ef (Obj.putSet eV t') ho (by rw [putSet_of eV t' hd];rfl);rw [putSet_of eV t' hd] at q;exact⟨q,_,eV,ep+1,t',q,hx,rfl,T'⟩
theorem BF{e:Int×Value}(he:m8 prog w e)(z:Str):(strKind prog w).is z e.2=decide (z=keyOf e):=by
 obtain⟨y,u,rfl⟩:=he;exact KeyKind.is_eq_decide (NZ prog w y u) z
theorem find_none(T:Tab prog w es t zs){z:Str}(hz:z∉zs):es.toList.findIdx? (λe=>(strKind prog w).is z e.2)=none:=by
 rw [List.findIdx?_eq_none_iff];intro e he;rw [BF<|T.elts e he,IW];rintro rfl;exact hz<|T.keys.mem_iff.mp<|List.mem_map_of_mem he
theorem find_some(T:Tab prog w es t zs){z:Str}(hz:z∈zs):∃ j,∃ hj:j < es.toList.length,es.toList.findIdx? (λe=>(strKind prog w).is z e.2)=some j/\keyOf es.toList[j]=z:=by
 obtain⟨e,he,e2⟩:=An.mp<|T.keys.mem_iff.mpr hz;cases q:es.toList.findIdx? (λe=>(strKind prog w).is z e.2) with
 | none=>
  have:=List.findIdx?_eq_none_iff.mp q e he;rw [BF<|T.elts e he,IW] at this;exact absurd e2.symm this
 | some j=>
  obtain⟨hj,p,_⟩:=List.findIdx?_eq_some_iff_getElem.mp q;rw [BF<|T.elts _<|Bt hj,DN] at p;exact⟨j,hj,rfl,p.symm⟩
theorem WK(t:SetTable)(n:Nat):(t.orStandIn n).led=t.led/\((t.orStandIn n).plain=true->t.plain=true):=by
 unfold SetTable.orStandIn
 split
 ·exact⟨rfl,id⟩
 ·exact⟨rfl,λh=>by cases h⟩
theorem WL(t:SetTable)(es:Array<|Int×Value)(x:Int)(v:Value):(layNew t es x v).2.1.led=t.led:=by
 unfold layNew
 split
 ·exact(WK _ _).1
 ·rfl
theorem WM{mask f m:Nat}{l p:Bool}{hs:Array Int}{t':SetTable}{o:Array Nat}(e:SetTable.laid mask f m l p hs=some (t',o)):t'.led=l/\t'.plain=p:=by
 unfold SetTable.laid at e;cases c:SetTable.layClean mask hs with
 | none=>rw [c] at e;cases e
 | some ow=>rw [c] at e;cases e;exact⟨rfl,rfl⟩
theorem Mj(t:SetTable)(es:Array<|Int×Value)(n:Nat)(hp:t.plain=false):(relayAll t es n).2.1.led=t.led/\(relayAll t es n).2.1.plain=false:=by
 unfold relayAll
 split
 ·rename_i t' o e;have q:=WM e
  dsimp only
  split
  ·exact⟨q.1,q.2.trans hp⟩
  ·exact⟨rfl,rfl⟩
 ·exact⟨rfl,rfl⟩
end
section
variable{prog:Program}{w:World}{A:Around}{E:Value->Shared->Prop}{s:Shared}{a:Addr}{zs:List Str}
theorem jQ{n:Nat}(h:n < 1001):n<=sizeLine:=by rw [DW];omega
theorem Mk{g:Bool->Sem Unit}(hg:∀(b:Bool) (s₁:Shared) (Q':Unit->Shared->Prop),Q' () s₁->wpAny (model prog w) A (g b) Q' E s₁)
  {o:Obj} {es:Array (Int×Value)} {ep:Nat} {t:SetTable} (ho:s.heap.get? a=some o) (hx:o.ExactSet) (hd:o.data = .set es ep t)
  {fA:Array (Int×Value)} {t2:SetTable} (T:Tab prog w fA t2 zs) (hp:t2.plain=false) {c:Bool} {R:Option Bool->Shared->Prop}
  (k:∀ h',Heap.SameBut a s.heap h'->aA prog w h' a zs->R (some true) {s with heap:=h'}) :
  wpAny (model prog w) A (do
   storeSet a fA t2
   if c=true then do
     g (relayAll t2 fA<|SetTable.grown fA.size).2.2
     storeSet a (relayAll t2 fA<|SetTable.grown fA.size).1 (relayAll t2 fA<|SetTable.grown fA.size).2.1
     pure (some true)
    else pure (some true)) R E s:=by
 refine BJ<|FZ ho hd ?_<|jQ<|By T.eX;obtain⟨q1,q2⟩:=oT ho hx hd T;have sb:=CP s.heap a<|Obj.putSet fA t2;cases c with
 | false=>exact BK<|k _ sb q2
 | true=>
  have p:=relayAll_perm t2 fA<|SetTable.grown fA.size;have T3:=T.perm p (relayAll_fits t2 fA<|SetTable.grown fA.size) (Mj t2 fA _ hp).1<|.inr (Mj t2 fA _ hp).2;refine BJ<|hg _ _ _ ?_;refine BJ<|FZ q1 rfl ?_ (jQ<|By T3.eX);exact BK<|k _ (sb.trans<|CP _ a _) (oT q1 hx rfl T3).2
def added(zs:List Str)(z:Str):List Str:=if z∈zs then zs else zs++[z]
theorem BG{z:Str}{tk:Tok}{Q:Bool->Shared->Prop}(S:aA prog w s.heap a zs)(hb:zs.length+1 < 1000)
  (k:∀(b:Bool) h',Heap.SameBut a s.heap h'->aA prog w h' a (added zs z)->Q b {s with heap:=h'}) :
  wpAny (model prog w) A (setAddHashed a (.str z tk)<|(strKind prog w).hash z) Q E s:=by
 obtain⟨o,es,ep,t,ho,hx,hd,T⟩:=S;unfold setAddHashed setAddHashedIn;refine CJ<|BJ<|CN ho hd T.fits ?_
 dsimp only
 rw [byScan_of (knd:=strKind prog w) (x:= .str z tk) rfl T.scan T.elems];simp only [↓reduceIte];unfold setAddByScan;refine BJ<|BJ<|HS<|BJ<|wpAny_setScan_of (knd:=strKind prog w) (k:=z) (NZ _ _ _ _) ho hd T.fits T.elems ?_
 by_cases hz:z∈zs
 ·obtain⟨j,hj,e,_⟩:=find_some T hz;rw [e]
  dsimp only
  refine BK<|BK<|k false s.heap (Heap.SameBut.refl a s.heap) ?_;unfold added;rw [BP hz];exact⟨o,es,ep,t,ho,hx,hd,T⟩
 ·rw [find_none T hz]
  dsimp only
  have gw:∀(b:Bool) (s₁:Shared) (Q':Unit->Shared->Prop),Q' () s₁->wpAny (model prog w) A (match b with | true=>rule "set.scan.the-table-gave-way" | false=>pure ()) Q' E s₁:=
   λb s₁ Q' q=>by cases b <;> first | exact BK q | exact HS q
  have p:=layNew_perm t es ((strKind prog w).hash z)<|.str z tk;have f:=layNew_fits t es ((strKind prog w).hash z)<|.str z tk;have l:=WL t es ((strKind prog w).hash z)<|.str z tk;generalize layNew t es ((strKind prog w).hash z) (.str z tk)=L at p f l ⊢;obtain⟨fA,t1,wd,gv⟩:=L
  dsimp only at p f l ⊢
  rw [Array.toList_push] at p;have tab:∀ t2:SetTable,t2.fits fA.size=true->t2.led=t1.led->t2.plain=false->Tab prog w fA t2 (zs++[z]):=λt2 h1 h2 h3=>{
   elts:=λe he=>by
    rcases Am.mp (p.mem_iff.mp he) with he | he
    ·exact T.elts e he
    ·exact⟨z,tk,Ad.mp he⟩
   keys:=by
    refine(p.map keyOf).trans ?_;rw [Aj];exact T.keys.append<|List.Perm.refl _
   nodup:=by
    rw [Ci];refine⟨T.nodup,by simp,λx hx y hy e=>?_⟩;rw [Ad] at hy;subst hy e;exact hz hx
   few:=by rw [Af];exact hb
   fits:=h1
   led:=h2.trans<|l.trans T.led
   plain:= .inr h3}
  have fin:∀ h',Heap.SameBut a s.heap h'->aA prog w h' a (zs++[z])->Q true {s with heap:=h'}:=λh' q1 q2=>k true h' q1 (by unfold added;rw [BL hz];exact q2);refine BJ<|gw _ _ _ ?_
  split
  ·rename_i hp;refine BJ ?_;rw [hashByValue_scannable 8 rfl];refine BK ?_;refine Mk gw ho hx hd (tab {t1 with plain:=false} (SetTable.fits_plain_off f) rfl rfl) rfl λh' q1 q2=>?_
   dsimp only
   exact BK<|fin h' q1 q2
  ·rename_i hp;refine BJ<|BK ?_;simp only [↓reduceIte];refine Mk gw ho hx hd (tab t1 f rfl (Ek.mpr hp)) (Ek.mpr hp) λh' q1 q2=>?_
   dsimp only
   exact BK<|fin h' q1 q2
theorem Ml{z:Str}{tk:Tok}{Q:Option Nat->Shared->Prop}{o:Obj}{es:Array (Int×Value)}{ep:Nat}{t:SetTable}(ho:s.heap.get? a=some o)(hd:o.data = .set es ep t)(T:Tab prog w es t zs)
  (k0:z∉zs->Q none s) (k1:∀ j,(hj:j < es.toList.length)->keyOf es.toList[j]=z->Q (some j) s):wpAny (model prog w) A (setFind a (.str z tk)<|(strKind prog w).hash z) Q E s:=by
 unfold setFind setFindIn;refine BJ<|CN ho hd T.fits ?_
 dsimp only
 rw [byScan_of (knd:=strKind prog w) (x:= .str z tk) rfl T.scan T.elems];simp only [↓reduceIte];refine BJ<|HS<|BJ<|wpAny_setScan_of (knd:=strKind prog w) (k:=z) (NZ _ _ _ _) ho hd T.fits T.elems ?_
 by_cases hz:z∈zs
 ·obtain⟨j,hj,e,q⟩:=find_some T hz;rw [e]
  dsimp only
  rw [Ex];exact BK<|k1 j hj q
 ·rw [find_none T hz];exact BK<|k0 hz
theorem wX{α:Type}(xs:Array α)(i:Nat):(SetTable.eraseAt xs i).toList=xs.toList.eraseIdx i:=by
 unfold SetTable.eraseAt;rw [Array.toList_append,Array.toList_extract,Array.toList_extract,List.eraseIdx_eq_take_drop_succ];simp [List.extract_eq_drop_take];exact Cp<|by simp
theorem bK{α:Type}:∀(l:List α) (j:Nat) (hj:j < l.length),(l[j] :: l.eraseIdx j).Perm l
 | [],_,h=>by simp at h
 | x :: r,0,_=>List.Perm.refl _
 | x :: r,j+1,h=>(List.Perm.swap x _ _).trans<|(bK r j<|Nat.lt_of_succ_lt_succ h).cons x
theorem WN{t:SetTable}{n i:Nat}(h:t.fits n=true)(hi:i < n):(t.drop i).fits (n - 1)=true/\(t.drop i).led=t.led/\(t.drop i).plain=t.plain:=by
 unfold SetTable.fits at h;rw [Bv,KJ,DN] at h;have qS:i < t.place.size:=by rw [h.1];exact hi
 unfold SetTable.drop;rw [Di qS]
 dsimp only
 refine⟨?_,rfl,rfl⟩;have e1:(SetTable.eraseAt t.place i).size=n - 1:=by
  rw [<- Bm,wX,Cu,Bm,BP qS,h.1]
 have e2:∀ j,(SetTable.insertAt t.dummies (SetTable.below t.dummies j) j).size=t.dummies.size+1:=λj=>by
  have:=(SetTable.insertAt_perm t.dummies (SetTable.below t.dummies j) j).length_eq
  simpa using this
 have h2:=h.2;unfold SetTable.fill at h2;unfold SetTable.fits SetTable.fill
 dsimp only
 rw [e1,e2];simp only [LK,Gr,DN];omega
theorem WO{z:Str}{tk:Tok}{Q:Bool->Shared->Prop}(S:aA prog w s.heap a zs)
  (k0:z∉zs->Q false s) (k1:∀ h',z∈zs->Heap.SameBut a s.heap h'->aA prog w h' a (zs.erase z)->Q true {s with heap:=h'}) :
  wpAny (model prog w) A (setDiscardHashed a (.str z tk)<|(strKind prog w).hash z) Q E s:=by
 obtain⟨o,es,ep,t,ho,hx,hd,T⟩:=S;unfold setDiscardHashed;refine BJ<|Ml ho hd T (λhz=>?_) λj hj e=>?_
 ·exact BK<|k0 hz
 ·dsimp only
  have oU:j < es.size:=by simpa using hj
  have hz:z∈zs:=T.keys.mem_iff.mp<|An.mpr ⟨_,Bt hj,e⟩;obtain⟨f1,f2,f3⟩:=WN T.fits oU;have pz:(keyOf es.toList[j] :: (es.toList.eraseIdx j).map keyOf).Perm zs:=by
   refine List.Perm.trans ?_ T.keys;rw [<- Bj];exact(bK _ j hj).map keyOf
  rw [e] at pz;have T':Tab prog w (SetTable.eraseAt es j) (t.drop j) (zs.erase z):={
   elts:=λx hx=>by
    rw [wX] at hx;exact T.elts x<|Ep hx
   keys:=by
    rw [wX];refine List.Perm.cons_inv (a:=z)<|pz.trans ?_;exact List.perm_cons_erase hz
   nodup:=T.nodup.erase z
   few:=QD (List.length_erase_le) T.few
   fits:=by
    have:(SetTable.eraseAt es j).size=es.size - 1:=by
     rw [<- Bm,wX,Cu,Bm,BP oU]
    rw [this];exact f1
   led:=f2.trans T.led
   plain:=by
    rcases T.plain with q | q
    ·subst q;simp at oU
    ·exact .inr (f3.trans q)}
  refine BJ<|CN ho hd T.fits ?_
  dsimp only
  refine BJ<|FZ ho hd ?_<|jQ<|By T'.eX;refine BJ<|wpAny_point<|BK<|k1 _ hz (CP _ a _) (oT ho hx hd T').2
theorem Mm{α:Type}(next:Nat->Nat):∀(fuel k:Nat) (left:List α) (out:Array α),left.length<=fuel->(pickOrder.go next fuel k left out).toList.Perm (out.toList++left)
 | 0,k,left,out,h=>by
  have:left=[]:=Bk.mp (by omega);subst this;unfold pickOrder.go;simp
 | fuel+1,k,left,out,h=>by
  unfold pickOrder.go;cases e:left[next k % left.length]? with
  | none=>
   have:left=[]:=by
    cases left with
    | nil=>rfl
    | cons x r=>
     have hl:next k % (x :: r).length < (x :: r).length:=Gp _ (by simp);rw [Ab hl] at e;cases e
   subst this;simp
  | some x=>
   dsimp only
   obtain⟨hl,e2⟩:=Ac.mp e;refine(Mm next fuel (k+1) _ _ (by rw [Cu,BP hl];omega)).trans ?_;rw [Array.toList_push,Ar];refine LR _ ?_;have:=bK left _ hl;rw [e2] at this;exact this
theorem Mp{α:Type}(next:Nat->Nat)(xs:Array α):(pickOrder next xs).toList.Perm xs.toList:=by
 have:=Mm next xs.size 0 xs.toList #[] (by simp)
 simpa [pickOrder] using this
theorem wp_choose{src:Source}{n:Nat}{Q:Nat->Shared->Prop}(hn:n≠0)(h:∀ i d,i < n->Q i {s with drawn:=d}):wpAny (model prog w) A (choose src n) Q E s:=
 λΓ p _=>⟨hn,h _ _<|Gp _<|Nat.pos_of_ne_zero hn⟩
theorem BH{α:Type}:∀(n:Nat) (xs:List α) (s:Shared) (Q:List α->Shared->Prop),xs.length<=n->(∀ ys d,ys.Perm xs->Q ys {s with drawn:=d})->wpAny (model prog w) A (drawOrder n xs) Q E s
 | 0,xs,s,Q,h,k=>by
  have:xs=[]:=Bk.mp (by omega);subst this;unfold drawOrder;exact BK<|k [] s.drawn<|List.Perm.refl _
 | n+1,[],s,Q,h,k=>by
  unfold drawOrder;exact BK<|k [] s.drawn<|List.Perm.refl _
 | n+1,x :: r,s,Q,h,k=>by
  unfold drawOrder;refine BJ (wp_choose (by simp) λi d hi=>?_);rw [Ab hi]
  dsimp only
  refine BJ (BH n _ _ _ (by rw [Cu,BP hi];omega) λys d2 p=>?_);exact BK<|k _ d2<|(p.cons _).trans<|bK _ i hi
theorem wp_text{Q:Bool->Shared->Prop}(k:Q (cE w) s):wpAny (model prog w) A setsByText Q E s:=by
 unfold setsByText;exact BJ<|JQ<|BK k
variable{o:Obj}{es:Array (Int×Value)}{ep:Nat}{t:SetTable}
theorem WQ{Q:Array (Int×Value)->Shared->Prop}(ho:s.heap.get? a=some o)(hd:o.data = .set es ep t)(T:Tab prog w es t zs)
  (k:∀ ws d,ws.toList.Perm es.toList->Q ws {s with drawn:=d}):wpAny (model prog w) A (setWalk a) Q E s:=by
 unfold setWalk;refine BJ<|CN ho hd T.fits ?_
 dsimp only
 refine BJ<|wp_text ?_;cases hb:cE w with
 | true=>
  simp only [DP];refine BJ<|JQ ?_;exact BK<|k _ s.drawn<|Mp _ _
 | false=>
  simp only [Bb,CV];show wpAny _ _ (if(!t.plain && decide (es.size > 1))=true then _ else _) _ _ _
  split
  ·refine BJ (BH _ _ _ _ (by simp) λys d p=>?_);exact BK<|k _ d<|by simpa using p
  ·refine BJ ?_;show wpAny _ _ (if(!t.led && decide (es.size > 1))=true then _ else _) _ _ _;rw [BL<|by rw [T.led,hb];simp];exact BK<|BK<|k _ s.drawn<|List.Perm.refl _
theorem WR{Q:Bool->Shared->Prop}(l:List Addr)(hl:∀ b∈l,∃ ys,aA prog w s.heap b ys)(k:Q true s):wpAny (model prog w) A (setsQuiet l) Q E s:=by
 unfold setsQuiet;refine BJ<|wpAny_forIn_list _ (λrest b s'=>b.1=none/\s'=s/\∀ c∈rest,∃ ys,aA prog w s.heap c ys) _ ?_ ?_ l _ ⟨rfl,rfl,hl⟩
 ·rintro x rest b s' ⟨hb,rfl,hr⟩;obtain⟨ys,o,es,ep,t,ho,hx,hd,T⟩:=hr x Ae;refine BJ<|JW ho hd T.fits ?_;refine BJ<|QF _ (λrest b oD=>b.1=none/\oD=s'/\∀ e∈rest,m8 prog w e) _ ?_ ?_ es _ ⟨rfl,rfl,T.elts⟩
  ·rintro e r2 b2 s2 ⟨lR,rfl,he⟩;obtain⟨z,u,rfl⟩:=he _ Ae;exact BK ⟨rfl,rfl,λe h=>he e<|Ai _ h⟩
  ·rintro ⟨_,_⟩ s2 ⟨rfl,rfl,_⟩;exact BK ⟨rfl,rfl,λc h=>hr c<|Ai _ h⟩
 ·rintro ⟨_,_⟩ s' ⟨rfl,rfl,_⟩;exact BK k
theorem WT{f:Addr}{zf:List Str}{Q:Array (Int×Value)->Shared->Prop}(ho:s.heap.get? a=some o)(hx:o.ExactSet)(hd:o.data = .set es ep t)(T:Tab prog w es t zs)(Sf:aA prog w s.heap f zf)
  (k:∀ ws h' d,ws.toList.Perm es.toList->Heap.SameBut f s.heap h'->aA prog w h' f zf->Q ws {s with heap:=h',drawn:=d}):wpAny (model prog w) A (setWalkUnseen a [f]<|some f) Q E s:=by
 unfold setWalkUnseen;refine BJ<|CN ho hd T.fits ?_
 dsimp only
 refine BJ<|wp_text ?_
 split
 ·exact WQ ho hd T λws d p=>k ws s.heap d p (Heap.SameBut.refl _ _) Sf
 ·rename_i hn;have hb:cE w=false:=by
   cases e:cE w with
   | false=>rfl
   | true=>rw [e] at hn;simp at hn
  refine BJ<|WR [a,f] (λb hb=>?_) ?_
  ·rcases Ak.mp hb with rfl | hb
   ·exact⟨zs,o,es,ep,t,ho,hx,hd,T⟩
   ·rw [Ad] at hb;subst hb;exact⟨zf,Sf⟩
  ·simp only [Dw,Bb,CV];refine BJ<|HS ?_;obtain⟨of,ef,BI,tf,BM,WU,lD,Tf⟩:=id Sf;refine BJ<|CN BM lD Tf.fits ?_
   dsimp only
   have T2:Tab prog w ef {tf with led:=tf.led && t.led,plain:=tf.plain && t.plain} zf:=
    ⟨Tf.elts, Tf.keys, Tf.nodup, Tf.few, Tf.fits, by show (tf.led && t.led) = _; rw [Tf.led, T.led]; simp, by
     rcases Tf.plain with q | q
     ·exact .inl q
     ·exact .inr<|by show(tf.plain && t.plain)=false;rw [q];rfl⟩
   split
   ·refine BJ<|FZ BM lD ?_<|jQ<|By Tf.eX;exact BK<|k es _ s.drawn (List.Perm.refl _) (CP _ f _) (oT BM WU lD T2).2
   ·exact BK<|k es s.heap s.drawn (List.Perm.refl _) (Heap.SameBut.refl _ _) Sf
end
open Builtin.Frozenset
def oV(m:Nat):Bool:=m == 8 || m == 16 || m == 32 || m == 64 || m == 128
theorem WV{m:Nat}(h:oV m=true):Pow m:=by
 unfold oV at h;simp only [Bool.or_eq_true,KJ] at h;unfold Pow;omega
theorem WW:((List.range 64).all λn=>oV (SetTable.sizeAbove<|n * 2) && decide (n < SetTable.sizeAbove (n * 2)))=true:=by decide +kernel
theorem WX{n:Nat}(h:n < 64):Pow (SetTable.sizeAbove<|n * 2)/\n < SetTable.sizeAbove (n * 2):=by
 have q:=WW;rw [Ee] at q;have:=q n<|Br.mpr h;rw [Bv,DN] at this;exact⟨WV this.1,this.2⟩
theorem WY{es:Array (Int×Value)}{order:Array Nat}(p:order.toList.Perm<|List.range es.size):(order.filterMap (es[·]?)).toList.Perm es.toList:=by
 rw [Array.toList_filterMap];have:=p.filterMap λi=>es[i]?;rwa [filterMap_getElem?_range] at this
section
variable{prog:Program}{w:World}{A:Around}{E:Value->Shared->Prop}{s:Shared}{a:Addr}{zs:List Str}
structure dX(w:World)(t:SetTable):Prop where
 place:t.place=#[]
 dummies:t.dummies=#[]
 led:t.led = !cE w
 plain:t.plain=true
theorem dX.tab{t:SetTable}(B:dX w t):Tab prog w #[] t []:=
 ⟨λe he=>by simp at he,by simp,Ch,by decide,by unfold SetTable.fits SetTable.fill;rw [B.place,B.dummies];simp,B.led,.inl rfl⟩
theorem dX.fill{t:SetTable}(B:dX w t):t.fill=0:=by unfold SetTable.fill;rw [B.place,B.dummies];rfl
theorem WZ{Q:Value->Shared->Prop}
  (k:∀ o,o.ExactSet->(∃ t,o.data = .set #[] 0 t/\dX w t/\t.mask=7)->o.isFreed=false->Q (.ref s.heap.objs.size) {s with heap:=s.heap.push o}):wpAny (model prog w) A (newSet<|.type "set") Q E s:=by
 unfold newSet;refine BJ<|wp_text ?_
 dsimp only
 simp only [newObj];refine BJ<|SQ<|BK ?_;exact k _ ⟨rfl,rfl,rfl⟩ ⟨_,rfl,⟨rfl,rfl,rfl,rfl⟩,rfl⟩ rfl
variable{o:Obj}{ep:Nat}{t:SetTable}
theorem W0{n:Nat}{Q:Unit->Shared->Prop}(ho:s.heap.get? a=some o)(hx:o.ExactSet)(hd:o.data = .set #[] ep t)(B:dX w t)(hm:t.mask=7)(hn:n < 64)
  (k:∀ h' o' mP t',Heap.SameBut a s.heap h'->h'.get? a=some o'->o'.ExactSet->o'.data = .set #[] mP t'->dX w t'->Pow (t'.mask+1)->n<=t'.mask->Q () {s with heap:=h'}) :
  wpAny (model prog w) A (setRoomFor a n) Q E s:=by
 have T:Tab prog w #[] t []:=B.tab;unfold setRoomFor;refine BJ<|CN ho hd T.fits ?_
 dsimp only
 unfold SetTable.roomFor;rw [B.fill,hm]
 by_cases c:(0+n) * 5>=7 * 3
 ·rw [BP c]
  dsimp only
  have e0:(t.place.size+n) * 2=n * 2:=by rw [B.place];simp
  rw [e0];obtain⟨hp,hl⟩:=WX hn;unfold setRelay;refine BJ<|CN ho hd T.fits ?_
  dsimp only
  have hle:SetTable.sizeAbove (n * 2)<=512:=hp.pos.2;have h8:8<=SetTable.sizeAbove (n * 2):=hp.pos.1;rw [BL<|by rw [DW];omega];have em:SetTable.sizeAbove (n * 2) - 1+1=SetTable.sizeAbove (n * 2):=by omega
  obtain⟨t',order,e,p,f,l1,l2,l3,l4,l5⟩:=Mi (mask:=SetTable.sizeAbove (n * 2) - 1) (finger:=t.finger) (moves:=t.movedTo<|SetTable.sizeAbove (n * 2) - 1) (led:=t.led) (plain:=t.plain) (by rw [em];exact hp) (#[]:Array Int) (by simp);have er:t.relaid ((#[]:Array<|Int×Value).map (·.1)) (n * 2)=some (t',order):=by
   unfold SetTable.relaid;rw [show((#[]:Array<|Int×Value).map (·.1))=#[] by simp];exact e
  rw [er];have eo:order=#[]:=by
   have:=p.length_eq;simp at this;exact this
  subst eo;refine BJ ?_;show wpAny _ _ (if(((#[]:Array Nat).filterMap ((#[]:Array<|Int×Value)[·]?)).size != (#[]:Array<|Int×Value).size)=true then(unsupported "internal:set-table-lost-an-element" : Sem<|Array (Int×Value)×SetTable) else pure ((#[]:Array Nat).filterMap ((#[]:Array<|Int×Value)[·]?),t')) _ _ _;rw [BL<|by simp];refine BK ?_
  dsimp only
  have ee:((#[]:Array Nat).filterMap ((#[]:Array<|Int×Value)[·]?))=#[]:=by simp
  rw [ee];have B':dX w t':=⟨by
   have:=l5
   simpa using this,l4,l1.trans B.led,l2.trans B.plain⟩
  refine FZ ho hd ?_ (by simp);have q:=(oT ho hx hd<|B'.tab (prog:=prog)).1;exact k _ _ _ _ (CP _ a _) q hx rfl B' (by rw [l3,em];exact hp) (by rw [l3];omega)
 ·rw [BL c];exact BK<|k s.heap o ep t (Heap.SameBut.refl _ _) ho hx hd B (by rw [hm];exact .inl rfl)<|by rw [hm];omega
theorem W1{b:Addr}{each:Sem Unit}{Q:Unit->Shared->Prop}(ho:s.heap.get? a=some o)(hx:o.ExactSet)(hd:o.data = .set #[] ep t)(B:dX w t)(hm:t.mask=7)(fY:a≠b)(S:aA prog w s.heap b zs)(hz:zs.length < 64)
  (k:∀ h',Heap.SameBut a s.heap h'->aA prog w h' a zs->Q () {s with heap:=h'}):wpAny (model prog w) A (setMerge a b each) Q E s:=by
 obtain⟨ob,eo,epb,tb,oW,hxb,dU,Tb⟩:=S;unfold setMerge;have e1:(a == b)=false:=by simpa using fY
 rw [e1];simp only [Bb,CV];refine BJ<|CN oW dU Tb.fits ?_
 dsimp only
 by_cases c:eo.isEmpty=true
 ·rw [BP c];have:eo=#[]:=by simpa using c
  subst this;have ez:zs=[]:=by
   have:=Tb.size;exact Bk.mp<|by simpa using this.symm
  subst ez;exact BK<|k s.heap (Heap.SameBut.refl _ _) ⟨o,#[],ep,t,ho,hx,hd,B.tab⟩
 ·rw [BL c];have hsz:eo.size < 64:=by rw [Tb.size];exact hz
  refine BJ<|W0 ho hx hd B hm hsz λh' o' mP t' sb dt fP oh B' hp hl=>?_;refine BJ<|CN dt oh (B'.tab (prog:=prog)).fits ?_
  dsimp only
  have ld:(t'.led && tb.led) = !cE w:=by rw [B'.led,Tb.led];simp
  have pl:tb.plain=false:=by
   rcases Tb.plain with q | q
   ·rw [q] at c;simp at c
   ·exact q
  unfold SetTable.road;rw [B'.fill];simp only [FT,Bb,CV]
  by_cases c2:(t'.mask == tb.mask && tb.dummies.isEmpty)=true
  ·rw [BP c2]
   dsimp only
   have T2:Tab prog w eo {tb with finger:=t'.finger,led:=t'.led && tb.led,moves:=t'.moves,plain:=t'.plain && tb.plain} zs:=
    ⟨Tb.elts,Tb.keys,Tb.nodup,Tb.few,Tb.fits,ld,.inr<|by show(t'.plain && tb.plain)=false;rw [pl];simp⟩
   refine FZ dt oh ?_<|jQ<|By Tb.eX;exact k _ (sb.trans<|CP _ a _) (oT dt fP oh T2).2
  ·rw [BL c2]
   dsimp only
   obtain⟨t2,order,e,p,f,l1,l2,l3,l4,l5⟩:=Mi (finger:=t'.finger) (moves:=t'.moves) (led:=t'.led && tb.led) (plain:=t'.plain && tb.plain) hp (eo.map (·.1)) (by simpa using hl);rw [e];have p2:order.toList.Perm (List.range eo.size):=by simpa using p
   have pp:=WY p2;have ps:(order.filterMap (eo[·]?)).size=eo.size:=by
    have:=pp.length_eq;rwa [Bm,Bm] at this
   refine BJ ?_;show wpAny _ _ (if((order.filterMap (eo[·]?)).size != eo.size)=true then _ else pure (order.filterMap (eo[·]?),t2)) _ _ _;rw [BL<|by rw [ps];simp];refine BK ?_
   dsimp only
   have T2:Tab prog w (order.filterMap (eo[·]?)) t2 zs:=⟨λx hx=>Tb.elts x<|pp.mem_iff.mp hx,(pp.map keyOf).trans Tb.keys,Tb.nodup,Tb.few,by rw [ps];simpa using f,l1.trans ld,.inr<|l2.trans<|by rw [pl];simp⟩;refine FZ dt oh ?_<|jQ<|By T2.eX;exact k _ (sb.trans<|CP _ a _) (oT dt fP oh T2).2
theorem wY{Q:Bool->Shared->Prop}(S:aA prog w s.heap a zs)(k:Q true s):wpAny (model prog w) A (isAnySet<|.ref a) Q E s:=by
 unfold isAnySet;refine BJ<|JR S.typeIs sub_set_self ?_;exact BK k
theorem W2{Q:Value->Shared->Prop}(S:aA prog w s.heap a zs)(k:Q (.type "set") s):wpAny (model prog w) A (baseOf a) Q E s:=by
 unfold baseOf;refine BJ<|JR S.typeIs sub_set_self ?_;exact BK k
theorem Mq{Q:Nat->Shared->Prop}(S:aA prog w s.heap a zs)(k:∀ n,(∀ s':Shared,s'.heap.get? a=s.heap.get? a->∀ Q':Nat->Shared->Prop,Q' n s'->wpAny (model prog w) A (setEpoch a) Q' E s')->Q n s):wpAny (model prog w) A (setEpoch a) Q E s:=by
 obtain⟨o,es,ep,t,ho,hx,hd,T⟩:=S;exact KN ho hd T.fits<|k ep λs' e Q' q=>KN (e.trans ho) hd T.fits q
theorem W3{b:Addr}{id:String}{Q:Value->Shared->Prop}(S:aA prog w s.heap b zs)(hz:zs.length < 64)
  (k:∀ h',(∀ c o,s.heap.get? c=some o->h'.get? c=some o)->aA prog w h' s.heap.objs.size zs->Q (.ref s.heap.objs.size) {s with heap:=h'}):wpAny (model prog w) A (newFrom id (.type "set")<|.ref b) Q E s:=by
 unfold newFrom;refine BJ<|WZ λo hx ⟨t,hd,B,hm⟩ hf=>?_;have ho:(s.heap.push o).get? s.heap.objs.size=some o:=At _ hf;have a7:b < s.heap.objs.size:=S.lt;have S':aA prog w (s.heap.push o) b zs:=S.keep λo' e=>Ag _ e;unfold addrOf;refine BJ<|BK<|BJ<|CJ ?_;unfold updateFrom;refine BJ<|wY (s:={s with heap:=s.heap.push o}) S' ?_;simp only [DP];refine BJ<|BK ?_;unfold merge;refine BJ<|Mq (s:={s with heap:=s.heap.push o}) S' λn _=>?_;refine W1 (s:={s with heap:=s.heap.push o}) ho hx hd B hm (Cy a7) S' hz λh' sb S2=>?_;refine BK<|k h' (λc u e=>?_) S2;have hc:c≠s.heap.objs.size:=Bo<|Ay e;rw [sb.2 c hc];exact Ag _ e
def flipped(zs:List Str)(z:Str):List Str:=if z∈zs then zs.erase z else zs++[z]
theorem BO{zs:List Str}(hn:zs.Nodup)(z y:Str):y∈flipped zs z↔(if y=z then y∉zs else y∈zs):=by
 unfold flipped
 by_cases c:z∈zs
 ·rw [BP c,hn.mem_erase_iff]
  by_cases e:y=z
  ·subst e;simp [c]
  ·simp [e]
 ·rw [BL c,Am,Ad]
  by_cases e:y=z
  ·subst e;simp [c]
  ·simp [e]
theorem W4(zs:List Str)(z:Str):(flipped zs z).length<=zs.length+1:=by
 unfold flipped
 split
 ·exact Nat.le_succ_of_le<|List.length_erase_le
 ·simp
theorem Mr:∀(ps zs:List Str),zs.Nodup->ps.Nodup->∀ y,y∈ps.foldl flipped zs↔(if y∈ps then y∉zs else y∈zs)
 | [],zs,_,_,y=>by simp
 | p :: r,zs,hn,hp,y=>by
  rw [Be] at hp;have zX:(flipped zs p).Nodup:=by
   unfold flipped
   split
   ·exact hn.erase p
   ·rename_i c;rw [Ci];exact⟨hn,by simp,λx hx y hy e=>by rw [Ad] at hy;subst hy e;exact c hx⟩
  rw [Dd,Mr r _ zX hp.2 y]
  by_cases e:y=p
  ·subst e;rw [BL hp.1,BO hn,BP rfl,BP Ae]
  ·by_cases c:y∈r
   ·rw [BP c,BP<|Ai _ c,BO hn,BL e]
   ·rw [BL c,BL (λh=>by rcases Ak.mp h with h | h;exact e h;exact c h),BO hn,BL e]
end
theorem W5:entryFor table "set.__xor__" = some Builtin.«frozenset.__xor__»:=
 PK (id':= "frozenset.__xor__") (by kernel_rfl) rfl (by decide +kernel) (by kernel_rfl)
section
variable{prog:Program}{w:World}{A:Around}{E:Value->Shared->Prop}{s:Shared}{a r:Addr}{za zr:List Str}
theorem W6{nm:String}{Q:Unit->Shared->Prop}(Sa:aA prog w s.heap a za)(Sr:aA prog w s.heap r zr)(wZ:a≠r)(hl:za.length+zr.length < 900)
  (k:∀ h' d (ws:List Str),ws.Perm za->Heap.SameBut r s.heap h'->aA prog w h' r (ws.foldl flipped zr)->Q () {s with heap:=h',drawn:=d}):wpAny (model prog w) A (symmetricDifferenceUpdate nm r<|.ref a) Q E s:=by
 unfold symmetricDifferenceUpdate;have e1:(Value.ref a == Value.ref r)=false:=by
  refine Ek.mpr λh=>wZ ?_;have:=eq_of_beq h;exact Value.ref.inj this
 rw [e1];simp only [Bb,CV];refine BJ<|JM Sa.typeIs ?_;rw [show(Value.type "set" == Value.type "dict")=false by decide];simp only [Bb,CV];refine BJ<|wY Sa ?_;simp only [DP];refine BJ<|BK ?_;unfold addrOf;refine BJ<|BK ?_;refine BJ<|Mq Sa λn hn=>?_;refine CJ ?_;obtain⟨o,es,ep,t,ho,hx,hd,T⟩:=id Sa;refine BJ<|WT ho hx hd T Sr λws h1 d1 p sb S1=>?_;have pw:(ws.toList.map keyOf).Perm za:=(p.map keyOf).trans T.keys;have el:∀ e∈ws.toList,m8 prog w e:=λe he=>T.elts e<|p.mem_iff.mp he;refine BJ<|QF _ (λrest _ s'=>∃ h' zz,s'={s with heap:=h',drawn:=d1}/\Heap.SameBut r s.heap h'/\aA prog w h' r zz/\zz.length+rest.length < 900/\(∀ e∈rest,m8 prog w e) /\
   (rest.map keyOf).foldl flipped zz=(ws.toList.map keyOf).foldl flipped zr) _ ?_ ?_ ws _ ⟨h1,zr,rfl,sb,S1,?_,el,rfl⟩
 ·rintro e rest b s' ⟨h',zz,rfl,qT,S',eY,he,hf⟩;obtain⟨z,tk,rfl⟩:=he _ Ae;have oX:∀ e∈rest,m8 prog w e:=λe h=>he e<|Ai _ h;rw [Aq] at eY;have Mt:∀(h2:Heap) (Q':Nat->Shared->Prop),Heap.SameBut r s.heap h2->Q' n {s with heap:=h2,drawn:=d1}->wpAny (model prog w) A (setEpoch a) Q' E {s with heap:=h2,drawn:=d1}:=
   λh2 Q' q1 q2=>hn _ (q1.2 a wZ) Q' q2
  have fin:∀ h2 BQ,Heap.SameBut r s.heap h2->aA prog w h2 r BQ->BQ=flipped zz z->∃ h' BU,({s with heap:=h2,drawn:=d1}:Shared)={s with heap:=h',drawn:=d1}/\Heap.SameBut r s.heap h'/\aA prog w h' r BU/\BU.length+rest.length < 900/\(∀ e∈rest,m8 prog w e) /\
    (rest.map keyOf).foldl flipped BU=(ws.toList.map keyOf).foldl flipped zr:=by
   rintro h2 BQ q1 q2 rfl;refine⟨h2,_,rfl,q1,q2,?_,oX,hf⟩;have:=W4 zz z;omega
  dsimp only
  refine BJ<|CJ<|BJ<|WO (s:={s with heap:=h',drawn:=d1}) S' (λhz=>?_) λh2 hz q1 q2=>?_
  ·simp only [TX,DP];refine BJ (BG (s:={s with heap:=h',drawn:=d1}) S' (by omega) λb h2 q1 q2=>BK ?_);unfold unchanged;refine BJ<|BJ<|Mt h2 _ (qT.trans q1) ?_;simp only [FT,Bb,CV];refine BK<|BK<|fin h2 _ (qT.trans q1) q2 ?_;unfold added flipped;rw [BL hz,BL hz]
  ·simp only [Dw,Bb,CV];refine BK ?_;unfold unchanged;refine BJ<|BJ<|Mt h2 _ (qT.trans q1) ?_;simp only [FT,Bb,CV];refine BK<|BK<|fin h2 _ (qT.trans q1) q2 ?_;unfold flipped;rw [BP hz]
 ·rintro b s' ⟨h',zz,rfl,qT,S',_,_,hf⟩;have wR:zz=(ws.toList.map keyOf).foldl flipped zr:=hf;subst wR;exact BK<|k h' d1 _ pw qT S'
 ·have:=pw.length_eq;rw [Aa] at this;omega
theorem W7{b:Addr}{zb:List Str}{Q:Value->Shared->Prop}(Sa:aA prog w s.heap a za)(Sb:aA prog w s.heap b zb)(ha:za.length < 64)(hb:zb.length < 64)
  (k:∀ h' d zc,(∀ c o,s.heap.get? c=some o->h'.get? c=some o)->aA prog w h' s.heap.objs.size zc->(∀ y,y∈zc↔(if y∈za then y∉zb else y∈zb))->Q (.ref s.heap.objs.size) {s with heap:=h',drawn:=d}) :
  wpAny (model prog w) A (binaryOp .BitXor (.ref a)<|.ref b) Q E s:=by
 refine wpAny_binaryOp_same (op:= .BitXor) (T:= "set") Sa.typeIs Sb.typeIs F.fills_set_xor F.slot_set_xor<|DG F.slot_set_xor Sa.typeIs W5 ?_<|F.args_set_xor_2 _ _;show wpAny _ _ (slot1 "__xor__" ⟨[.ref a,.ref b],[]⟩ >>= _) _ _ _;unfold slot1 slotArgs;simp only [Gf,Dw,Bb,↓reduceIte,bind_assoc,Aq,Fb,FT];refine BJ<|BK ?_
 dsimp only
 refine BJ<|BK ?_
 dsimp only
 refine BJ<|BJ<|wY Sa ?_;refine wY Sb ?_;simp only [Dw,Bb,CV];unfold addrOf;refine BJ<|BK ?_;refine BJ ?_;show wpAny _ _ (baseOf a >>= λc=>newFrom (toString "frozenset."++toString "__xor__") c (.ref b) >>= λres=>addrOf res >>= λq=>holding [res] (symmetricDifferenceUpdate (toString "frozenset."++toString "__xor__") q<|.ref a) >>= λ_=>pure res) _ _ _;refine BJ<|W2 Sa ?_;refine BJ<|W3 Sb hb λh1 k1 S1=>?_;unfold addrOf;refine BJ<|BK<|BJ<|CJ ?_;have W8:aA prog w h1 a za:=Sa.keep<|k1 a;refine W6 (s:={s with heap:=h1}) W8 S1 (Bo Sa.lt) (by omega) λh2 d ws p sb S2=>?_;refine BK<|BK ⟨_,rfl,by simp,k h2 d _ (λc o e=>?_) S2 λy=>?_⟩
 ·rw [sb.2 c<|Bo<|Ay e];exact k1 c o e
 ·rw [Mr ws zb Sb.nodup (p.nodup_iff.mpr Sa.nodup) y];simp only [p.mem_iff]
end
def made(zs:List Str):List Str:=zs.foldl added []
theorem BV(zs:List Str)(z y:Str):y∈added zs z↔y∈zs\/y=z:=by
 unfold added
 split
 ·rename_i h;exact⟨.inl,λq=>q.elim id λe=>e ▸ h⟩
 ·rw [Am,Ad]
theorem W9(zs:List Str)(z:Str):(added zs z).length<=zs.length+1:=by
 unfold added
 split <;> simp
theorem Mu:∀(ps zs:List Str) (y:Str),y∈ps.foldl added zs↔y∈zs\/y∈ps
 | [],zs,y=>by simp
 | p :: r,zs,y=>by
  rw [Dd,Mu r,BV,Ak]
  constructor
  ·rintro ((h | h) | h)
   ·exact .inl h
   ·exact .inr<|.inl h
   ·exact .inr<|.inr h
  ·rintro (h | h | h)
   ·exact .inl<|.inl h
   ·exact .inl<|.inr h
   ·exact .inr h
theorem Mv:∀(ps zs:List Str),(ps.foldl added zs).length<=zs.length+ps.length
 | [],zs=>by simp
 | p :: r,zs=>by
  rw [Dd,Aq];have h1:=Mv r<|added zs p;have h2:=W9 zs p;omega
theorem W'(zs:List Str)(y:Str):y∈made zs↔y∈zs:=by
 unfold made;rw [Mu];simp
theorem B0(zs:List Str):(made zs).length<=zs.length:=by
 have:=Mv zs []
 simpa [made] using this
section
variable{prog:Program}{w:World}{A:Around}{E:Value->Shared->Prop}{s:Shared}
def gS(w:World):Obj:={cls:= .type "set",dict:=none,data:= .set #[] 0 (.fresh 0 0 (!cE w))}
theorem Mw{h:Heap}{a:Addr}(e:h.get? a=some (gS w)):aA prog w h a []:=⟨_,_,_,_,e,⟨rfl,rfl,rfl⟩,rfl,dX.tab ⟨rfl,rfl,rfl,rfl⟩⟩
theorem Xa(v:Value){Q:Value->Shared->Prop}(k:Q (.ref s.heap.objs.size) {s with heap:=s.heap.push (gS w)}) :
  codeAny (model prog w) A (.call (.builtin "set.__new__") ⟨[.type "set",v],[]⟩) (wants Q E) s:=by
 refine JZ ?_;show wpAny _ A.in1 (checkBuiltinCall "set.__new__" ⟨[.type "set",v],[]⟩ >>= λ_=>again<|.builtin "set.__new__" ⟨[.type "set",v],[]⟩) _ _ s;refine BJ<|JG (F.newCall_set_1 v)<|BK ⟨JB F.plain_set_new _,FJ F.entry_set_new ?_⟩;rw [EY F.plain_set_new _];unfold Builtin.«set.__new__» newClass
 dsimp only
 refine BJ<|BJ<|JG (show isType (.type "set")=pure true from rfl)<|BK ?_;simp only [Dw,Bb,CV];unfold newSet;refine BJ<|BJ<|wp_text ?_
 dsimp only
 simp only [newObj];refine BJ<|SQ<|BK ?_;exact BK k
variable{R:Result->Shared->Prop}{I:Addr}{fp wr:List Addr}{G:Array GenState->Array GenState->Prop}{n:Nat}{P:Nat->Value->Prop}{St:Nat->Shared->Prop}
theorem Xb(W:WalksS prog w A.in1 I fp wr G n P St)(a:Addr)(ha:a∉fp)(zs:List Str)(hn:zs.length=n)(oY:∀ i v,P i v->∃ z t,zs[i]?=some z/\v=Value.str z t)(hb:n < 900) :
  ∀(k i:Nat) (s:Shared),n - i=k->i<=n->St i s->aA prog w s.heap a (made<|zs.take i)->(∀ s',Moved (a :: wr) G s s'->aA prog w s'.heap a (made zs)->R (.ok<|.ret .none) s') ->
   codeAny (model prog w) A (.builtin "set.update.loop" ⟨[.ref a,.ref I],[]⟩) R s:=by
 have Mx:a∉wr:=λh=>ha<|W.sub _ h;have lS:∀ b∈wr,b∈a :: wr:=λb hb=>Ai _ hb;intro k
 induction k with
 | zero=>
  intro i s hk hi st S k2;have e:i=n:=by omega
  subst e;refine FJ KH ?_;rw [EY HW _];show wpAny _ A.in1 (pyNext (.ref I) >>= _) _ _ s;refine BJ<|W.done s _ _ st λs' m=>?_;show wpAny _ A.in1 (ret Value.none) _ _ s';rw [Cp<|by omega] at S;exact BK<|k2 s' (m.mono lS)<|S.keep λo e=>m.heap a o Mx e
 | succ k ih=>
  intro i s hk hi st S k2;have a7:i < n:=by omega
  refine FJ KH ?_;rw [EY HW _];show wpAny _ A.in1 (pyNext (.ref I) >>= _) _ _ s;refine BJ<|W.item i s _ _ a7 st λv s' hP cV m=>?_;obtain⟨z,t,hz,rfl⟩:=oY i v hP;have S':aA prog w s'.heap a (made<|zs.take i):=S.keep λo e=>m.heap a o Mx e;show wpAny _ A.in1 (holding [Value.str z t] (setAdd a<|.str z t) >>= _) _ _ s';refine BJ<|CJ ?_;unfold setAdd;refine CJ<|BJ<|(strKind prog w).pyHash (k:=z) (NZ _ _ _ _) ?_;have hl:(made<|zs.take i).length<=i:=Bs (B0 _) (by rw [Bf];omega);refine BG (s:={s' with toks:=s'.toks+1}) S' (by omega) λb h' sb S2=>?_;have S3:aA prog w h' a (made<|zs.take<|i+1):=by
   rw [Cg,hz];unfold made;rw [List.foldl_append];exact S2
  refine BK ⟨JB HW _,ih (i+1) _ (by omega) a7 (W.frame _ s' _ _ cV (Eh _) λc hc o e=>?_) S3 λs2 m2 S4=>?_⟩
  ·rw [sb.2 c λh=>ha<|h ▸ hc];exact e
  ·refine k2 s2 (Moved.trans W.gtrans ((m.mono lS).then_heap (Eh _) λc o hc e=>?_) m2) S4;rw [sb.2 c λh=>hc<|h ▸ Ae];exact e
theorem Xc{Q:Value->Shared->Prop}{l:Addr}{items:Array Value}{zs:List Str}(hh:A.handled=none)(hl:s.heap.IsList l items)(hi:∀(i:Nat) v,items[i]?=some v->∃ z t,zs[i]?=some z/\v=Value.str z t)(hz:zs.length=items.size)(hb:items.size < 900)
  (k:∀ h' tk,(∀ b o,s.heap.get? b=some o->h'.get? b=some o)->aA prog w h' s.heap.objs.size (made zs)->Q (.ref s.heap.objs.size) {s with heap:=h',toks:=tk}):wpAny (model prog w) A (call (.type "set") [.ref l]) Q E s:=by
 obtain⟨c,tl,B1⟩:=F.called_set.mro;have tE:=F.called_set.made;have lS:=F.called_set.sub;refine wpAny_call<|JZ ?_;show wpAny _ _ (callAny (.type "set") _) _ _ _;refine BK ⟨Code.quiet_builtin _ (by decide +kernel),FJ F.entry_type_call ?_⟩;rw [Around.under_plain (weight_type_call_type "set" [.ref l] []) rfl];have h1:=F.called_set.notType;have h2:=F.called_set.canCreate;have h3:=F.typeCall_set_1<|.ref l
 repeat (any_goals (first | assumption | wp_step))
 refine JL (Xa (.ref l) (E:=E) (Q:=λv s₁=>v = .ref s.heap.objs.size/\s₁={s with heap:=s.heap.push (gS w)}) ⟨rfl,rfl⟩) λr s₁ hr=>?_;cases r with
 | error e=>exact hr
 | ok fl=>
  cases fl with
  | ret v=>
   obtain⟨rfl,rfl⟩:=hr;have hS:(s.heap.push<|gS w).get? s.heap.objs.size=some (gS w):=At _ rfl;have hT:Shared.TypeIs {s with heap:=s.heap.push (gS w)} (.ref s.heap.objs.size) "set":=⟨_,hS,rfl⟩;have qU:=F.called_set.init.lookup;have B2:=F.called_set.init.bind<|.ref s.heap.objs.size
   repeat (any_goals (first | assumption | wp_step))
   refine JL (codeAny_call_builtin (R:=wants (λr s₂=>r = .none/\∃ h' tk,s₂={s with heap:=h',toks:=tk}/\(∀ b o,s.heap.get? b=some o->h'.get? b=some o)/\aA prog w h' s.heap.objs.size (made zs)) E) F.called_set.init.plain F.entry_set_init<|check_set_init_1 hT ?_) λr2 s2 oZ=>?_
   ·obtain⟨ol,tF,iX,nl,gD⟩:=hl;obtain⟨Xd,tG,My,o6⟩:=ol;simp only at iX gD;subst iX gD;have B3:(s.heap.push<|gS w).get? l=some {cls:= .type "list",dict:=tG,data:= .seq items nl,slots:=o6}:=Ag _ tF;have n1:=F.sub_list_set;have n2:=F.sub_list_frozenset;have n3:(Value.type "list" == Value.type "dict")=false:=by decide
    have fZ:(s.heap.push<|gS w).IsList l items:=⟨_,B3,rfl,nl,rfl⟩;have B4:(s.heap.push<|gS w).get? s.heap.objs.size=some {cls:= .type "set",dict:=none,data:= .set #[] 0 (.fresh 0 0 (!cE w))}:=hS;unfold Builtin.«set.__init__» noKeywords updateFrom;generalize Xe:pyIter=PI
    wp_walk
    subst Xe;refine QL fZ ?_;refine BJ<|wpAny_runValue ?_;have a7:l < s.heap.objs.size:=Ay tF;have bw:l≠(s.heap.push<|gS w).objs.size:=by
     rw [Cz];exact Bo<|By a7
    have Xf:s.heap.objs.size∉[(s.heap.push<|gS w).objs.size,l]:=by
     rw [Cz];intro h
     rcases Ak.mp h with h | h
     ·exact absurd h<|Bo<|Ge _
     ·rw [Ad] at h;exact absurd h<|Cy a7
    refine Xb ((Walks.list (by simp [hh]) _ l bw items).toS) s.heap.objs.size Xf zs hz (λi v hv=>hi i v hv) hb (items.size - 0) 0 _ (by omega) (Bx _)
     ⟨⟨_,At _ rfl,rfl,rfl⟩,(fZ.push _)⟩ ?_ λs' m S'=>?_
    ·exact Mw<|Ag _ hS
    ·obtain⟨h',g',d',w5,bV⟩:=s';have eg:g'=s.gens:=m.gens;have ed:d'=s.drawn:=m.drawn;have eo:bV=s.os:=m.os;subst eg ed eo;refine BK ?_;refine BK ⟨rfl,h',w5,rfl,λb o e=>?_,S'⟩;have hb:=Ay e;refine m.heap b o (λh=>?_)<|Ag _<|Ag _ e;rw [Cz] at h
     rcases Ak.mp h with h | h
     ·exact absurd h<|Bo hb
     ·rw [Ad] at h;exact absurd h<|Bo<|By hb
   ·cases r2 with
    | error e=>exact oZ
    | ok Xg=>
     cases Xg with
     | ret r=>
      obtain⟨rfl,h',tk,rfl,q1,q2⟩:=oZ
      repeat (any_goals (first | assumption | wp_step))
      exact k _ _ q1 q2
     | _=>exact oZ.elim
  | _=>exact hr.elim
end
theorem slot_next:Slot "set_iterator" "__next__" "set_iterator.__next__":=
 .of (owner:= "set_iterator") (n:= "__next__") (by rw [RZ,MF];kernel_rfl) (by decide +kernel) (by decide +kernel) (by decide +kernel)
  (by first | exact .inl (by decide +kernel) | exact .inr<|by decide +kernel) (by rw [isSubtype_type];kernel_rfl)
theorem entry_next:entryFor table "set_iterator.__next__" = some Builtin.«set_iterator.__next__»:=entryFor_of_fast<|by kernel_rfl
theorem args_next(a:Value):argsOk "set_iterator.__next__" ⟨[a],[]⟩:=by unfold argsOk;kernel_rfl
theorem Xh:entryFor table "set.__iter__" = some Builtin.«frozenset.__iter__»:=
 PK (id':= "frozenset.__iter__") (by kernel_rfl) rfl (by decide +kernel) (by kernel_rfl)
def kG(first:Value)(i:Nat)(a:Addr)(n ep:Nat):Obj:={cls:= .type "set_iterator",data:= .fields #[first,.int i 0,.ref a,.int n 0,.int ep 0]}
def e9(ys:List Nat):Obj:={cls:= .type "tuple",data:= .seq (ys.map λ(i:Nat)=>rawInt i).toArray}
inductive Way (w:World) (h:Heap) (a tp:Addr) (es:Array<|Int×Value) (ep:Nat) (t:SetTable) (ws:List<|Int×Value) (i:Nat):Value->Prop where
 | drawn (ys:List Nat) (ht:h.get? tp=some (e9 ys)) (hl:ys.length=es.size) (hw:∀ j:Nat,∀ y,ys[j]?=some y->es[y]?=ws[j]?):Way w h a tp es ep t ws i<|.ref tp
 | text (c:Int) (hb:cE w=true) (hw:ws=(pickOrder (w.params.setOrder a ep) es).toList):Way w h a tp es ep t ws i<|.int c 0
 | one (c:Nat) (hb:cE w=false) (hs:es.size<=1) (hw:ws=es.toList) (hc:SetTable.below t.place c=i):Way w h a tp es ep t ws i<|.int c 0
section
variable{prog:Program}{w:World}{A:Around}{E:Value->Shared->Prop}{s:Shared}{a tp it:Addr}{zs:List Str}{o:Obj}{es:Array (Int×Value)}{ep:Nat}{t:SetTable}{ws:List (Int×Value)}{i:Nat}{first:Value}
theorem Mz(j c:Nat):SetTable.below #[j] c=if j < c then 1 else 0:=by
 unfold SetTable.below;show SetTable.below.go #[j] c 1 0 1=_;unfold SetTable.below.go;simp only [Nat.zero_lt_one,DP];show(if(#[j]:Array Nat).getD 0 c < c then SetTable.below.go #[j] c 0 1 1 else SetTable.below.go #[j] c 0 0 0)=_;rw [show(#[j]:Array Nat).getD 0 c=j by rfl]
 split <;> rfl
theorem Way.keep{h h':Heap}(W:Way w h a tp es ep t ws i first)(k:∀ o,h.get? tp=some o->h'.get? tp=some o):Way w h' a tp es ep t ws i first:=by
 cases W with
 | drawn ys ht hl hw=>exact .drawn ys (k _ ht) hl hw
 | text c hb hw=>exact .text c hb hw
 | one c hb hs hw hc=>exact .one c hb hs hw hc
theorem tH{h:Heap}{n:Nat}(x:Value)(e:h.get? it=some (kG first i a n ep)):(h.update it (Obj.mapFields (·.setIfInBounds 0 x))).get? it=some (kG x i a n ep):=Ef _ e rfl
theorem up1{h:Heap}{n:Nat}(e:h.get? it=some (kG first i a n ep)):(h.update it (Obj.mapFields (·.setIfInBounds 1 (rawInt<|(i:Int)+1)))).get? it=some (kG first (i+1) a n ep):=Ef _ e rfl
theorem MA{p:Array Nat}(h:p.size=1):∃ j,p=#[j]:=by
 obtain⟨l⟩:=p
 match l,h with
 | [j],_=>exact⟨j,rfl⟩
theorem MB(T:Tab prog w es t zs):t.place.size=es.size:=by
 have:=T.fits;unfold SetTable.fits at this;rw [Bv,KJ] at this;exact this.1
theorem Xi{Q:Option Value->Shared->Prop}(hi:s.heap.get? it=some (kG first i a es.size ep))(ho:s.heap.get? a=some o)(hd:o.data = .set es ep t)(T:Tab prog w es t zs)(hW:Way w s.heap a tp es ep t ws i first)
  (bw:tp≠it) (hp:ws.Perm es.toList) {e:Int×Value} (he:ws[i]?=some e) (k:∀ h' jR,Heap.SameBut it s.heap h'->h'.get? it=some (kG jR (i+1) a es.size ep)->Way w h' a tp es ep t ws (i+1) jR->Q (some e.2) {s with heap:=h'}) :
  wpAny (model prog w) A (pyNext<|.ref it) Q E s:=by
 have hT:s.TypeIs (.ref it) "set_iterator":=⟨_,hi,rfl⟩;unfold pyNext;refine BJ<|KZ<|GQ (name:=Str.ofString "__next__") hT slot_next<|DG slot_next hT entry_next ?_<|args_next _;unfold Builtin.«set_iterator.__next__»;refine BJ<|BK ?_;refine BJ<|PL hi rfl ?_
 dsimp only
 refine BJ<|JW ho hd T.fits ?_;rw [BL<|by simp];have MC:∀ x,Heap.SameBut it s.heap ((s.heap.update it (Obj.mapFields (·.setIfInBounds 0 x))).update it (Obj.mapFields (·.setIfInBounds 1 (rawInt<|(i:Int)+1)))):=λx=>(CP ..).trans<|CP ..;have jo:i < es.size:=by
  have h1:ws.length=es.size:=by simpa using hp.length_eq
  rcases Dg i ws.length with h | h
  ·omega
  ·rw [Bd h] at he;cases he
 have MD:Heap.SameBut it s.heap (s.heap.update it (Obj.mapFields (·.setIfInBounds 1 (rawInt<|(i:Int)+1)))):=CP ..;cases hW with
 | drawn ys ht hl hw=>
  dsimp only
  have hy:ys[i]?=some (ys[i]'(by omega)):=Ab _;generalize ys[i]'(by omega)=y at hy;refine BJ<|wpAny_seqItems ht rfl ?_
  dsimp only
  have e1:(ys.map λ(i:Nat)=>rawInt i).toArray[(i:Int).toNat]?=some (.int y 0):=by
   rw [Bc,TY,Ah,hy];rfl
  rw [e1]
  dsimp only
  unfold setNextDrawn;refine BJ<|BJ<|CN ho hd T.fits ?_
  dsimp only
  rw [BL<|by simp];have e2:es[(y:Int).toNat]?=some e:=by
   rw [Bc,hw i y hy];exact he
  rw [e2]
  dsimp only
  refine BK (BJ<|FP hi rfl (by simp) ?_);refine BK ⟨_,rfl,BK<|k _ _ MD (up1 hi)<|.drawn ys ?_ hl hw⟩;rw [MD.2 tp bw];exact ht
 | text c hb hw=>
  dsimp only
  unfold setNext;refine BJ<|BJ<|CN ho hd T.fits ?_
  dsimp only
  refine BJ<|wp_text ?_;rw [hb];simp only [DP];rw [BL<|by simp];unfold setWalk;refine BJ<|BJ<|CN ho hd T.fits ?_
  dsimp only
  refine BJ<|wp_text ?_;rw [hb];simp only [DP];refine BJ<|JQ ?_;refine BK ?_;have e1:(pickOrder ((model prog w).w.params.setOrder a ep) es)[(i:Int).toNat]?=some e:=by
   rw [Bc,<- Bq];show(pickOrder (w.params.setOrder a ep) es).toList[i]?=_;rw [<- hw];exact he
  rw [e1];refine BK ?_
  dsimp only [Option.map]
  refine BJ (FP hi rfl (by simp) ?_);refine BJ (FP (tH _ hi) rfl (by simp) ?_);exact BK ⟨_,rfl,BK<|k _ _ (MC _) (up1<|tH _ hi)<|.text _ hb hw⟩
 | one c hb hs hw hc=>
  have Xj:i=0:=by omega
  have jq:es.size=1:=by omega
  subst Xj;have w6:t.place.size=1:=(MB T).trans jq;obtain⟨j,hj⟩:=MA w6
  dsimp only
  unfold setNext;refine BJ<|BJ<|CN ho hd T.fits ?_
  dsimp only
  refine BJ<|wp_text ?_;rw [hb];simp only [Bb,CV];show wpAny _ _ (if(!t.plain && decide (es.size > 1))=true then _ else _) _ _ _;rw [BL<|by rw [jq];simp];refine BJ ?_;show wpAny _ _ (if(!t.led && !es.isEmpty)=true then _ else _) _ _ _;rw [BL<|by rw [T.led,hb];simp];refine BK ?_;rw [Bc,hc];have e1:es[0]?=some e:=by
   rw [<- Bq,<- hw];exact he
  have e2:t.place[0]?=some j:=by rw [hj];rfl
  rw [e1,e2];refine BK ?_
  dsimp only
  refine BJ (FP hi rfl (by simp) ?_);refine BJ (FP (tH _ hi) rfl (by simp) ?_);refine BK ⟨_,rfl,BK<|k _ _ (MC _) (up1<|tH _ hi)<|.one (j+1) hb hs hw ?_⟩;rw [hj,Mz,BP<|Ge _]
theorem Xk{Q:Option Value->Shared->Prop}(hh:A.handled=none)(hi:s.heap.get? it=some (kG first i a es.size ep))(ho:s.heap.get? a=some o)(hd:o.data = .set es ep t)(T:Tab prog w es t zs)(hW:Way w s.heap a tp es ep t ws i first)
  (hp:ws.Perm es.toList) (he:i=es.size) (k:∀ h',Heap.ExtBut it s.heap h'->Q none {s with heap:=h'}) :
  wpAny (model prog w) A (pyNext<|.ref it) Q E s:=by
 have hT:s.TypeIs (.ref it) "set_iterator":=⟨_,hi,rfl⟩;have wl:ws.length=es.size:=by simpa using hp.length_eq
 unfold pyNext;refine BJ<|KZ<|GQ (name:=Str.ofString "__next__") hT slot_next<|DG slot_next hT entry_next ?_<|args_next _;unfold Builtin.«set_iterator.__next__»;refine BJ<|BK ?_;refine BJ<|PL hi rfl ?_
 dsimp only
 refine BJ<|JW ho hd T.fits ?_;rw [BL<|by simp];have fin:∀ h2:Heap,Heap.SameBut it s.heap h2->wpAny (model prog w) A.in1 (newExc (Value.type "StopIteration") [] >>= λx=>(raiseNew x:Sem Fin)) (λfin s'=>∃ v,fin=Fin.done (Flow.ret v)/\wpAny (model prog w) A (pure<|some v) Q E s')
   (λe s'=>wpAny (model prog w) A (isInstance e (Value.type "StopIteration") >>= λb=>if b=true then pure none else throw e) Q E s') {s with heap:=h2}:=by
  intro h2 sb;refine BJ ?_;simp only [newExc,newTuple];refine BJ (CQ ?_<|by size_fits);refine BJ (m:=firstArgMember _ _) (JG (a:=Value.none) (by first | rfl | (simp only [firstArgMember];rfl)) ?_);refine CQ ?_ (by size_fits);simp only [raiseNew];refine BJ<|wpAny_handled ?_;rw [show A.in1.handled=none from hh];refine BJ<|BK<|wpAny_throw ?_;refine BJ<|JR (T:= "StopIteration") (b:=true) ⟨_,At _ rfl,rfl⟩ isSubtype_stop ?_;exact BK<|k _<|(sb.extBut.push _).push _
 cases hW with
 | drawn ys ht hl hw=>
  dsimp only
  refine BJ<|wpAny_seqItems ht rfl ?_
  dsimp only
  have e1:(ys.map λ(i:Nat)=>rawInt i).toArray[(i:Int).toNat]?=none:=by
   rw [Bc,TY,Bd];rw [Aa];omega
  rw [e1]
  dsimp only
  refine BJ (FP hi rfl (by simp) ?_);refine BJ (FP (tH _ hi) rfl (by simp) ?_);exact fin _<|(CP ..).trans<|CP ..
 | text c hb hw=>
  dsimp only
  unfold setNext;refine BJ<|BJ<|CN ho hd T.fits ?_
  dsimp only
  refine BJ<|wp_text ?_;rw [hb];simp only [DP];rw [BL<|by simp];unfold setWalk;refine BJ<|BJ<|CN ho hd T.fits ?_
  dsimp only
  refine BJ<|wp_text ?_;rw [hb];simp only [DP];refine BJ<|JQ ?_;refine BK ?_;have e1:(pickOrder ((model prog w).w.params.setOrder a ep) es)[(i:Int).toNat]?=none:=by
   rw [Bc,<- Bq];show(pickOrder (w.params.setOrder a ep) es).toList[i]?=_;rw [<- hw,Bd];omega
  rw [e1];refine BK ?_
  dsimp only [Option.map]
  refine BJ (FP hi rfl (by simp) ?_);exact fin _<|CP ..
 | one c hb hs hw hc=>
  dsimp only
  unfold setNext;refine BJ<|BJ<|CN ho hd T.fits ?_
  dsimp only
  refine BJ<|wp_text ?_;rw [hb];simp only [Bb,CV];show wpAny _ _ (if(!t.plain && decide (es.size > 1))=true then _ else _) _ _ _;rw [BL<|by rw [BR<|by omega];simp];refine BJ ?_;show wpAny _ _ (if(!t.led && !es.isEmpty)=true then _ else _) _ _ _;rw [BL<|by rw [T.led,hb];simp];refine BK ?_;rw [Bc,hc];have e1:es[i]?=none:=Ec (by omega);rw [e1];refine BK ?_
  dsimp only
  refine BJ (FP hi rfl (by simp) ?_);exact fin _<|CP ..
open PySem.Spec
theorem ME:Slot "set_iterator" "__iter__" "set_iterator.__iter__":=
 .of (owner:= "set_iterator") (n:= "__iter__") (by rw [RZ,MF];kernel_rfl) (by decide +kernel) (by decide +kernel) (by decide +kernel)
  (by first | exact .inl (by decide +kernel) | exact .inr<|by decide +kernel) (by rw [isSubtype_type];kernel_rfl)
theorem Xl:entryFor table "set_iterator.__iter__" = some Builtin.«dict_keyiterator.__iter__»:=
 PK (id':= "dict_keyiterator.__iter__") (by kernel_rfl) rfl (by decide +kernel) (by kernel_rfl)
theorem Xm(a:Value):argsOk "set_iterator.__iter__" ⟨[a],[]⟩:=by unfold argsOk;kernel_rfl
theorem Xn(hh:A.handled=none)(h1:a≠it)(h2:tp≠it)(hd:o.data = .set es ep t)(T:Tab prog w es t zs)(hp:ws.Perm es.toList) :
  Walks prog w A it [it,a,tp] [it] es.size (λi v=>∃ e,ws[i]?=some e/\v=e.2) (λi h=>∃ first,h.get? it=some (kG first i a es.size ep)/\h.get? a=some o/\Way w h a tp es ep t ws i first) where
 sub:=λb hb=>by simp at hb;simp [hb]
 frame:=λi h h' ⟨first,q1,q2,q3⟩ k=>⟨first,k it (by simp) _ q1,k a (by simp) _ q2,q3.keep<|k tp<|by simp⟩
 item:=λi s Q E hi ⟨first,q1,q2,q3⟩ k=>by
  have wl:ws.length=es.size:=by simpa using hp.length_eq
  obtain⟨e,he⟩:∃ e,ws[i]?=some e:=⟨ws[i]'(by omega),Ab _⟩;refine Xi q1 q2 hd T q3 h2 hp he λh' f' sb g1 g2=>?_;exact k _ h' s.toks ⟨e,he,rfl⟩ ⟨f',g1,by rw [sb.2 a h1];exact q2,g2⟩ λb o hb e=>by rw [sb.2 b λh=>hb<|by simp [h]];exact e
 done:=λs Q E ⟨first,q1,q2,q3⟩ k=>Xk hh q1 q2 hd T q3 hp rfl λh' e=>k h' s.toks λb o hb e2=>e b o (λh=>hb<|by simp [h]) e2
 self:=λi s Q E ⟨first,q1,q2,q3⟩ k=>by
  have hT:s.TypeIs (.ref it) "set_iterator":=⟨_,q1,rfl⟩;refine KQ hT ME<|DG ME hT Xl ?_<|Xm _;show wpAny _ _ (ret<|.ref it) _ _ s;exact BK ⟨_,rfl,"set_iterator",_,hT,slot_next.lookup,k⟩
theorem Xo(es:Array<|Int×Value):(List.range es.size).map (λy=>(es[y]?).getD (0,Value.none))=es.toList:=by
 refine RG (by simp) λj h1 h2=>?_;rw [Dq,Ey];have:j < es.size:=by simpa using h2
 rw [Di this];simp
theorem Xp{Q:Value->Shared->Prop}(ho:s.heap.get? a=some o)(hx:o.ExactSet)(hd:o.data = .set es ep t)(T:Tab prog w es t zs)
  (k:∀ h' d it tp ws first,(∀ b u,s.heap.get? b=some u->h'.get? b=some u)->s.heap.objs.size<=it->it < h'.objs.size->tp < h'.objs.size->(tp=a\/s.heap.objs.size<=tp)->tp≠it->h'.get? it=some (kG first 0 a es.size ep)->Way w h' a tp es ep t ws 0 first->ws.Perm es.toList->Q (.ref it) {s with heap:=h',drawn:=d}) :
  wpAny (model prog w) A (pyIter<|.ref a) Q E s:=by
 have hT:s.TypeIs (.ref a) "set":=⟨o,ho,hx.1⟩;have a7:a < s.heap.objs.size:=Ay ho;refine KQ hT F.slot_set_iter<|DG F.slot_set_iter hT Xh ?_<|F.args_set_iter_1 _;unfold Builtin.«frozenset.__iter__» slot0 slotArgs;simp only [Gf,Dw,Bb,↓reduceIte,bind_assoc,Fb,FT];unfold addrOf Builtin.Frozenset.sizeOf;refine BJ<|BK ?_;refine BJ<|BK ?_;refine BJ<|BJ<|JW ho hd T.fits<|BK ?_;unfold setDrawn;refine BJ<|BJ<|CN ho hd T.fits ?_
 dsimp only
 refine BJ<|wp_text ?_;refine BK ?_
 by_cases c:(!cE w && (!t.plain && decide (es.size > 1)))=true
 ·show wpAny _ _ (if(!cE w && (!t.plain && decide (es.size > 1)))=true then _ else _) _ _ _;rw [BP c];refine BJ (BH _ _ _ _ (by simp) λys d p=>?_);have tI:ys.length=es.size:=by simpa using p.length_eq
  refine BJ (PN ?_<|by rw [Aa,tI];exact jQ<|By T.eX);have o1:(s.heap.push<|e9 ys).get? a=some o:=Ag _ ho;refine BJ<|KN (s:={s with heap:=s.heap.push<|e9 ys,drawn:=d}) o1 hd T.fits ?_;refine BJ<|CQ<|BK ⟨_,rfl,"set_iterator",_,⟨_,At _ rfl,rfl⟩,slot_next.lookup,?_⟩;have jq:(s.heap.push<|e9 ys).objs.size=s.heap.objs.size+1:=Cz ..;refine k _ d _ s.heap.objs.size (ys.map λy=>(es[y]?).getD (0,Value.none)) (.ref s.heap.objs.size) (λb u e=>Ag _<|Ag _ e) (by show s.heap.objs.size<=(s.heap.push<|e9 ys).objs.size;omega) ?_ ?_ (.inr<|Al _) ?_ (At _ rfl) ?_ ?_
  ·show(s.heap.push<|e9 ys).objs.size < ((s.heap.push<|e9 ys).push _).objs.size;simp only [Cz];omega
  ·show s.heap.objs.size < ((s.heap.push<|e9 ys).push _).objs.size;rw [Cz,jq];omega
  ·show s.heap.objs.size≠(s.heap.push<|e9 ys).objs.size;omega
  ·refine .drawn ys (Ag _<|At _ rfl) tI λj y hy=>?_;have hm:y < es.size:=by
    have:=p.mem_iff.mp<|Ap hy
    simpa using this
   rw [Ah,hy];show _=some ((es[y]?).getD (0,Value.none));rw [Di hm];rfl
  ·have:=p.map λy=>(es[y]?).getD (0,Value.none);rwa [Xo] at this
 ·show wpAny _ _ (if(!cE w && (!t.plain && decide (es.size > 1)))=true then _ else _) _ _ _;rw [BL c];refine BJ<|BK ?_;refine BJ<|KN ho hd T.fits ?_;refine BJ<|CQ<|BK ⟨_,rfl,"set_iterator",_,⟨_,At _ rfl,rfl⟩,slot_next.lookup,?_⟩;have kk:=λws hW hp=>k (s.heap.push<|kG (.int 0 0) 0 a es.size ep) s.drawn s.heap.objs.size a ws (.int 0 0) (λb u e=>Ag _ e) (Al _) (by rw [Cz];exact Ge _) (by rw [Cz];exact By a7) (.inl rfl) (Bo a7) (At _ rfl) hW hp;cases hb:cE w with
  | true=>exact kk _ (.text 0 hb rfl)<|Mp _ _
  | false=>
   have h1:es.size<=1:=by
    rcases T.plain with q | q
    ·rw [q];simp
    ·rw [hb,q] at c;simp at c;exact c
   refine kk es.toList (.one 0 hb h1 rfl ?_)<|List.Perm.refl _;have w6:=MB T
   rcases Dg es.size 1 with h | h
   ·have:t.place=#[]:=Array.eq_empty_of_size_eq_zero (by omega);rw [this];rfl
   ·obtain⟨j,hj⟩:=MA (p:=t.place) (by omega);rw [hj,Mz,BL<|Dy _]
theorem Xq:typeLookup (.type "set") "__len__" = pure (some<|.builtin "set.__len__"):=F.slot_set_len.lookup
theorem Xr{Q:Bool->Shared->Prop}(hT:s.TypeIs (.ref a) "set")(k:Q false s):wpAny (model prog w) A (Builtin.List.listLengthHint<|.ref a) Q E s:=by
 unfold Builtin.List.listLengthHint;refine BJ<|RX hT Xq ?_
 dsimp only
 have e1:splitId "set.__len__" = some ("set","__len__"):=by kernel_rfl
 rw [e1]
 dsimp only
 refine BJ<|JR hT sub_set_self ?_;simp only [Dw,Bb,CV];rw [BP]
 ·exact BJ<|JM hT<|BK k
 ·decide +kernel
theorem Xs{Q:List Value->Shared->Prop}(hh:A.handled=none)(ho:s.heap.get? a=some o)(hx:o.ExactSet)(hd:o.data = .set es ep t)(T:Tab prog w es t zs)
  (k:∀ s' (acc:List<|Int×Value),(∀ b u,s.heap.get? b=some u->s'.heap.get? b=some u)->s'.gens=s.gens->s'.os=s.os->s.heap.objs.size < s'.heap.objs.size->acc.Perm es.toList->Q (acc.map (·.2)) s'):wpAny (model prog w) A (collect<|.ref a) Q E s:=by
 have a7:a < s.heap.objs.size:=Ay ho;unfold collect;refine BJ<|wpAny_runValue<|FJ F.entry_proto_collect ?_;rw [EY F.plain_proto_collect _];show wpAny _ A.in1 (newList [] >>= λl=>again<|.builtin "list.__iadd__" ⟨[l,.ref a],[]⟩) _ _ s;refine BJ<|JT ?_;refine BK ⟨JB F.plain_list_iadd _,FJ F.entry_list_iadd ?_⟩;rw [EY F.plain_list_iadd _];generalize hL:s.heap.objs.size=L;have lT:(s.heap.push {cls:= .type "list",data:= .seq ([]:List Value).toArray}).get? a=some o:=Ag _ ho;have Xt:(s.heap.push {cls:= .type "list",data:= .seq ([]:List Value).toArray}).get? L=some {cls:= .type "list",data:= .seq ([]:List Value).toArray}:=by rw [<- hL];exact At _ rfl
 have hT:Shared.TypeIs {s with heap:=s.heap.push {cls:= .type "list",data:= .seq ([]:List Value).toArray}} (.ref a) "set":=⟨o,lT,hx.1⟩;show wpAny _ A.in1 (Builtin.List.listExtendWith (.ref L) (.ref a)<|.ref L) _ _ _;unfold Builtin.List.listExtendWith;refine BJ<|JM hT ?_;have n1:Builtin.List.listSameRef (.ref L) (.ref a)=false:=by
  have:L≠a:=by rw [<- hL];exact Cy a7
  simp [Builtin.List.listSameRef,this]
 have n2:(Value.type "set" == Value.type "list")=false:=by decide
 have n3:(Value.type "set" == Value.type "tuple")=false:=by decide
 simp only [n1,n2,n3,Bool.or_false,Bb,CV];refine BJ<|Xp lT hx hd T λh2 d it tp ws first tJ qV hi2 kH qW bw gi W p=>?_;have MG:=tJ a o lT;have B4:=tJ L _ Xt;have lU:(s.heap.push {cls:= .type "list",data:= .seq ([]:List Value).toArray}).objs.size=L+1:=by rw [Cz,hL]
 refine BJ<|CJ<|Xr (a:=a) (s:={s with heap:=h2,drawn:=d}) ⟨o,MG,hx.1⟩ ?_;show wpAny _ A.in1 (rule "list.extend.makes-room" >>= λ_=>Builtin.List.listTouch (.ref L) >>= λ_=>again<|.builtin "list.extend.loop" ⟨[.ref L,.ref it,.ref L],[]⟩) _ _ _;refine BJ<|HS ?_;refine BJ ?_;show wpAny _ A.in1 (updateSeq L (·.push .none) >>= λ_=>updateSeq L (·.pop)) _ _ _;refine BJ<|wpAny_updateSeq B4 rfl ?_;have MH:=Ef (Obj.mapSeq (·.push Value.none)) B4 rfl;refine wpAny_updateSeq MH rfl ?_;have Xu:=Ef (Obj.mapSeq (·.pop)) MH rfl;have gT:∀ b u,b≠L->h2.get? b=some u->((h2.update L (Obj.mapSeq (·.push Value.none))).update L (Obj.mapSeq (·.pop))).get? b=some u:=
  λb u hb e=>(De _ _<|CG hb).trans<|(De _ _<|CG hb).trans e
 have tK:it≠L:=by
  have gU:L+1<=it:=by rw [<- lU];exact qV
  exact Cy gU
 have B5:a≠L:=by rw [<- hL];exact Bo a7
 have Xv:a≠it:=by
  have gU:L+1<=it:=by rw [<- lU];exact qV
  intro e;rw [<- hL,<- e] at gU;exact absurd gU<|Nat.not_le.mpr<|By a7
 have MI:tp≠L:=by
  rcases qW with h | h
  ·rw [h];exact B5
  ·have h':L+1<=tp:=by rw [<- lU];exact h
   exact Cy h'
 have m5:L∉[it,a,tp]:=by
  intro h
  rcases Ak.mp h with h | h
  ·exact tK h.symm
  ·rcases Ak.mp h with h | h
   ·exact B5 h.symm
   ·exact MI (Ad.mp h).symm
 refine BK ⟨JB F.plain_extend_loop _,codeAny_extend_loopS ((Xn (by simp [hh]) Xv bw hd T p).toS) (jQ<|By T.eX) L m5 (.ref L) es.size 0 _ _ _ rfl (Bx _) ⟨first,gT it _ tK gi,gT a _ B5 MG,W.keep λu e=>gT tp u MI e⟩ Xu (ItemsOf.nil _) λs' acc c m ML hI=>?_⟩;show wpAny _ A (load L >>= _) _ _ s';refine BJ<|wpAny_load ML ?_;have wl:ws.length=es.size:=by simpa using p.length_eq
 have el:acc.toList=ws.map (·.2):=by
  refine Du λj=>?_;rw [Bq,Ah];cases hj:acc[j]? with
  | none=>
   have:ws[j]?=none:=by
    rw [Bd];rw [wl,<- hI.1];exact Array.getElem?_eq_none_iff.mp hj
   rw [this];rfl
  | some v=>
   obtain⟨e,h1,h2⟩:=hI.2 j v hj;rw [h1,h2];rfl
 refine BK ?_;rw [el];refine k s' ws (λb u e=>?_) m.gens m.os (by rw [hL];exact Ay ML) p;have hb:b < s.heap.objs.size:=Ay e;have MM:b≠L:=by rw [<- hL];exact Bo hb
 have B2:b≠it:=by
  intro q;have gU:L+1<=it:=by rw [<- lU];exact qV
  rw [<- hL,<- q] at gU;exact absurd gU<|Nat.not_le.mpr<|By hb
 refine m.heap b u (λh=>?_)<|gT b u MM<|tJ b u<|Ag _ e
 rcases Ak.mp h with h | h
 ·exact MM h
 ·exact B2<|Ad.mp h
end
end bM
namespace bM
open PySem PySem.Spec PyProof.Rows
theorem Xw(a b:List Nat):ltCps a b=decide (a < b):=ltCps_eq a b
theorem dF:∀(l:List Str) (p:Str),risingS p l=true->∀ x∈l,p.cps.toList<=x.cps.toList
 | [],_,_,x,hx=>by cases hx
 | y :: r,p,h,x,hx=>by
  unfold risingS at h;rw [Bv,Bool.not_eq_true',Xw,IW] at h;have h1:p.cps.toList<=y.cps.toList:=h.1
  rcases Ak.mp hx with rfl | hx
  ·exact h1
  ·exact List.le_trans h1<|dF r y h.2 x hx
theorem dY{p:Str}:∀{l:List Str},risingS p l=true->sortedS l=true
 | [],_=>rfl
 | y :: r,h=>by
  unfold risingS at h;rw [Bv] at h;exact h.2
theorem fb{a b:Str}(h:a.cps.toList=b.cps.toList):a=b:=by
 cases a;cases b;simp only at h;have:=Array.toList_inj.mp h;rw [this]
theorem MO{prog:Program}{w:World}:∀(l:List<|Int×Value),(∀ e∈l,m8 prog w e)->StrsAre (l.map (·.2)) (l.map keyOf)
 | [],_=> .nil
 | e :: r,h=>by
  obtain⟨z,t,rfl⟩:=h e Ae;exact .cons z t<|MO r λx hx=>h x<|Ai _ hx
section
variable{prog:Program}{w:World}{A:Around}{E:Value->Shared->Prop}{s:Shared}{a:Addr}{zs:List Str}
theorem Xx{Q:Value->Shared->Prop}(hh:A.handled=none)(S:aA prog w s.heap a zs)(o7:zs.length < 64)
  (k:∀(s':Shared) (l:Addr) (out:Array Value) (e:Nat) (ss:List Str),(∀ b u,s.heap.get? b=some u->s'.heap.get? b=some u)->s'.gens=s.gens->s'.os=s.os->s.heap.objs.size<=l->s'.heap.get? l=some (seqObj "list" out e)->StrsAre out.toList ss->ss.Perm zs->sortedS ss=true->Q (.ref l) s') :
  wpAny (model prog w) A (call (.builtin "sorted") [.ref a]) Q E s:=by
 obtain⟨o,es,ep,t,ho,hx,hd,T⟩:=S;refine Calls.call_function_entry kind_sorted plain_sorted entry_sorted (args_sorted1 _) ?_;unfold Builtin.«sorted»;refine BJ (m:=checkCount "sorted" 1 1 _)<|BK ?_;refine BJ (Xs (by simp [hh]) ho hx hd T λs1 acc kp g1 o1 z1 p=>?_);have hS:=MO (prog:=prog) (w:=w) acc λe he=>T.elts e<|p.mem_iff.mp he;have hlen:(acc.map (·.2)).length=zs.length:=by
  rw [Aa,p.length_eq,Bm,T.size]
 refine BJ (JT ?_<|by rw [hlen];exact jQ<|by omega);have jG:(s1.heap.push (seqObj "list" (acc.map (·.2)).toArray 0)).get? s1.heap.objs.size=some (seqObj "list" (acc.map (·.2)).toArray 0):=At _ rfl;have hsz:s.heap.objs.size<=s1.heap.objs.size:=Co z1;refine BJ (CJ<|DG slot_list_sort ⟨_,jG,rfl⟩ entry_list_sort (list_sort_treeK strKind_oneLt jG hS.keysOf (λv₁ v₂ rest e=>keyKind_strs<|by rw [<- e];exact hS) (by rw [hlen];exact o7) λcV a1 a2=>⟨_,rfl,?_⟩)<|args_list_sort _);obtain⟨ss,q1,q2,q3⟩:=sorted_out_str hS a1 a2;obtain⟨e,he⟩:=sortedHeap_at (out:=(arrOf cV).map (·.2)) jG;refine BK ⟨_,rfl,k _ _ _ e ss (λb u hb=>?_) g1 o1 hsz he q1 (q2.trans<|(p.map keyOf).trans T.keys) q3⟩;have qX:=kp b u hb;have a7:=Ay qX;show(sortedHeap (s1.heap.push _) s1.heap.objs.size _ _).get? b=some u;rw [sortedHeap_old (Bo a7)<|by rw [size_push'];exact By a7];exact Ag _ qX
end
end bM
namespace L2
open PySem PySem.Spec PyProof.Rows bM
def bA(prog:Program)(w:World)(a:Addr)(zs:List Str):HO:= .ext λh=>aA prog w h a zs
section
variable{X:Cx}{pins:List (Addr×Obj)}{σ:St}{H:Hp}{s s':Shared}{a:Addr}{zs:List Str}
theorem Inv.like(I:Inv X pins σ H s)(e1:s'.heap=s.heap)(e2:s'.gens=s.gens)(e3:s'.os=s.os):Inv X pins σ H s':=by
 obtain⟨h,g,d,t,o⟩:=s;obtain⟨h',g',d',t',o'⟩:=s';simp only at e1 e2 e3;subst e1 e2 e3;exact⟨I.ok,I.os,I.bare,I.base,I.loc,I.cell,I.free,I.cf,I.pin,I.aG,I.len⟩
theorem Inv.eG{o:HO}(I:Inv X pins σ H s)(k:∀ b u,s.heap.get? b=some u->s'.heap.get? b=some u)(e2:s'.gens=s.gens)(e3:s'.os=s.os)(hp:s.heap.objs.size<=a)(new:aD X.prog X.w (upd H a o) s'.heap a o):Inv X pins σ (upd H a o) s':=
 (I.laid (t':=s.toks) k hp new).like (s':=s') rfl e2 e3
theorem w8{h:Heap}(S:aA X.prog X.w h a zs):aD X.prog X.w H h a (bA X.prog X.w a zs):=by
 refine⟨S,?_,λh1 h2 q k=>q.keep k⟩;obtain⟨o,_,_,_,ho,_⟩:=S;exact⟨o,ho⟩
theorem Inv.set(I:Inv X pins σ H s)(h:H a=some (bA X.prog X.w a zs)):aA X.prog X.w s.heap a zs:=(I.aG a _ h).1
theorem MQ:∀{zs:List Str} {us:List Value},az (zs.map V.str) us->∀(i:Nat) v,us[i]?=some v->∃ z t,zs[i]?=some z/\v=Value.str z t
 | [],_,.nil,i,v,h=>by simp at h
 | z :: r,_,.cons q qs,0,v,h=>by
  obtain⟨t,e⟩:=q;simp at h;exact⟨z,t,rfl,h ▸ e⟩
 | z :: r,_,.cons q qs,i+1,v,h=>by
  simp only [Fx] at h ⊢;exact MQ qs i v h
theorem B6:∀{zs:List Str} {us:List Value},az (zs.map V.str) us->StrsAre us zs
 | [],_,.nil=> .nil
 | z :: r,_,.cons q qs=>by
  obtain⟨t,rfl⟩:=q;exact .cons z t<|B6 qs
theorem B7:∀{us:List Value} {zs:List Str},StrsAre us zs->az (zs.map V.str) us
 | _,_,.nil=> .nil
 | _,_,.cons z t q=> .cons ⟨t,rfl⟩<|B7 q
theorem MR(hc:X.calm=true):fH X (.type "set") (λxs H Q=>∃ p zs,xs=[.ref p]/\aq X.K H p (zs.map V.str)/\zs.length < 900/\∀ a,H a=none->Q (.ref a) (upd H a<|bA X.prog X.w a<|made zs)):=by
 intro pins s σ H xs us Q I r h;obtain⟨p,zs,rfl,hp,hl,q⟩:=h;obtain⟨u,rfl,ru⟩:=vals1 r;cases (show u=Value.ref p from ru);obtain⟨its,rv,pl,hz⟩:=I.list hp;have e1:=rv.length;rw [Aa] at e1;refine Xc (I.ok.hd hc) pl.isList (λi v hv=>MQ rv i v<|by simpa using hv) (by simpa using e1) (by simp;omega) λh' tk kp S=>?_;exact⟨.ref _,_,I.eG (s':={s with heap:=h',toks:=tk}) kp rfl rfl (Al _) (w8 S),rfl,q _<|I.aG.fresh<|Al _⟩
theorem Xy:cK X (binaryOp .BitXor) (λx y H Q=>∃ a b za zb,x = .ref a/\y = .ref b/\H a=some (bA X.prog X.w a za)/\H b=some (bA X.prog X.w b zb)/\za.length < 64/\zb.length < 64 /\
  ∀ c zc,H c=none->zc.Nodup->(∀ y,y∈zc↔(if y∈za then y∉zb else y∈zb))->Q (.ref c) (upd H c<|bA X.prog X.w c zc)):=by
 intro pins s σ H x y v u Q I rx ry h;obtain⟨a,b,za,zb,rfl,rfl,ha,hb,la,lb,q⟩:=h;cases rx;cases ry;refine W7 (I.set ha) (I.set hb) la lb λh' d zc kp S m=>?_;exact⟨.ref _,_,I.eG (s':={s with heap:=h',drawn:=d}) kp rfl rfl (Al _) (w8 S),rfl,q _ zc (I.aG.fresh<|Al _) S.nodup m⟩
theorem Xz(hc:X.calm=true):fH X (.builtin "sorted") (λxs H Q=>∃ p zs,xs=[.ref p]/\H p=some (bA X.prog X.w p zs)/\zs.length < 64/\∀ l ss,H l=none->ss.Perm zs->sortedS ss=true->Q (.ref l) (upd H l<|.lst<|ss.map V.str)):=by
 intro pins s σ H xs us Q I r h;obtain⟨p,zs,rfl,hp,hl,q⟩:=h;obtain⟨u,rfl,ru⟩:=vals1 r;cases (show u=Value.ref p from ru);refine Xx (I.ok.hd hc) (I.set hp) hl λs' l out e ss kp e2 e3 qV he hS iY fc=>?_;have hlen:ss.length<=sizeLine:=by rw [iY.length_eq];exact jQ<|by omega
 refine⟨.ref _,_,I.eG (s':=s') kp e2 e3 qV (show aD X.prog X.w _ s'.heap l (.lst<|ss.map V.str) from⟨by rw [Aa];exact hlen,out.toList,e,B7 hS,he⟩),rfl,q _ ss (I.aG.fresh qV) iY fc⟩
theorem tL:fH X (.builtin "sorted") (λxs H Q=>∃ p zs,xs=[.ref p]/\aq X.K H p (zs.map V.str)/\zs.length < 64/\∀ l ss,H l=none->ss.Perm zs->sortedS ss=true->Q (.ref l) (upd H l<|.lst<|ss.map V.str)):=by
 intro pins s σ H xs us Q I r h;obtain⟨p,zs,rfl,hp,hl,q⟩:=h;obtain⟨u,rfl,ru⟩:=vals1 r;cases (show u=Value.ref p from ru);obtain⟨its,rv,pl,hz⟩:=I.list hp;have e1:=rv.length;rw [Aa] at e1;refine PyProof.Rows.sorted_strs pl.isList (B6 rv) (by omega) λout ss hS iY fc=>?_;obtain⟨e,he⟩:=sortedAll_at s.heap its out;have hlen:ss.length<=sizeLine:=by rw [iY.length_eq];exact jQ<|by omega
 refine⟨.ref _,_,I.eG (s':={s with heap:=sortedAll s.heap its out}) (λb u hb=>sortedAll_old hb) rfl rfl (Eh _) (show aD X.prog X.w _ _ _ (.lst<|ss.map V.str) from⟨by rw [Aa];exact hlen,out.toList,e,B7 hS,he⟩),rfl,q _ ss (I.aG.fresh<|Eh _) iY fc⟩
end
end L2
namespace L2
open PySem PySem.Spec PyProof.Rows
section
variable{X:Cx}{o e:Expr}{σ:St}{H:Hp}{Q:VK}{ap cp:Pos}
theorem jr (h:Ev X o σ H λx H1=>∃ l,x = .ref l/\(∃ xs,H1 l=some (.lst xs))/\Ev X e σ H1 λy H2=>∃ xs,H2 l=some (.lst xs)/\xs.length < sizeLine/\Q .non (upd H2 l<|.lst<|xs++[y]))
  (bL:attributeBase o "append" X.env (eval o X.env)=eval o X.env:=by rfl)
  (eW:((backTo cp<|starEach [e] X.env).all (λx=>!x.1) && (backToKw cp<|keywordEach [] X.env).all (λx=>x.1.isSome) && decide ([e].length+([]:List Keyword).length+(if([]:List Keyword).isEmpty then 0 else 1) < 30))=true:=by rfl)
  (hline:(ap.endLine == cp.line)=true:=by rfl) (hs:starEach [e] X.env=(false,eval e X.env) :: starEach [] X.env:=by rfl) (bX:(backTo cp<|starEach [] X.env).any (·.1)=false:=by rfl) (c9:isStar e=false:=by rfl) :
  Ev X (.Call (.Attribute o "append" ap) [e] [] cp) σ H Q:=by
 refine dc (zN DY PySem.F.slot_list_append PySem.F.type_list_append Lg bt (iR (es:=[e])) bL eW hline hs bX)<|h.mono λx H1 ⟨l,ex,⟨xs,hl⟩,h2⟩=>?_;subst ex;refine⟨.inl ⟨rfl,xs,aq.of hl⟩,?_⟩;exact ah (h2.mono λy H2 ⟨ys,hy,hz,q⟩=>ay ⟨l,ys,y,rfl,rfl,hy,hz,q⟩) c9
end
section
variable{X:Cx}{c:Expr}{body kz rest:List Stmt}{D:Ends}{σ:St}{H:Hp}{pos:Pos}
theorem Run.nx{M M':St->Hp->Prop}{l:List Stmt}(h:Run X l {D with nx:=M} σ H)(f:∀ σ' H',M σ' H'->M' σ' H'):Run X l {D with nx:=M'} σ H:=
 ⟨λpins s I => aQ (h.run pins s I) λfl s' q => by
  cases fl with
  | next=>
   obtain⟨σ',H',I',m⟩:=q;exact⟨σ',H',I',f σ' H' m⟩
  | _=>exact q⟩
theorem B8(φ ψ:Prop)(M:St->Hp->Prop)(hc:∀ T:Bool->Hp->Prop,(∀ k:Bool,(k=true->φ)->(k=false->ψ)->T k H)->Et X c σ H T)(ht:φ->Run X body {D with nx:=M} σ H)(hu:ψ->Run X kz {D with nx:=M} σ H)
  (hr:∀ σ' H',M σ' H'->Run X rest D σ' H'):Run X (.If c body kz pos :: rest) D σ H:=
 LV φ ψ hc (λp=>(ht p).nx hr) (λp=>(hu p).nx hr)
end
def jS(X:Cx)(H:Hp)(k:Nat)(x y:V)(b:Bool):Prop:=∀(pins:List<|Addr×Obj) (σ:St) (s:Shared) (A:Around) (u v:Value),Inv X pins σ H s->A.units+k < cLine->RelV x u->RelV y v->SeqAt.EqAt A s u v b
def lV(X:Cx)(H:Hp)(k:Nat)(x y:V)(b:Bool):Prop:=∀(pins:List<|Addr×Obj) (σ:St) (s:Shared) (A:Around) (u v:Value),Inv X pins σ H s->A.units+k < cLine->RelV x u->RelV y v->SeqAt.RcAt A s u v b
def qY(X:Cx)(H:Hp)(k:Nat)(x y:V)(b:Bool):Prop:=∀(pins:List<|Addr×Obj) (σ:St) (s:Shared) (A:Around) (u v:Value),Inv X pins σ H s->A.units+k < cLine->RelV x u->RelV y v->SeqAt.RcNeAt A s u v (!b)
section
variable{X:Cx}{H:Hp}{k:Nat}{a b:Addr}{xs ys:List V}
theorem tM{x y:V}(fx:jI x=true)(fy:jI y=true):jS X H k x y (cI x y):=λ_ _ _ _ _ _ _ _ rx ry=>Lb rx ry fx fy
theorem XA:jS X H k (.ref a) (.ref a) true:=λ_ _ _ _ u v _ _ rx ry=>by
 cases rx;cases ry;exact SeqAt.EqAt.same _
theorem XB(bw:a≠b){c:Bool}(h:lV X H k (.ref a) (.ref b) c):jS X H k (.ref a) (.ref b) c:=λpins σ s A u v I hu rx ry=>by
 cases rx;cases ry;exact SeqAt.EqAt.of_refs bw<|h pins σ s A _ _ I hu rfl rfl
theorem m9{us:List Value}(r:az xs us){j:Nat}(h:j < us.length):∃ x,xs[j]?=some x/\RelV x us[j]:=by
 have hl:=r.length;have hj:j < xs.length:=by omega
 obtain⟨u,e,q⟩:=r.get<|Ab hj;rw [Ab h] at e;cases e;exact⟨_,Ab hj,q⟩
theorem MS(e:Nat->Bool)(ha:aq X.K H a xs)(hb:aq X.K H b ys)(hl:xs.length=ys.length)(he:∀ j x y,xs[j]?=some x->ys[j]?=some y->jS X H k x y (e j)):lV X H (k+1) (.ref a) (.ref b) ((List.range xs.length).all e):=λpins σ s A u v I hu rx ry=>by
 cases rx;cases ry;obtain⟨i1,r1,p1,_⟩:=I.list ha;obtain⟨i2,r2,p2,_⟩:=I.list hb;have l1:=r1.length;have l2:=r2.length;have q:=SeqAt.RcAt.lists (A:=A) (e:=e) p1.isList p2.isList (by simp;omega) (by omega) λj h1 h2=>by
  obtain⟨x,ex,qx⟩:=m9 r1 (j:=j) (by simpa using h1);obtain⟨y,ey,qy⟩:=m9 r2 (j:=j) (by simpa using h2);exact he j x y ex ey pins σ s A.in1 _ _ I (by show A.units+1+k < cLine;omega) (by simpa using qx)<|by simpa using qy
 rw [Au,<- l1] at q;exact q
theorem B9(e:Nat->Bool)(ha:aq X.K H a xs)(hb:aq X.K H b ys)(hl:xs.length=ys.length)(he:∀ j x y,xs[j]?=some x->ys[j]?=some y->jS X H k x y (e j)):qY X H (k+1) (.ref a) (.ref b) ((List.range xs.length).all e):=λpins σ s A u v I hu rx ry=>by
 cases rx;cases ry;obtain⟨i1,r1,p1,_⟩:=I.list ha;obtain⟨i2,r2,p2,_⟩:=I.list hb;have l1:=r1.length;have l2:=r2.length;have q:=SeqAt.RcNeAt.lists (A:=A) (e:=e) p1.isList p2.isList (by simp;omega) (by omega) λj h1 h2=>by
  obtain⟨x,ex,qx⟩:=m9 r1 (j:=j) (by simpa using h1);obtain⟨y,ey,qy⟩:=m9 r2 (j:=j) (by simpa using h2);exact he j x y ex ey pins σ s A.in1 _ _ I (by show A.units+1+k < cLine;omega) (by simpa using qx)<|by simpa using qy
 rw [Au,<- l1] at q;exact q
theorem q80(ha:aq X.K H a xs)(hb:aq X.K H b ys)(hl:xs.length≠ys.length):lV X H k (.ref a) (.ref b) false:=λpins σ s A u v I hu rx ry=>by
 cases rx;cases ry;obtain⟨i1,r1,p1,_⟩:=I.list ha;obtain⟨i2,r2,p2,_⟩:=I.list hb;have l1:=r1.length;have l2:=r2.length;exact SeqAt.RcAt.lists_lengths p1.isList p2.isList (by simp;omega)<|by omega
theorem CA(ha:aq X.K H a xs)(hb:aq X.K H b ys)(hl:xs.length≠ys.length):qY X H k (.ref a) (.ref b) false:=λpins σ s A u v I hu rx ry=>by
 cases rx;cases ry;obtain⟨i1,r1,p1,_⟩:=I.list ha;obtain⟨i2,r2,p2,_⟩:=I.list hb;have l1:=r1.length;have l2:=r2.length;exact SeqAt.RcNeAt.lists_lengths p1.isList p2.isList (by simp;omega)<|by omega
theorem MT(e:Nat->Bool)(ha:aJ X.K H a xs)(hb:aJ X.K H b ys)(hl:xs.length=ys.length)(he:∀ j x y,xs[j]?=some x->ys[j]?=some y->jS X H k x y (e j)):lV X H (k+1) (.ref a) (.ref b) ((List.range xs.length).all e):=λpins σ s A u v I hu rx ry=>by
 cases rx;cases ry;obtain⟨i1,r1,p1,_⟩:=I.tuple ha;obtain⟨i2,r2,p2,_⟩:=I.tuple hb;have l1:=r1.length;have l2:=r2.length;have q:=SeqAt.RcAt.tuples (A:=A) (e:=e) p1 p2 (by omega) λj h1 h2=>by
  obtain⟨x,ex,qx⟩:=m9 r1 (j:=j) (by simpa using h1);obtain⟨y,ey,qy⟩:=m9 r2 (j:=j) (by simpa using h2);exact he j x y ex ey pins σ s A.in1 _ _ I (by show A.units+1+k < cLine;omega) (by simpa using qx)<|by simpa using qy
 rw [Au,Au,<- l1,<- l2,hl,Nat.min_self,<- hl] at q
 simpa using q
theorem CB(n:Nat):(List.range n).all (λ_=>true)=true:=by simp
theorem w9(hu:X.A.units+100 < cLine):cK X (compareOp .Eq) (λx y H Q=>∃ k c,k<=100/\lV X H k x y c/\Q (.bl c) H):=by
 intro pins s σ H x y v u Q I rx ry h;obtain⟨k,c,hk,hc,q⟩:=h;exact hc pins σ s X.A v u I (by omega) rx ry X.prog X.w X.xe _ ⟨.bl c,H,I,rfl,q⟩
theorem tN(hu:X.A.units+100 < cLine):cK X (compareOp .NotEq) (λx y H Q=>∃ k c,k<=100/\qY X H k x y c/\Q (.bl (!c)) H):=by
 intro pins s σ H x y v u Q I rx ry h;obtain⟨k,c,hk,hc,q⟩:=h;exact hc pins σ s X.A v u I (by omega) rx ry X.prog X.w X.xe _ ⟨.bl (!c),H,I,rfl,q⟩
theorem MU(e:Nat->Bool)(ha:aJ X.K H a xs)(hb:aJ X.K H b ys)(hl:xs.length=ys.length)(he:∀ j x y,xs[j]?=some x->ys[j]?=some y->jS X H k x y (e j)):qY X H (k+1) (.ref a) (.ref b) ((List.range xs.length).all e):=λpins σ s A u v I hu rx ry=>by
 cases rx;cases ry;obtain⟨i1,r1,p1,_⟩:=I.tuple ha;obtain⟨i2,r2,p2,_⟩:=I.tuple hb;have l1:=r1.length;have l2:=r2.length;have q:=SeqAt.RcNeAt.tuples (A:=A) (e:=e) p1 p2 (by omega) λj h1 h2=>by
  obtain⟨x,ex,qx⟩:=m9 r1 (j:=j) (by simpa using h1);obtain⟨y,ey,qy⟩:=m9 r2 (j:=j) (by simpa using h2);exact he j x y ex ey pins σ s A.in1 _ _ I (by show A.units+1+k < cLine;omega) (by simpa using qx)<|by simpa using qy
 rw [Au,Au,<- l1,<- l2,hl,Nat.min_self,<- hl] at q
 simpa using q
end
section
variable{X:Cx}{o e f c:Expr}{σ:St}{H:Hp}{Q:VK}{T:Bool->Hp->Prop}{ap cp pos:Pos}{body rest:List Stmt}{D:Ends}
theorem XC{name:Str}{Ty id:String}{r:V->List V->Hp->VK->Prop}(pa:PlainAttrs Ty)(slot:Slot Ty name id)(lv:typeOf (.builtin id)=pure (.type "method_descriptor"))(hm:sS X id r)
  (h:Ev X o σ H λx H1=>lq X.K Ty x H1/\r x [] H1 Q) (bL:attributeBase o name X.env (eval o X.env)=eval o X.env:=by rfl) (hline:(ap.endLine == cp.line)=true:=by rfl):Ev X (.Call (.Attribute o name ap) [] [] cp) σ H Q:=
 dc (Vd pa slot lv hm bt bL hline) h
theorem CD{name:Str}{Ty id:String}{r:V->List V->Hp->VK->Prop}(pa:PlainAttrs Ty)(slot:Slot Ty name id)(lv:typeOf (.builtin id)=pure (.type "method_descriptor"))(hm:sS X id r)
  (h:Ev X o σ H λx H1=>lq X.K Ty x H1/\Ev X e σ H1 λy H2=>r x [y] H2 Q) (bL:attributeBase o name X.env (eval o X.env)=eval o X.env:=by rfl)
  (eW:((backTo cp<|starEach [e] X.env).all (λx=>!x.1) && (backToKw cp<|keywordEach [] X.env).all (λx=>x.1.isSome) && decide ([e].length+([]:List Keyword).length+(if([]:List Keyword).isEmpty then 0 else 1) < 30))=true:=by rfl)
  (hline:(ap.endLine == cp.line)=true:=by rfl) (hs:starEach [e] X.env=(false,eval e X.env) :: starEach [] X.env:=by rfl) (bX:(backTo cp<|starEach [] X.env).any (·.1)=false:=by rfl) (c9:isStar e=false:=by rfl):Ev X (.Call (.Attribute o name ap) [e] [] cp) σ H Q:=
 dc (zN pa slot lv hm bt (iR (es:=[e])) bL eW hline hs bX) (h.mono λx H1 ⟨t,h2⟩=>⟨t,ah (h2.mono λy H2 q=>ay q) c9⟩)
theorem CF{name:Str}{Ty id:String}{r:V->List V->Hp->VK->Prop}(pa:PlainAttrs Ty)(slot:Slot Ty name id)(lv:typeOf (.builtin id)=pure (.type "method_descriptor"))(hm:sS X id r)
  (h:Ev X o σ H λx H1=>lq X.K Ty x H1/\Ev X e σ H1 λy H2=>Ev X f σ H2 λz H3=>r x [y,z] H3 Q) (bL:attributeBase o name X.env (eval o X.env)=eval o X.env:=by rfl)
  (eW:((backTo cp<|starEach [e,f] X.env).all (λx=>!x.1) && (backToKw cp<|keywordEach [] X.env).all (λx=>x.1.isSome) && decide ([e,f].length+([]:List Keyword).length+(if([]:List Keyword).isEmpty then 0 else 1) < 30))=true:=by rfl)
  (hline:(ap.endLine == cp.line)=true:=by rfl) (hs:starEach [e,f] X.env=(false,eval e X.env) :: starEach [f] X.env:=by rfl) (bX:(backTo cp<|starEach [f] X.env).any (·.1)=false:=by rfl) (c9:isStar e=false:=by rfl) (XD:isStar f=false:=by rfl):Ev X (.Call (.Attribute o name ap) [e,f] [] cp) σ H Q:=
 dc (zN pa slot lv hm bt (iR (es:=[e,f])) bL eW hline hs bX) (h.mono λx H1 ⟨t,h2⟩=>⟨t,ah (h2.mono λy H2 h3=>ah (h3.mono λz H3 q=>ay q) XD) c9⟩)
def insertAt(xs:List V)(i:Nat)(y:V):List V:=xs.take i++y :: xs.drop i
def XE:V->List V->Hp->VK->Prop:=λx vs H Q=>∃ l xs i y,x = .ref l/\vs=[.int i,y]/\H l=some (.lst xs)/\0<=i/\i.toNat<=xs.length/\xs.length < sizeLine/\Q .non (upd H l<|.lst<|insertAt xs i.toNat y)
theorem XF{i:Int}(h0:0<=i)(h:i<=16777216):¬(!Builtin.List.listFitsIndex i)=true:=by
 have e:Builtin.List.listFitsIndex i=true:=by
  unfold Builtin.List.listFitsIndex;rw [Bv,DN,DN];omega
 rw [e];exact Av
theorem MV:oF X "list.insert" XE:=by
 intro pins s σ H x vs v us Q I rx rv h;obtain⟨l,xs,i,y,rfl,rfl,hH,h0,hi,hz,q⟩:=h;cases rx;obtain⟨u,w',rfl,ru,d9⟩:=rv.two;obtain⟨tk,rfl⟩:=ru;obtain⟨z,its,n,r,hl,e⟩:=I.fM hH;have hs:sizeLine=16777216:=DW;have z2:its.toArray.size<=sizeLine:=by rw [Au,<- hl];exact z
 have mm:=AutoSeq1.list_insert_list_int_val_1 l its.toArray n i tk w' (XF h0<|by omega) z2;refine NQ F.slot_list_insert ⟨_,e,rfl⟩ F.entry_list_insert (F.args_list_insert_3 _ _ _) mm ⟨e,?_⟩;have ef:(λxs:Array Value=>have k:=if i < 0 then(i+(xs.size:Int)).toNat else min i.toNat xs.size;(xs.extract 0 k).push w'++xs.extract k) its.toArray=(its.take i.toNat++w' :: its.drop i.toNat).toArray:=by
  have hn:¬ i < 0:=by omega
  have hm:min i.toNat its.length=i.toNat:=by omega
  simp only [hn,CV,Au,hm];apply Array.ext';simp;exact Cp<|by simp
 refine⟨.non,_,I.jJ (its':=its.take i.toNat++w' :: its.drop i.toNat) hH e ef ((r.take i.toNat).append<|.cons d9<|r.drop i.toNat) ?_,rfl,q⟩;rw [Af,Aq,Bf,Db];omega
def XG:V->List V->Hp->VK->Prop:=λx vs H Q=>∃ a kvs k y,x = .ref a/\vs=[kV k,y]/\H a=some (.dK kvs)/\kvs.length < sizeLine /\
 ((∃ v,aB kvs k=some v/\Q v H)\/(aB kvs k=none/\Q y (upd H a<|.dK<|putK kvs k y)))
theorem XH:oF X "dict.setdefault" XG:=by
 intro pins s σ H x vs v us Q I rx rv h;obtain⟨a,kvs,k,y,rfl,rfl,hH,hz,q⟩:=h;cases rx;obtain⟨u,w',rfl,ru,d9⟩:=rv.two;obtain⟨z,hd,rs,rel,dd⟩:=tj I.aG hH;have hl:=rel.length;refine QZ F.slot_dict_setdefault dd.typeIs F.entry_dict_setdefault (F.args_dict_setdefault_3 _ _ _) (kt_meets_setdefault (cS X.prog X.w) a (lF ru) hd w') ⟨rs,dd,by omega,λv hv=>?_,λhn h' jh hs=>?_⟩
 ·have gE:=rel.val k;rw [hv] at gE
  rcases q with ⟨v',e',q⟩ | ⟨e',_⟩
  ·rw [e'] at gE;exact⟨v',H,I.tok _,gE,q⟩
  ·rw [e'] at gE;exact gE.elim
 ·have gE:=rel.val k;rw [hn] at gE
  rcases q with ⟨v',e',_⟩ | ⟨e',q⟩
  ·rw [e'] at gE;exact gE.elim
  ·have he:∃ q,h'.get? a=some q:=let ⟨q,_,_,hq,_⟩:=jh;⟨q,hq⟩
   have fN:(putK kvs k y).length<=sizeLine:=by have:=ik kvs k y;omega
   exact⟨y,_,mW I (by rw [hH];exact True.intro) hs he<|z6 fN hd (rel.put k d9) jh,d9,q⟩
theorem MX:fH X (.type "int") (λxs H Q=>∃ b:Bool,xs=[.bl b]/\Q (.int (if b then 1 else 0)) H):=by
 intro pins s σ H xs us Q I r h;obtain⟨b,rfl,q⟩:=h;obtain⟨u,rfl,ru⟩:=vals1 r;cases (show u=Value.bool b from ru);exact call_int_bool ⟨.int (if b then 1 else 0),H,I.tok _,⟨_,rfl⟩,q⟩
theorem MY{kz:List Stmt}(Φ:Bool->Hp->Prop)(M:St->Hp->Prop)(hc:Et X c σ H Φ)(ht:∀ H1,Φ true H1->Run X body {D with nx:=M} σ H1)(hu:∀ H1,Φ false H1->Run X kz {D with nx:=M} σ H1)
  (hr:∀ σ' H',M σ' H'->Run X rest D σ' H'):Run X (.If c body kz pos :: rest) D σ H:=
 du (hc.mono λk H1 p=>by
  cases k with
  | true=>rw [BP rfl];exact(ht H1 p).nx hr
  | false=>rw [BL Av];exact(hu H1 p).nx hr)
theorem xa(W:Nat->St->Hp->Prop){m0:Nat}(h0:W m0 σ H)
  (turn:∀ m σ H,W m σ H->Et X c σ H λb H1=>if b=true then Run X body {D with nx:=λσ' H'=>∃ m',m' < m/\W m' σ' H',ct:=λσ' H'=>∃ m',m' < m/\W m' σ' H',bk:=λσ' H'=>Run X rest D σ' H'} σ H1 else Run X rest D σ H1)
  (hp:PassesOwn (model X.prog X.w) X.A X.env X.xe:=by exact JX):Run X (.While c body [] pos :: rest) D σ H:=by
 refine mZ (T7 hp mY qJ) ⟨W,⟨m0,h0⟩,λm σ1 H1 w1=>(turn m σ1 H1 w1).mono λb H2 q=>?_⟩;cases b with
 | true=>
  rw [BP rfl] at q;exact⟨λσ' H'=>∃ m',m' < m/\W m' σ' H',λ_ _ h=>h,q⟩
 | false=>
  rw [BL Av] at q;exact q
theorem xc(h:∀ p,H p=none->Q (.ref p) (upd H p<|.dK [])):Ev X (.Dict [] [] pos) σ H Q:=dc VO h
theorem XI(h:∀ p,H p=none->Q (.ref p) (upd H p<|.dT [])):Ev X (.Dict [] [] pos) σ H Q:=dc VP h
theorem f7(hu:X.A.units+1 < cLine)(h:Ev X o σ H λx H1=>Ev X e σ H1 λy H2=>∃ a v,x = .ref a/\aV H2 a y (some v)/\Q v H2)(hs:oK e:=by intro _ _;rfl):Ev X (.Subscript o e pos) σ H Q:=dc (VH hu bt bt hs) h
theorem MZ(hu:X.A.units+1 < cLine)(h:Ev X e σ H λy H1=>Ev X o σ H1 λx H2=>∃ a r,x = .ref a/\aV H2 a y r/\T r.isSome H2)(hm:behindInMarks .In o=false:=by with_unfolding_all rfl):Et X (.Compare e [.In] [o] pos) σ H T:=
 qK (Ko (VI hu bt bt) hm) (h.mono λy H1 h2=>h2.mono λx H2 ⟨a,r,h3,h4,h5⟩=>⟨a,r,h3,h4,_,rfl,h5⟩)
theorem M0(hu:X.A.units+1 < cLine)(h:Ev X e σ H λy H1=>Ev X o σ H1 λx H2=>∃ a r,x = .ref a/\aV H2 a y r/\T (!r.isSome) H2)(hm:behindInMarks .NotIn o=false:=by with_unfolding_all rfl):Et X (.Compare e [.NotIn] [o] pos) σ H T:=
 qK (Ko (VJ hu bt bt) hm) (h.mono λy H1 h2=>h2.mono λx H2 ⟨a,r,h3,h4,h5⟩=>⟨a,r,h3,h4,_,rfl,h5⟩)
theorem qZ{p2:Pos}(hu:X.A.units+1 < cLine)(h:Ev X f σ H λv H1=>Ev X o σ H1 λx H2=>Ev X e σ H2 λy H3=>∃ a H4,x = .ref a/\bU H3 a y v H4/\Run X rest D σ H4)(hs:swapsWith f (some<|.Subscript o e p2) pos.line X.env=pure false:=by rfl) :
  Run X (.Assign [.Subscript o e p2] f pos :: rest) D σ H:=mZ (VL hu bt bt bt hs) h
end
end L2
namespace bN
open PySem PySem.Spec PyProof.Rows
def lexLt(a b:Int×Int):Bool:=if a.1=b.1 then decide (a.2 < b.2) else decide (a.1 < b.1)
theorem XJ(b:Bool)(x y:Value):keyLt' (tuples' b) x y=(do
  let xs <- Builtin.List.listItems x
  let ys <- Builtin.List.listItems y
  for ((p,q),i) in (xs.toList.zip ys.toList).zipIdx do
   if !(<- eqBool p q) then return <- oneLt' (b && i == 0) p q
  return xs.size < ys.size):=rfl
section
variable{prog:Program}{w:World}{A:Around}{E:Value->Shared->Prop}{s:Shared}
def Pr(h:Heap)(a:Addr)(p:Int×Int):Prop:=∃ o n t u,h.get? a=some o/\o.cls = .type "tuple"/\o.data = .seq #[.int p.1 t,.int p.2 u] n
theorem M1{a b:Int}{t u:Tok}{Q:Bool->Shared->Prop}(h:Q (decide (a=b)) s):wpAny (model prog w) A (eqBool (.int a t)<|.int b u) Q E s:=by
 refine SeqAt.EqAt.int_int a t b u prog w E Q ?_;have e:(a == b)=decide (a=b):=rfl;rw [e];exact h
theorem XM{a b:Int}{t u:Tok}{Q:Bool->Shared->Prop}(h:Q (decide (a < b)) s):wpAny (model prog w) A (oneLt' false (.int a t)<|.int b u) Q E s:=by
 rw [oneLt'_eq];simp only [Bb,CV];refine BJ ?_;show wpAny _ _ (compareOp .Lt (.int a t)<|.int b u) _ _ _;exact lt_int<|FQ h
theorem XN{x y:Addr}{p q:Int×Int}{Q:Bool->Shared->Prop}(hx:Pr s.heap x p)(hy:Pr s.heap y q)(h:Q (lexLt p q) s):wpAny (model prog w) A (keyLt' (tuples' true) (.ref x)<|.ref y) Q E s:=by
 obtain⟨ox,nx,tx,ux,xf,cx,dx⟩:=hx;obtain⟨oy,ny,ty,uy,XO,cy,dy⟩:=hy;rw [XJ];refine BJ<|OD xf dx ?_;refine BJ<|OD XO dy ?_;show wpAny _ _ (forIn [((Value.int p.1 tx,Value.int q.1 ty),0),((Value.int p.2 ux,Value.int q.2 uy),1)] _ _ >>= _) _ _ _;rw [Gm];refine BJ<|BJ ?_
 dsimp only
 refine BJ<|M1 ?_
 by_cases c:p.1=q.1
 ·rw [BW c];simp only [Dw,Bb,CV];refine BK ?_
  dsimp only
  rw [Gm];refine BJ ?_
  dsimp only
  refine BJ<|M1 ?_
  by_cases c2:p.2=q.2
  ·rw [BW c2];simp only [Dw,Bb,CV];refine BK ?_
   dsimp only
   rw [List.forIn_nil];refine BK<|BK ?_;have e:lexLt p q=false:=by unfold lexLt;rw [BP c,c2];simp
   rw [e] at h
   simpa using h
  ·rw [BR c2];simp only [TX,DP];refine BJ<|XM<|BK ?_
   dsimp only
   refine BK<|BK ?_;have e:lexLt p q=decide (p.2 < q.2):=by unfold lexLt;rw [BP c]
   rw [e] at h;exact h
 ·rw [BR c];simp only [TX,DP];refine BJ<|oneLt_int<|BK ?_
  dsimp only
  refine BK<|BK ?_;have e:lexLt p q=decide (p.1 < q.1):=by unfold lexLt;rw [BL c]
  rw [e] at h;exact h
theorem XQ{x y:Value}:(#[x,y]:Array Value).size<=sizeLine+1:=by
 rw [DW];show 2<=_;decide
theorem XR(v:Value):firstOfTuple' v=(do
  if(<- typeOf v) != .type "tuple" then return none
  return (<- Builtin.List.listItems v)[0]?):=rfl
theorem M3{x:Addr}{p:Int×Int}{Q:Option Value->Shared->Prop}(hx:Pr s.heap x p)(h:∀ t,Q (some<|.int p.1 t) s):wpAny (model prog w) A (firstOfTuple'<|.ref x) Q E s:=by
 obtain⟨ox,nx,tx,ux,xf,cx,dx⟩:=hx;rw [XR];refine BJ<|JM (T:= "tuple") ⟨ox,xf,cx⟩ ?_;rw [show(Value.type "tuple" != Value.type "tuple")=false by decide];simp only [Bb,CV];refine BJ<|OD xf dx ?_;exact BK<|h tx
theorem XS{x y:Addr}{p q:Int×Int}{Q:SortKind->Shared->Prop}(hx:Pr s.heap x p)(hy:Pr s.heap y q)(h:Q (tuples' true) s):wpAny (model prog w) A (keyKind' #[.ref x,.ref y]) Q E s:=by
 rw [keyKind'_eq,show(#[.ref x,.ref y]:Array Value)=[.ref x,.ref y].toArray from rfl,List.mapM_toArray];refine BJ<|wpAny_map ?_;rw [List.mapM_cons];refine BJ<|M3 hx λt=>?_;rw [List.mapM_cons];refine BJ<|BJ<|M3 hy λu=>?_;rw [List.mapM_nil];refine BJ<|BK<|BK<|BK ?_;rw [BP<|by simp];refine BJ<|HS ?_;rw [oneTypeOnly'_eq];show wpAny _ _ ((Array.mapM typeOf [Value.int p.1 t,Value.int q.1 u].toArray >>= _) >>= _) _ _ _;rw [List.mapM_toArray];have e1:[Value.int p.1 t,Value.int q.1 u].mapM typeOf=(pure [Value.type "int",Value.type "int"]:Sem _):=rfl;rw [e1];refine BK ?_;have e2:(if((#[Value.type "int",Value.type "int"]:Array Value).all λx=>x == (#[Value.type "int",Value.type "int"]:Array Value)[0])=true then some (#[Value.type "int",Value.type "int"]:Array Value)[0] else none)=some (Value.type "int"):=by
  rw [BP]
  ·rfl
  ·simp
 show Q (tuples'<|Option.any (λx=>x != Value.type "tuple") _) s;rw [e2];exact h
theorem wp_at{st:SortSt}{x y:Addr}{p q:Int×Int}{i j:Nat}{Q:Option Bool->SortSt->Prop}(hk:kindOf st=tuples' true)(hi:(arrOf st)[i]?=some (.ref x,.ref x))(hj:(arrOf st)[j]?=some (.ref y,.ref y))(hx:Pr s.heap x p)(hy:Pr s.heap y q)(h:Q (some<|lexLt p q) st) :
  wpS (model prog w) A E s (ltAt' i j) Q st:=by
 rw [ltAt'_eq];refine FN<|wpS_get ?_;show wpS _ _ _ _ (elem' (arrOf st) i >>= λa=>elem' (arrOf st) j >>= λb=>lt' a b) Q st;rw [elem'_eq,elem'_eq,hi,hj];refine FN<|JH<|FN<|JH ?_;rw [lt'_eq];refine FN<|wpS_get ?_;rw [hk];refine FN<|wpS_lift<|KZ<|XN hx hy ⟨rfl,?_⟩;exact JH h
def kI(x y:Addr)(p q:Int×Int):Array Keyed:=if lexLt q p then #[(.ref y,.ref y),(.ref x,.ref x)] else #[(.ref x,.ref x),(.ref y,.ref y)]
theorem XT{x y:Addr}{p q:Int×Int}{Q:Option Nat->SortSt->Prop}(hx:Pr s.heap x p)(hy:Pr s.heap y q)
  (h:Q (some 2)<|SortSt.mk' (tuples' true) (kI x y p q) #[] 7 none):wpS (model prog w) A E s (countRun' 0 2) Q (SortSt.mk' (tuples' true) #[(.ref x,.ref x),(.ref y,.ref y)] #[] 7 none):=by
 rw [countRun0_eq];refine FN ?_;unfold ascLoop;refine wpS_mono (OJ (I:=λi c st=>st=SortSt.mk' (tuples' true) #[(.ref x,.ref x),(.ref y,.ref y)] #[] 7 none/\c=(none,i)/\(i=2->lexLt q p=false))
  (Q:=λc st=>st=SortSt.mk' (tuples' true) #[(.ref x,.ref x),(.ref y,.ref y)] #[] 7 none/\((c=(none,1)/\lexLt q p=true)\/(c=(none,2)/\lexLt q p=false))) ?_ ?_ ⟨rfl,rfl,λh=>by cases h⟩) ?_
 ·rintro i c st h1 h2 ⟨rfl,rfl,hI⟩;have e:i=1:=by omega
  subst e;refine FN<|wp_at rfl rfl rfl hy hx ?_
  dsimp only
  cases hb:lexLt q p with
  | true=>
   rw [BP rfl];exact JH ⟨rfl,.inl ⟨rfl,rfl⟩⟩
  | false=>
   rw [BL Av];exact JH ⟨rfl,rfl,λ_=>rfl⟩
 ·rintro c st ⟨rfl,rfl,hI⟩;exact⟨rfl,.inr ⟨rfl,hI rfl⟩⟩
 ·rintro c st ⟨rfl,⟨rfl,hb⟩ | ⟨rfl,hb⟩⟩
  ·dsimp only
   rw [BL (by decide),BL<|by decide];unfold descPart;refine FN<|wpS_lift<|HS ⟨rfl,?_⟩;unfold descLoop;refine FN (wpS_mono (OJ (I:=λi c st=>c=(none,2,0)/\st=SortSt.mk' (tuples' true) #[(.ref x,.ref x),(.ref y,.ref y)] #[] 7 none) (Q:=λc st=>c=(none,2,0)/\st=SortSt.mk' (tuples' true) #[(.ref x,.ref x),(.ref y,.ref y)] #[] 7 none) (λi c st h1 h2 _=>by omega) (λc st h=>h) ⟨rfl,rfl⟩) ?_);rintro c st ⟨rfl,rfl⟩
   dsimp only
   rw [BL<|by decide];unfold tail3;refine FN<|wpS_reverse ?_;unfold ascLoop;refine FN (wpS_mono (OJ (I:=λi c st=>c=(none,2)/\st=SortSt.mk' (tuples' true) #[(.ref y,.ref y),(.ref x,.ref x)] #[] 7 none) (Q:=λc st=>c=(none,2)/\st=SortSt.mk' (tuples' true) #[(.ref y,.ref y),(.ref x,.ref x)] #[] 7 none) (λi c st h1 h2 _=>by omega) (λc st h=>h) ⟨rfl,rfl⟩) ?_);rintro c st ⟨rfl,rfl⟩
   dsimp only
   refine JH ?_;unfold kI at h;rw [BP hb] at h;exact h
  ·dsimp only
   rw [BP<|by decide];refine JH ?_;unfold kI at h;rw [BL<|by rw [hb];exact Av] at h;exact h
theorem XU{x y:Addr}{p q:Int×Int}{Q:Unit->SortSt->Prop}(hx:Pr s.heap x p)(hy:Pr s.heap y q)(h:∀ st,arrOf st=kI x y p q->failedOf st=none->Q () st) :
  wpS (model prog w) A E s sortRuns' Q (SortSt.mk' (tuples' true) #[(.ref x,.ref x),(.ref y,.ref y)] #[] 7 none):=by
 rw [sortRuns'_eq];refine FN<|wpS_get ?_
 dsimp only
 have XW:minRun' 2 2 0=2:=by rw [minRun'_succ,BP<|by decide]
 show wpS _ _ _ _ ((forIn [0:2] _ _) >>= _) _ _;have sz:(#[(Value.ref x,Value.ref x),(Value.ref y,Value.ref y)]:Array Keyed).size=2:=rfl;refine FN<|wpS_mono (OJ (I:=λi c st=>(i=0/\c=(none,0)/\st=SortSt.mk' (tuples' true) #[(.ref x,.ref x),(.ref y,.ref y)] #[] 7 none)\/(1<=i/\c=(none,2)/\st=SortSt.mk' (tuples' true) (kI x y p q) #[(0,2,0)] 7 none))
  (Q:=λc st=>c=(none,2)/\st=SortSt.mk' (tuples' true) (kI x y p q) #[(0,2,0)] 7 none) ?_ ?_ (.inl ⟨rfl,rfl,rfl⟩)) ?_
 ·rintro i c st h1 h2 (⟨rfl,rfl,rfl⟩ | ⟨hi,rfl,rfl⟩)
  ·dsimp only
   rw [BL<|by show ¬(0>=2);decide];refine FN ?_;show wpS _ _ _ _ (countRun' 0 2) _ _;refine XT hx hy ?_
   dsimp only
   rw [BL<|by show ¬(2 < minRun' 2 2 0);rw [XW];decide];refine FN<|wpS_get ?_;show wpS _ _ _ _ (modify _ >>= _) _ _;exact FN<|wpS_modify<|JH<|.inr ⟨Al _,rfl,rfl⟩
  ·dsimp only
   rw [BP<|by show 2>=2;decide];exact JH ⟨rfl,rfl⟩
 ·rintro c st (⟨h1,_,_⟩ | ⟨_,hc,hs⟩)
  ·exact absurd h1<|by decide
  ·exact⟨hc,hs⟩
 ·rintro c st ⟨rfl,rfl⟩
  dsimp only
  refine FN<|wpS_mono (OJ (I:=λ_ c st=>st=SortSt.mk' (tuples' true) (kI x y p q) #[(0,2,0)] 7 none/\c=(none,())) (Q:=λc st=>st=SortSt.mk' (tuples' true) (kI x y p q) #[(0,2,0)] 7 none/\c=(none,())) ?_ (λ_ _ hh=>hh) ⟨rfl,rfl⟩) ?_
  ·rintro i c st _ _ ⟨rfl,rfl⟩;refine FN<|wpS_get ?_;rw [BP<|by show 1<=1;decide];exact JH ⟨rfl,rfl⟩
  ·rintro c st ⟨rfl,rfl⟩;exact JH<|h _ rfl rfl
theorem XX{a x y:Addr}{p q:Int×Int}{n:Nat}{P:Fin->Shared->Prop}(ho:s.heap.get? a=some (seqObj "list" #[.ref x,.ref y] n))(XY:a≠x)(XZ:a≠y)(hx:Pr s.heap x p)(hy:Pr s.heap y q)
  (h:P (.done<|.ret .none) {s with heap:=sortedHeap s.heap a [.ref x,.ref y] (if lexLt p q then #[.ref y,.ref x] else #[.ref x,.ref y])}) :
  wpAny (model prog w) A (Builtin.«list.sort» ⟨[.ref a],[(Str.ofString "reverse",.bool true)]⟩) P E s:=by
 rw [list_sort_rev];have ha:a < s.heap.objs.size:=Ay ho;refine BJ<|OD ho rfl ?_;refine BJ<|LC ho rfl ?_;obtain⟨e1,lT⟩:∃ e1,(s.heap.update a<|Obj.mapSeq λ_=>#[]).get? a=some (seqObj "list" #[] e1):=⟨_,get?_update_seq ho λ_=>#[]⟩;refine BJ<|PX lT rfl ?_;refine BJ<|PN ?_;refine BJ<|JT ?_;refine CJ ?_;have o8:(((s.heap.update a<|Obj.mapSeq λ_=>#[]).push<|seqObj "tuple" [Value.ref x,Value.ref y].toArray 0).push<|seqObj "list" #[] 0).get? a=some (seqObj "list" #[] e1):=
  Ag _ (Ag _ lT)
 show wpAny (model prog w) A _ P E {s with heap:=((s.heap.update a<|Obj.mapSeq λ_=>#[]).push<|seqObj "tuple" [Value.ref x,Value.ref y].toArray 0).push (seqObj "list" #[] 0)};have keep:∀ z r,a≠z->Pr s.heap z r->Pr (((s.heap.update a<|Obj.mapSeq λ_=>#[]).push<|seqObj "tuple" [Value.ref x,Value.ref y].toArray 0).push<|seqObj "list" #[] 0) z r:=by
  rintro z r hz ⟨o,m,t,u,q1,q2⟩;exact⟨o,m,t,u,Ag _<|Ag _<|(De _ _ hz).trans q1,q2⟩
 have kx:=keep x p XY hx;have ky:=keep y q XZ hy
 dsimp only
 rw [BP rfl];refine BJ<|HS ?_;rw [BL<|by show ¬(2 < 2);decide];refine BJ<|XS kx ky ?_;rw [BL<|by show ¬(2 < 2);decide];have e2:(if true=true then((#[Value.ref x,Value.ref y]:Array Value).zip #[Value.ref x,Value.ref y]).reverse else(#[Value.ref x,Value.ref y]:Array Value).zip #[Value.ref x,Value.ref y])=#[(Value.ref y,Value.ref y),(Value.ref x,Value.ref x)]:=by
  rw [BP rfl];simp
 rw [e2];refine BJ<|CW (XU (Q:=λ_ st=>arrOf st=kI y x q p/\failedOf st=none) ky kx λst h1 h2=>⟨h1,h2⟩) ?_ λ_ _ e=>e;rintro ⟨⟨⟩,cV⟩ s' ⟨rfl,hs,hf⟩
 dsimp only
 have e3:(if true=true then((arrOf cV).map (·.2)).reverse else(arrOf cV).map (·.2))=(if lexLt p q then #[.ref y,.ref x] else #[.ref x,.ref y]):=by
  rw [BP rfl,hs];unfold kI
  split <;> simp
 refine BJ<|PX o8 rfl ?_;refine BJ (LC o8 rfl ?_ (hsz2:=by rw [e3];split <;> exact XQ));rw [hf];simp only [FT,Bb,CV];refine BK ?_;have e4:(λ_:Array Value=>if True then((arrOf cV).map (·.2)).reverse else(arrOf cV).map (·.2))=λ_=>(if lexLt p q then #[.ref y,.ref x] else #[.ref x,.ref y]):=by
  funext _
  rw [BP trivial];rw [BP rfl] at e3;exact e3
 rw [e4];exact h
theorem X0{l x y:Addr}{p q:Int×Int}{Q:Value->Shared->Prop}(hl:s.heap.IsList l #[.ref x,.ref y])(hx:Pr s.heap x p)(hy:Pr s.heap y q)
  (h:∀(h':Heap) (e:Nat),(∀ b u,s.heap.get? b=some u->h'.get? b=some u)->h'.get? (s.heap.objs.size+1)=some (seqObj "list" (if lexLt p q then #[.ref y,.ref x] else #[.ref x,.ref y]) e)->Q (.ref<|s.heap.objs.size+1) {s with heap:=h'}) :
  wpAny (model prog w) A (call (.builtin "sorted") [.ref l] [(Str.ofString "reverse",.bool true)]) Q E s:=by
 refine call_function_entry_kw kind_sorted plain_sorted entry_sorted (args_sorted_rev _ _) ?_;unfold Builtin.«sorted»;refine BJ (m:=checkCount "sorted" 1 1 _)<|BK ?_;refine BJ<|collect_list (vs:=[.ref x,.ref y]) hl ?_;refine BJ<|JT ?_;have hsz:((s.heap.push<|seqObj "list" #[] 0).update s.heap.objs.size (Obj.mapSeq (·++[Value.ref x,Value.ref y].toArray))).objs.size=s.heap.objs.size+1:=by
  rw [Heap.size_update,size_push']
 have jG:(((s.heap.push<|seqObj "list" #[] 0).update s.heap.objs.size (Obj.mapSeq (·++[Value.ref x,Value.ref y].toArray))).push<|seqObj "list" [Value.ref x,Value.ref y].toArray 0).get? (s.heap.objs.size+1)=some (seqObj "list" [Value.ref x,Value.ref y].toArray 0):=by
  rw [<- hsz];exact At _ rfl
 have lx:x < s.heap.objs.size:=let ⟨_,_,_,_,e,_⟩:=hx;Ay e
 have ly:y < s.heap.objs.size:=let ⟨_,_,_,_,e,_⟩:=hy;Ay e
 have keep:∀ z r,Pr s.heap z r->Pr (((s.heap.push<|seqObj "list" #[] 0).update s.heap.objs.size (Obj.mapSeq (·++[Value.ref x,Value.ref y].toArray))).push<|seqObj "list" [Value.ref x,Value.ref y].toArray 0) z r:=by
  rintro z r ⟨o,m,t,u,q1,q2⟩;have hz:=Ay q1;exact⟨o,m,t,u,Ag _<|(De _ _<|Cy hz).trans<|Ag _ q1,q2⟩
 show wpAny _ _ _ _ _ {s with heap:=((s.heap.push<|seqObj "list" #[] 0).update s.heap.objs.size (Obj.mapSeq (·++[Value.ref x,Value.ref y].toArray))).push (seqObj "list" [Value.ref x,Value.ref y].toArray 0)};rw [hsz];refine BJ<|CJ<|wpAny_call_entry_kw slot_list_sort ⟨_,jG,rfl⟩ entry_list_sort (XX jG (Cy<|By lx) (Cy<|By ly) (keep x p hx) (keep y q hy) ⟨_,rfl,?_⟩)<|args_list_sort_rev _ _;obtain⟨e,he⟩:=sortedAll_at s.heap [Value.ref x,Value.ref y] (if lexLt p q then #[.ref y,.ref x] else #[.ref x,.ref y]);exact BK ⟨_,rfl,h _ e (λb u hb=>sortedAll_old hb) he⟩
end
end bN
namespace L2
open PySem PySem.Spec PyProof.Rows bN
section
variable{X:Cx}{e:Expr}{σ:St}{H:Hp}{Q:VK}{pos p kp cp:Pos}{j:Nat}
theorem M4{pins:List (Addr×Obj)}{s:Shared}{a:Addr}{i j:Int}(I:Inv X pins σ H s)(h:H a=some (.tup [.int i,.int j])):Pr s.heap a (i,j):=by
 obtain⟨its,r,pl,_⟩:=I.tuple<|aJ.of h;obtain⟨u,v,rfl,⟨t,rfl⟩,⟨t',rfl⟩⟩:=vals2 r;obtain⟨o,ho,hc,n,hd⟩:=pl;exact⟨o,n,t,t',ho,hc,hd⟩
theorem X1(hm:X.mg "sorted" = none) (h:Ev X e σ H λv H1=>∃ l x y a b c d,v = .ref l/\H1 l=some (.lst [.ref x,.ref y])/\H1 x=some (.tup [.int a,.int b])/\H1 y=some (.tup [.int c,.int d]) /\
   ∀ r,H1 r=none->Q (.ref r) (upd H1 r<|.lst (if lexLt (a,b) (c,d) then [.ref y,.ref x] else [.ref x,.ref y]))) (hg:Gl X "sorted":=by rfl)
  (he:backTo pos (starEach [e] X.env)=(false,eval e X.env) :: backTo pos (starEach [] X.env):=by rfl) (bX:(backTo pos<|starEach [e] X.env).any (·.1)=false:=by rfl) (c9:isStar e=false:=by rfl) :
  Ev X (.Call (.Name "sorted" p) [e] [⟨some "reverse",.Constant (.bool true) j cp,kp⟩] pos) σ H Q:=by
 refine⟨λpins s I=>?_⟩;refine KD<|oi I hg hm DR ?_;have hE:Ea X [e] σ H λvs H1=>∃ l x y a b c d,vs=[.ref l]/\H1 l=some (.lst [.ref x,.ref y])/\H1 x=some (.tup [.int a,.int b])/\H1 y=some (.tup [.int c,.int d]) /\
   ∀ r,H1 r=none->Q (.ref r) (upd H1 r<|.lst (if lexLt (a,b) (c,d) then [.ref y,.ref x] else [.ref x,.ref y])):=
  ah (h.mono λv H1 ⟨l,x,y,a,b,c,d,e1,r1⟩=>ay ⟨l,x,y,a,b,c,d,by rw [e1],r1⟩) c9
 refine callWith_kw (aQ (hE.run pos pins s I) λus s1 ⟨vs,H1,I1,r1,l,x,y,a,b,c,d,ev,hl,hx,hy,q⟩=>?_) he bX;subst ev;obtain⟨u,rfl,ru⟩:=vals1 r1;cases (show u=Value.ref l from ru);refine kws_cons<|BK<|kws_nil ?_;obtain⟨its,r2,pl,_⟩:=I1.list<|aq.of hl;obtain⟨u,v,rfl,ru,rv⟩:=vals2 r2;cases (show u=Value.ref x from ru);cases (show v=Value.ref y from rv);refine X0 pl.isList (M4 I1 hx) (M4 I1 hy) λh' e kp he=>?_;refine⟨.ref _,_,I1.eG (s':={s1 with heap:=h'}) kp rfl rfl (Eh _) (show aD X.prog X.w _ h' _ (.lst (if lexLt (a,b) (c,d) then [.ref y,.ref x] else [.ref x,.ref y])) from ?_),rfl,q _<|I1.aG.fresh<|Eh _⟩
 split at he
 ·rename_i hb;rw [BP hb];exact⟨by show 2<=sizeLine;rw [DW];decide,[.ref y,.ref x],e,.cons rfl (.cons rfl .nil),he⟩
 ·rename_i hb;rw [BL hb];exact⟨by show 2<=sizeLine;rw [DW];decide,[.ref x,.ref y],e,.cons rfl (.cons rfl .nil),he⟩
end
end L2
namespace Nt
open PySem
abbrev Net:=List<|Str×List Str
abbrev End:=Nat×Nat
def row(n:Net)(r:Nat):List Str:=((n[r]?).map (·.2)).getD []
def aK(n:Net)(e:End):Option Str:=(row n e.1)[e.2]?
def bu(r:Nat)(ts:List Str)(p:Nat):List (Str×End):=(ts.zipIdx p).map λx=>(x.1,(r,x.2))
def fe(r:Nat):Net->List (Str×End)
 | []=>[]
 | a :: n=>bu r a.2 0++fe (r+1) n
def bo(n:Net):List (Str×End):=fe 0 n
def ends(n:Net):List End:=(bo n).map (·.2)
def ag(n:Net):List Str:=n.flatMap (·.2)
def pos(n:Net)(z:Str):List End:=((bo n).filter λx=>decide (x.1=z)).map (·.2)
theorem bF{r:Nat}{ts:List Str}{p:Nat}{z:Str}{e:End}:(z,e)∈bu r ts p↔e.1=r/\p<=e.2/\ts[e.2 - p]?=some z:=by
 unfold bu;rw [An]
 constructor
 ·rintro ⟨⟨y,k⟩,hm,he⟩;cases he;have:=Fe.mp hm;exact⟨rfl,this.1,this.2⟩
 ·rintro ⟨h1,h2,h3⟩;refine⟨(z,e.2),Fe.mpr ⟨h2,h3⟩,?_⟩;rw [<- h1]
theorem bR:∀{n:Net} {k:Nat} {z:Str} {e:End},(z,e)∈fe k n↔k<=e.1/\(row n<|e.1 - k)[e.2]?=some z
 | [],k,z,e=>by
  constructor
  ·intro h;cases h
  ·rintro ⟨_,h⟩;simp [row] at h
 | a :: n,k,z,e=>by
  unfold fe;rw [Am,bF,bR]
  constructor
  ·rintro (⟨h1,_,h3⟩ | ⟨h1,h2⟩)
   ·refine⟨by omega,?_⟩;rw [show e.1 - k=0 by omega]
    simpa [row] using h3
   ·refine⟨by omega,?_⟩;rw [show e.1 - k=(e.1 - (k+1))+1 by omega]
    simpa [row] using h2
  ·rintro ⟨h1,h2⟩
   rcases Dg k e.1 with h | h
   ·refine .inr ⟨h,?_⟩;rw [show e.1 - k=(e.1 - (k+1))+1 by omega] at h2
    simpa [row] using h2
   ·refine .inl ⟨by omega,Bx _,?_⟩;rw [show e.1 - k=0 by omega] at h2
    simpa [row] using h2
theorem aT{n:Net}{z:Str}{e:End}:(z,e)∈bo n↔aK n e=some z:=by
 unfold bo aK;rw [bR];simp
theorem af{n:Net}{e:End}:e∈ends n↔∃ z,aK n e=some z:=by
 unfold ends;rw [An]
 constructor
 ·rintro ⟨⟨z,e'⟩,h,rfl⟩;exact⟨z,aT.mp h⟩
 ·rintro ⟨z,h⟩;exact⟨(z,e),aT.mpr h,rfl⟩
theorem aM{n:Net}{z:Str}{e:End}:e∈pos n z↔aK n e=some z:=by
 unfold pos;rw [An]
 constructor
 ·rintro ⟨⟨y,e'⟩,h,rfl⟩;rw [Bh,DN] at h;obtain⟨h1,h2⟩:=h;subst h2;exact aT.mp h1
 ·intro h;exact⟨(z,e),Bh.mpr ⟨aT.mpr h,by simp⟩,rfl⟩
theorem X2(r:Nat):∀(ts:List Str) (p:Nat),(bu r ts p).map (·.1)=ts:=by
 intro ts p;unfold bu;rw [Ca];have:((λx:Str×End=>x.1) ∘ λx:Str×Nat=>(x.1,(r,x.2)))=Prod.fst:=rfl;rw [this,List.zipIdx_map_fst]
theorem kJ:∀(n:Net) (k:Nat),(fe k n).map (·.1)=ag n
 | [],_=>rfl
 | a :: n,k=>by
  unfold fe ag;rw [Aj,X2,kJ n<|k+1,Cd];rfl
theorem X3(r:Nat)(ts:List Str)(p:Nat):((bu r ts p).map (·.2)).Nodup:=by
 unfold bu;rw [Ca];have e:((λx:Str×End=>x.2) ∘ λx:Str×Nat=>(x.1,(r,x.2)))=(λk:Nat=>(r,k)) ∘ Prod.snd:=rfl;rw [e,<- Ca,List.zipIdx_map_snd];refine QS _ (R:=(·≠·)) ?_ List.nodup_range';intro a b h fY;exact h (Prod.mk.inj fY).2
theorem M5:∀(n:Net) (k:Nat),((fe k n).map (·.2)).Nodup
 | [],_=>Ch
 | a :: n,k=>by
  unfold fe;rw [Aj,Ci];refine⟨X3 _ _ _,M5 n<|k+1,?_⟩;intro x hx y hy e;subst e;obtain⟨⟨z,e1⟩,h1,rfl⟩:=An.mp hx;obtain⟨⟨z2,e2⟩,h2,he⟩:=An.mp hy;simp only at he;subst he;have q1:=(bF.mp h1).1;have q2:=(bR.mp h2).1;omega
theorem ra(n:Net):(ends n).Nodup:=M5 n 0
theorem M6(n:Net)(z:Str):(pos n z).Nodup:=by
 unfold pos;exact(ra n).sublist<|List.Sublist.map _<|List.filter_sublist
theorem o9(n:Net)(z:Str):(pos n z).length=(ag n).count z:=by
 unfold pos;rw [Aa,<- kJ n 0,<- List.countP_eq_length_filter,List.count,List.countP_map];rfl
def ax(n:Net):Prop:=∀ z∈ag n,(ag n).count z=2
theorem dZ{n:Net}{e:End}{z:Str}(h:aK n e=some z):z∈ag n:=by
 have:=aT.mpr h;rw [<- kJ n 0];exact An.mpr ⟨_,this,rfl⟩
def other(n:Net)(e:End):End:=match aK n e with
 | some z=>(match pos n z with
  | [a,b]=>if a=e then b else a
  | _=>e)
 | none=>e
theorem pc{n:Net}(T:ax n){e:End}{z:Str}(h:aK n e=some z):∃ a b,pos n z=[a,b]/\a≠b/\(e=a\/e=b):=by
 have hl:=o9 n z;rw [T z<|dZ h] at hl;have hn:=M6 n z;have hm:=aM.mpr h
 match hp:pos n z,hl with
 | [a,b],_=>
  rw [hp] at hn hm;refine⟨a,b,rfl,?_,?_⟩
  ·intro e;subst e;simp at hn
  ·simpa using hm
theorem dG{n:Net}(T:ax n){e:End}{z:Str}(h:aK n e=some z):aK n (other n e)=some z/\other n (other n e)=e/\other n e≠e:=by
 obtain⟨a,b,hp,fY,he⟩:=pc T h;have ha:aK n a=some z:=aM.mp (by rw [hp];simp);have hb:aK n b=some z:=aM.mp<|by rw [hp];simp
 rcases he with rfl | rfl
 ·have e1:other n e=b:=by unfold other;simp only [h,hp];simp
  have e2:other n b=e:=by unfold other;simp only [hb,hp];simp [fY]
  rw [e1];exact⟨hb,e2,fY.symm⟩
 ·have e1:other n e=a:=by unfold other;simp only [h,hp];simp [fY]
  have e2:other n a=e:=by unfold other;simp only [ha,hp];simp
  rw [e1];exact⟨ha,e2,fY⟩
def left(n:Net)(e:End):End:=(e.1,(e.2+1) % (row n e.1).length)
def step(n:Net)(e:End):End:=left n (other n e)
theorem f9{n:Net}{e:End}{z:Str}(h:aK n e=some z):e.2 < (row n e.1).length:=(Ac.mp h).1
theorem cN{n:Net}{e:End}{z:Str}(h:aK n e=some z):e.1 < n.length:=by
 rcases Dg e.1 n.length with c | c
 ·exact c
 ·have:=f9 h;unfold row at this;rw [Bd c] at this;simp at this
theorem xg{n:Net}{e:End}(h:e.2 < (row n e.1).length):∃ z,aK n e=some z:=⟨_,Ab h⟩
theorem X4{n:Net}{e:End}(h:e∈ends n):left n e∈ends n:=by
 obtain⟨z,h⟩:=af.mp h;have:=f9 h;exact af.mpr<|xg (show(e.2+1) % (row n e.1).length < (row n e.1).length from Gp _<|by omega)
theorem cZ{n:Net}(T:ax n){e:End}(h:e∈ends n):other n e∈ends n:=by
 obtain⟨z,h⟩:=af.mp h;exact af.mpr ⟨z,(dG T h).1⟩
theorem rg{n:Net}(T:ax n){e:End}(h:e∈ends n):step n e∈ends n:=X4<|cZ T h
theorem X5{n:Net}{a b:End}(ha:a∈ends n)(hb:b∈ends n)(h:left n a=left n b):a=b:=by
 obtain⟨z,ha⟩:=af.mp ha;obtain⟨y,hb⟩:=af.mp hb;have la:=f9 ha;have lb:=f9 hb;unfold left at h;obtain⟨h1,h2⟩:=Prod.mk.inj h;rw [h1] at la h2;have:a.2=b.2:=by
  rcases Dg (a.2+1) (row n b.1).length with c | c <;> rcases Dg (b.2+1) (row n b.1).length with d | d
  ·rw [Cb c,Cb d] at h2;omega
  ·have e:b.2+1=(row n b.1).length:=by omega
   rw [Cb c,e,Ed] at h2;omega
  ·have e:a.2+1=(row n b.1).length:=by omega
   rw [Cb d,e,Ed] at h2;omega
  ·omega
 exact GX h1 this
theorem M7{n:Net}(T:ax n){a b:End}(ha:a∈ends n)(hb:b∈ends n)(h:other n a=other n b):a=b:=by
 obtain⟨z,ha⟩:=af.mp ha;obtain⟨y,hb⟩:=af.mp hb;rw [<- (dG T ha).2.1,h,(dG T hb).2.1]
theorem M8{n:Net}(T:ax n){a b:End}(ha:a∈ends n)(hb:b∈ends n)(h:step n a=step n b):a=b:=
 M7 T ha hb (X5 (cZ T ha) (cZ T hb) h)
theorem aX{α:Type} [DecidableEq α]:∀{a b:List α},a.Nodup->(∀ z∈a,z∈b)->a.length<=b.length
 | [],b,_,_=>Bx _
 | x :: r,b,hn,hs=>by
  rw [Be] at hn;have hx:=hs x Ae;have:=aX (a:=r) (b:=b.erase x) hn.2 λz hz=>by
   have bw:z≠x:=λe=>hn.1<|e ▸ hz;exact(Ff bw).mpr<|hs z<|Ai _ hz
  rw [Fr hx] at this;have hp:0 < b.length:=SX hx;rw [Aq];omega
def it{α:Type}(f:α->α):Nat->α->α
 | 0,a=>a
 | k+1,a=>f<|it f k a
theorem jT{α:Type}{f:α->α}{S:List α}(hf:∀ a∈S,f a∈S){a:α}(h:a∈S):∀ k,it f k a∈S
 | 0=>h
 | k+1=>hf _<|jT hf h k
theorem CH{α:Type} [DecidableEq α] {f:α->α} {S:List α} (hf:∀ a∈S,f a∈S) (inj:∀ a∈S,∀ b∈S,f a=f b->a=b) {a:α} (h:a∈S):∃ k,0 < k/\k<=S.length/\it f k a=a:=by
 have cancel:∀ i j,it f i a=it f (i+j) a->it f j a=a:=by
  intro i
  induction i with
  | zero=>intro j e;rw [Ex] at e;exact e.symm
  | succ i ih=>
   intro j e;refine ih j ?_;rw [show i+1+j=(i+j)+1 by omega] at e;exact inj _ (jT hf h i) _ (jT hf h<|i+j) e
 refine DQ λhn=>?_;have nd:((List.range<|S.length+1).map λi=>it f i a).Nodup:=by
  refine QS _ (R:=λi j=>i < j/\j < S.length+1) ?_ ?_
  ·rintro i j ⟨h1,h2⟩ e;refine hn ⟨j - i,by omega,by omega,cancel i (j - i) ?_⟩;rw [show i+(j - i)=j by omega];exact e
  ·rw [Bn];intro i j hi hj d3;simp only [Ey];simp at hj;exact⟨d3,hj⟩
 have:=aX nd λz hz=>by
  obtain⟨i,_,rfl⟩:=An.mp hz;exact jT hf h i
 simp at this;omega
theorem iq:∀(n:Net) (r:Nat),(row n r).length<=(ag n).length
 | [],r=>by simp [row,ag]
 | a :: n,0=>by simp [row,ag]
 | a :: n,r+1=>by
  have:=iq n r;simp [row,ag] at this ⊢;omega
theorem M9:∀(n:Net) (r:Nat),(ag<|n.take r).length<=(ag n).length
 | [],r=>by simp [ag]
 | a :: n,0=>by simp [ag]
 | a :: n,r+1=>by
  have:=M9 n r;simp [ag] at this ⊢;omega
structure fh(n:Net)(e:Nt.End)(fs:List End):Prop where
 pos:0 < fs.length
 len:fs.length<=(ends n).length
 at':∀ i,i < fs.length->fs[i]?=some (it (step n) i e)
 back:it (step n) fs.length e=e
 first:∀ i,0 < i->i < fs.length->it (step n) i e≠e
open L2
abbrev Ls(zs:List Str):HO:= .lst<|zs.map V.str
abbrev Tp(e:End):HO:= .tup [.int e.1,.int e.2]
structure ai(H:Hp)(R:Addr)(as:List<|Addr×Addr)(n:Net):Prop where
 len:as.length=n.length
 lst:H R=some (.lst<|as.map λa=> .ref a.1)
 tup:∀(i:Nat) a r,as[i]?=some a->n[i]?=some r->H a.1=some (.tup [.str r.1,.ref a.2])/\H a.2=some (Ls r.2)
 inj:(as.map (·.2)).Nodup
theorem ai.same{H H':Hp}{R:Addr}{as:List (Addr×Addr)}{n:Net}(h:ai H R as n)(s:aj H H'):ai H' R as n:=
 ⟨h.len,s _ _ h.lst,λi a r h1 h2=>⟨s _ _ (h.tup i a r h1 h2).1,s _ _ (h.tup i a r h1 h2).2⟩,h.inj⟩
theorem ai.at{H:Hp}{R:Addr}{as:List (Addr×Addr)}{n:Net}(h:ai H R as n){i:Nat}(hi:i < n.length) :
  ∃ a,as[i]?=some a/\dD (as.map λa=>V.ref a.1) (i:Int)=some (.ref a.1)/\H a.1=some (.tup [.str n[i].1,.ref a.2])/\H a.2=some (Ls<|row n i)/\row n i=n[i].2:=by
 have hl:=h.len;have e:as[i]?=some as[i]:=Ab (by omega);have er:row n i=n[i].2:=by unfold row;rw [Ab hi];rfl
 have q:=h.tup i as[i] n[i] e<|Ab hi;refine⟨as[i],e,qG (by rw [Ah,e];rfl),q.1,?_,er⟩;rw [er];exact q.2
theorem pf{zs:List Str}{j:Nat}{z:Str}(h:zs[j]?=some z):dD (zs.map V.str) (j:Int)=some (.str z):=qG<|by rw [Ah,h];rfl
inductive Pd (H:Hp):List Addr->List End->Prop where
 | nil:Pd H [] []
 | cons {t:Addr} {e:End} {ts:List Addr} {es:List End}:H t=some (Tp e)->Pd H ts es->Pd H (t :: ts) (e :: es)
theorem Pd.append{H:Hp}{ts us:List Addr}{es fs:List End}(h:Pd H ts es)(g:Pd H us fs):Pd H (ts++us) (es++fs):=by
 induction h with
 | nil=>exact g
 | cons h1 _ ih=>exact .cons h1 ih
theorem Pd.keep{H H':Hp}{ts:List Addr}{es:List End}(h:Pd H ts es)(k:∀ t e,H t=some (Tp e)->H' t=some (Tp e)):Pd H' ts es:=by
 induction h with
 | nil=>exact .nil
 | cons h1 _ ih=>exact .cons (k _ _ h1) ih
theorem Pd.length{H:Hp}{ts:List Addr}{es:List End}(h:Pd H ts es):ts.length=es.length:=by
 induction h with
 | nil=>rfl
 | cons _ _ ih=>rw [Aq,Aq,ih]
theorem Pd.at{H:Hp}{ts:List Addr}{es:List End}(h:Pd H ts es):∀{i:Nat} {e:End},es[i]?=some e->∃ t,ts[i]?=some t/\H t=some (Tp e):=by
 induction h with
 | nil=>intro i e h;simp at h
 | cons h1 _ ih=>
  intro i e h;cases i with
  | zero=>simp at h;subst h;exact⟨_,rfl,h1⟩
  | succ i=>simp only [Fx] at h ⊢;exact ih h
def bG(done:List<|Str×End)(z:Str):List End:=(done.filter λx=>decide (x.1=z)).map (·.2)
theorem de(done:List<|Str×End)(y z:Str)(e:End):bG (done++[(y,e)]) z=bG done z++(if y=z then [e] else []):=by
 unfold bG;rw [Cn,Aj]
 congr 1
 by_cases h:y=z
 ·rw [BP h];simp [h]
 ·rw [BL h];simp [h]
structure bd(H0 H:Hp)(d:Addr)(done:List<|Str×End)(kvs:List<|Key×V)(ks:List Str)(A:Str->Option (Addr×List Addr)):Prop where
 same:aj H0 H
 free:H0 d=none
 dict:H d=some (.dK kvs)
 keys:kvs.map (·.1)=ks.map Sum.inr
 nodup:ks.Nodup
 mem:∀ z,z∈ks↔(A z).isSome=true
 val:∀ z,aB kvs (Sum.inr z)=(A z).map λa=> .ref a.1
 at':∀ z a ts,A z=some (a,ts)->H0 a=none/\a≠d/\H a=some (.lst<|ts.map V.ref)/\Pd H ts (bG done z)
 inj:∀ z y a ts us,A z=some (a,ts)->A y=some (a,us)->z=y
 ga:∀ z,A z=none->bG done z=[]
 some':∀ z a ts,A z=some (a,ts)->bG done z≠[]
theorem bd.start{H:Hp}{d:Addr}(h:H d=none):bd H (upd H d<|.dK []) d [] [] [] (λ_=>none) where
 same:=λb u q=>by rw [av<|bg q h];exact q
 free:=h
 dict:=aw
 keys:=rfl
 nodup:=Ch
 mem:=λz=>by simp
 val:=λz=>rfl
 at':=λz a ts h=>by cases h
 inj:=λz y a ts us h=>by cases h
 ga:=λz _=>rfl
 some':=λz a ts h=>by cases h
theorem tO{H:Hp}{t a:Addr}{e:End}{xs:List V}(h:H t=some (Tp e))(g:H a=some (.lst xs)):t≠a:=ce h g λz=>nomatch z
theorem bd.old{H0 H:Hp}{d:Addr}{done:List (Str×End)}{kvs:List (Key×V)}{ks:List Str}{A:Str->Option (Addr×List Addr)}(S:bd H0 H d done kvs ks A){z:Str}{e:End}{a l0 t:Addr}{ts:List Addr}
  (hA:A z=some (a,ts)) (hl:H l0=none) (ht:(upd H l0<|.lst []) t=none) :
  bd H0 (upd (upd (upd H l0<|.lst []) t<|Tp e) a<|.lst<|ts.map V.ref++[.ref t]) d (done++[(z,e)]) kvs ks (λy=>if y=z then some (a,ts++[t]) else A y):=by
 obtain⟨q1,q2,q3,q4⟩:=S.at' z a ts hA;have xh:H t=none:=by
  by_cases c:t=l0
  ·rw [c,aw] at ht;cases ht
  ·rwa [av c] at ht
 have xi:l0≠a:=(bg q3 hl).symm;have xj:t≠a:=(bg q3 xh).symm;have gW:a≠t:=xj.symm;have keep:∀ b u,b≠a->H b=some u->(upd (upd (upd H l0<|.lst []) t<|Tp e) a<|.lst<|ts.map V.ref++[.ref t]) b=some u:=λb u h1 h2=>by
  rw [av h1,av<|bg h2 xh,av<|bg h2 hl];exact h2
 have kt:∀ b f,H b=some (Tp f)->(upd (upd (upd H l0<|.lst []) t<|Tp e) a<|.lst<|ts.map V.ref++[.ref t]) b=some (Tp f):=λb f h=>keep b _ (tO h q3) h;have et:(upd (upd (upd H l0<|.lst []) t<|Tp e) a<|.lst<|ts.map V.ref++[.ref t]) t=some (Tp e):=by rw [av xj,aw]
 refine⟨λb u h=>?_,S.free,keep d _ (CG q2) S.dict,S.keys,S.nodup,λy=>?_,λy=>?_,λy a' iu h=>?_,λy y' a' iu us h1 h2=>?_,λy h=>?_,λy a' iu h=>?_⟩
 ·exact keep b u (bg h q1)<|S.same _ _ h
 ·rw [S.mem y]
  by_cases c:y=z
  ·rw [BP c,c,hA];simp
  ·rw [BL c]
 ·rw [S.val y]
  by_cases c:y=z
  ·rw [BP c,c,hA];rfl
  ·rw [BL c]
 ·by_cases c:y=z
  ·rw [BP c] at h;cases h;refine⟨q1,q2,by rw [aw,Aj];rfl,?_⟩;rw [de,c,BP rfl];exact(q4.keep kt).append<|.cons et .nil
  ·rw [BL c] at h;obtain⟨r1,r2,r3,r4⟩:=S.at' y a' iu h;have bw:a'≠a:=λe2=>c<|S.inj y z a iu ts (e2 ▸ h) hA;refine⟨r1,r2,keep _ _ bw r3,?_⟩;rw [de,BL λh=>c h.symm,Bi];exact r4.keep kt
 ·by_cases c:y=z <;> by_cases c':y'=z
  ·rw [c,c']
  ·rw [BP c] at h1;rw [BL c'] at h2;cases h1;exact absurd (S.inj y' z a us ts h2 hA) c'
  ·rw [BL c] at h1;rw [BP c'] at h2;cases h2;exact absurd (S.inj y z a iu ts h1 hA) c
  ·rw [BL c] at h1;rw [BL c'] at h2;exact S.inj y y' a' iu us h1 h2
 ·by_cases c:y=z
  ·rw [BP c] at h;cases h
  ·rw [BL c] at h;rw [de,BL λh=>c h.symm,Bi];exact S.ga y h
 ·by_cases c:y=z
  ·rw [de,BP c.symm];simp
  ·rw [BL c] at h;rw [de,BL λh=>c h.symm,Bi];exact S.some' y a' iu h
theorem bd.new{H0 H:Hp}{d:Addr}{done:List (Str×End)}{kvs:List (Key×V)}{ks:List Str}{A:Str->Option (Addr×List Addr)}(S:bd H0 H d done kvs ks A){z:Str}{e:End}{l0 t:Addr}
  (hA:A z=none) (hl:H l0=none) (ht:(upd (upd H l0<|.lst []) d<|.dK<|putK kvs (Sum.inr z)<|.ref l0) t=none) :
  bd H0 (upd (upd (upd (upd H l0<|.lst []) d<|.dK<|putK kvs (Sum.inr z)<|.ref l0) t<|Tp e) l0<|.lst [.ref t]) d (done++[(z,e)]) (putK kvs (Sum.inr z)<|.ref l0) (ks++[z]) (λy=>if y=z then some (l0,[t]) else A y):=by
 have gD:d≠l0:=bg S.dict hl;have CI:t≠d:=λc=>by rw [c,aw] at ht;cases ht
 have js:t≠l0:=λc=>by rw [av CI,c,aw] at ht;cases ht
 have xh:H t=none:=by rwa [av CI,av js] at ht
 have vn:aB kvs (Sum.inr z)=none:=by rw [S.val z,hA];rfl
 have keep:∀ b u,b≠d->H b=some u->(upd (upd (upd (upd H l0<|.lst []) d<|.dK<|putK kvs (Sum.inr z)<|.ref l0) t<|Tp e) l0<|.lst [.ref t]) b=some u:=λb u h1 h2=>by
  rw [av<|bg h2 hl,av<|bg h2 xh,av h1,av<|bg h2 hl];exact h2
 have kt:∀ b f,H b=some (Tp f)->(upd (upd (upd (upd H l0<|.lst []) d<|.dK<|putK kvs (Sum.inr z)<|.ref l0) t<|Tp e) l0<|.lst [.ref t]) b=some (Tp f):=λb f h=>keep b _ (ce h S.dict λz=>nomatch z) h;have X6:H0 l0=none:=S.same.free hl;have zk:z∉ks:=λh=>by
  have:=(S.mem z).mp h;rw [hA] at this;cases this
 refine⟨λb u h=>?_,S.free,?_,?_,?_,λy=>?_,λy=>?_,λy a' iu h=>?_,λy y' a' iu us h1 h2=>?_,λy h=>?_,λy a' iu h=>?_⟩
 ·exact keep b u (bg h S.free)<|S.same _ _ h
 ·rw [av gD,av CI.symm,aw]
 ·rw [zY _ vn,Aj,S.keys,Aj];rfl
 ·rw [Ci];exact⟨S.nodup,by simp,λx hx y hy e=>by rw [Ad] at hy;subst hy e;exact zk hx⟩
 ·rw [Am,Ad,S.mem y]
  by_cases c:y=z
  ·rw [BP c];simp [c]
  ·rw [BL c];simp [c]
 ·rw [db]
  by_cases c:y=z
  ·rw [BP (by rw [c]),BP c];rfl
  ·rw [BL λh=>c<|Sum.inr.inj h,BL c,S.val y]
 ·by_cases c:y=z
  ·rw [BP c] at h;cases h;refine⟨X6,gD.symm,by rw [aw];rfl,?_⟩;rw [de,c,BP rfl,S.ga z hA];exact .cons (by rw [av js,aw]) .nil
  ·rw [BL c] at h;obtain⟨r1,r2,r3,r4⟩:=S.at' y a' iu h;refine⟨r1,r2,keep _ _ r2 r3,?_⟩;rw [de,BL λh=>c h.symm,Bi];exact r4.keep kt
 ·by_cases c:y=z <;> by_cases c':y'=z
  ·rw [c,c']
  ·rw [BP c] at h1;rw [BL c'] at h2;cases h1;exact absurd hl<|by rw [(S.at' y' l0 us h2).2.2.1];exact λh=>nomatch h
  ·rw [BL c] at h1;rw [BP c'] at h2;cases h2;exact absurd hl<|by rw [(S.at' y l0 iu h1).2.2.1];exact λh=>nomatch h
  ·rw [BL c] at h1;rw [BL c'] at h2;exact S.inj y y' a' iu us h1 h2
 ·by_cases c:y=z
  ·rw [BP c] at h;cases h
  ·rw [BL c] at h;rw [de,BL λh=>c h.symm,Bi];exact S.ga y h
 ·by_cases c:y=z
  ·rw [de,BP c.symm];simp
  ·rw [BL c] at h;rw [de,BL λh=>c h.symm,Bi];exact S.some' y a' iu h
theorem CL:∀(n m:Net) (k:Nat),fe k (n++m)=fe k n++fe (k+n.length) m
 | [],m,k=>rfl
 | a :: n,m,k=>by
  show bu k a.2 0++fe (k+1) (n++m)=(bu k a.2 0++fe (k+1) n)++fe (k+(n.length+1)) m;rw [CL n m<|k+1,Ar,show k+1+n.length=k+(n.length+1) by omega]
theorem rh{n:Net}{r:Nat}(h:r < n.length):bo (n.take<|r+1)=bo (n.take r)++bu r (row n r) 0:=by
 unfold bo;rw [Cg,Ab h,CL];have e:(n.take r).length=r:=by rw [Bf];omega
 rw [e,Ex];have er:row n r=n[r].2:=by unfold row;rw [Ab h];rfl
 rw [er];show _++(bu r n[r].2 0++[])=_;rw [Bi]
theorem ph{r:Nat}{ts:List Str}{p:Nat}{z:Str}(h:ts[p]?=some z):bu r (ts.take<|p+1) 0=bu r (ts.take p) 0++[(z,(r,p))]:=by
 unfold bu;have hp:=(Ac.mp h).1;rw [Cg,h,List.zipIdx_append,Aj];have e:(ts.take p).length=p:=by rw [Bf];omega
 rw [e,Ex];rfl
structure bH(H:Hp)(d:Addr)(n:Net)(ks:List Str):Prop where
 dict:∃ kvs,H d=some (.dK kvs)/\kvs.map (·.1)=ks.map Sum.inr/\∀ z∈ag n,∃ a ts,aB kvs (Sum.inr z)=some (.ref a)/\H a=some (.lst<|ts.map V.ref)/\Pd H ts (pos n z)
 nodup:ks.Nodup
 mem:∀ z,z∈ks↔z∈ag n
theorem bH.same{H H':Hp}{d:Addr}{n:Net}{ks:List Str}(S:bH H d n ks)(s:aj H H'):bH H' d n ks:=by
 obtain⟨kvs,h1,h2,h3⟩:=S.dict;refine⟨⟨kvs,s _ _ h1,h2,λz hz=>?_⟩,S.nodup,S.mem⟩;obtain⟨a,ts,q1,q2,q3⟩:=h3 z hz;exact⟨a,ts,q1,s _ _ q2,q3.keep λt e h=>s _ _ h⟩
theorem cO{n:Net}{z:Str}:z∈ag n↔pos n z≠[]:=by
 rw [<- Cq,<- o9,Dj]
theorem bd.whole{H0 H:Hp}{d:Addr}{n:Net}{kvs:List (Key×V)}{ks:List Str}{A:Str->Option (Addr×List Addr)}(S:bd H0 H d (bo n) kvs ks A):bH H d n ks:=by
 have mem:∀ z,z∈ks↔z∈ag n:=λz=>by
  rw [S.mem z,cO];cases h:A z with
  | none=>simp;exact S.ga z h
  | some p=>
   obtain⟨a,ts⟩:=p;simp;exact S.some' z a ts h
 refine⟨⟨kvs,S.dict,S.keys,λz hz=>?_⟩,S.nodup,mem⟩;have:=(S.mem z).mp<|(mem z).mpr hz;cases h:A z with
 | none=>rw [h] at this;cases this
 | some p=>
  obtain⟨a,ts⟩:=p;obtain⟨q1,q2,q3,q4⟩:=S.at' z a ts h;exact⟨a,ts,by rw [S.val z,h];rfl,q3,q4⟩
theorem all2(e:Nat->Bool):(List.range 2).all e=(e 0 && e 1):=by
 show(([0,1]:List Nat).all e)=_;simp
theorem Nb(x y:End):(cI (.int x.1) (.int y.1) && cI (.int x.2) (.int y.2))=decide (x=y):=by
 obtain⟨a,b⟩:=x;obtain⟨c,d⟩:=y
 by_cases h:a=c <;> by_cases h2:b=d
 ·subst h h2;simp [cI]
 ·have:¬(b:Int)=(d:Int):=λe=>h2 (by omega);simp [cI,h2,this]
 ·have:¬(a:Int)=(c:Int):=λe=>h (by omega);simp [cI,h,this]
 ·have:¬(a:Int)=(c:Int):=λe=>h (by omega);simp [cI,h,this]
section
variable{X:Cx}{H:Hp}{s t:Addr}{x y:End}
theorem Nc:∀(j:Nat) (u v:V),[V.int x.1,.int x.2][j]?=some u->[V.int y.1,.int y.2][j]?=some v->jS X H 0 u v (if j=0 then cI (.int x.1) (.int y.1) else cI (.int x.2) (.int y.2))
 | 0,u,v,h1,h2=>by
  cases h1;cases h2;exact tM rfl rfl
 | 1,u,v,h1,h2=>by
  cases h1;cases h2;exact tM rfl rfl
 | j+2,u,v,h1,h2=>by simp at h1
theorem X7(hs:H s=some (Tp x))(ht:H t=some (Tp y)):lV X H 1 (.ref s) (.ref t) (decide (x=y)):=by
 have:=MT (X:=X) (k:=0) (λj=>if j=0 then cI (.int x.1) (.int y.1) else cI (.int x.2) (.int y.2)) (aJ.of hs) (aJ.of ht) rfl Nc;rw [show([V.int (x.1:Int),.int x.2].length)=2 from rfl,all2] at this;have e:=Nb x y;simp only [DP] at this;rw [BL (by decide),e] at this;exact this
theorem X8(hs:H s=some (Tp x))(ht:H t=some (Tp y)):qY X H 1 (.ref s) (.ref t) (decide (x=y)):=by
 have:=MU (X:=X) (k:=0) (λj=>if j=0 then cI (.int x.1) (.int y.1) else cI (.int x.2) (.int y.2)) (aJ.of hs) (aJ.of ht) rfl Nc;rw [show([V.int (x.1:Int),.int x.2].length)=2 from rfl,all2] at this;have e:=Nb x y;simp only [DP] at this;rw [BL (by decide),e] at this;exact this
end
abbrev lets:Str:= "abcdefghijklmnopqrstuvwxyz0123456789"
theorem Nf:lets.cps.toList.length=36:=by decide +kernel
theorem X9:lets.cps.toList.Nodup:=by decide +kernel
def sgn(i:Int):Nat:=(dD lets.cps.toList<|i % 36).getD 0
theorem CM(i:Int):dD lets.cps.toList (i % 36)=some (sgn i):=by
 have h0:0<=i % 36:=Bw _ (by decide);have h1:i % 36 < 36:=Cc _ (by decide);have hj:(i % 36).toNat < lets.cps.toList.length:=by rw [Nf];omega
 have q:=qG (xs:=lets.cps.toList) (j:=(i % 36).toNat) (v:=lets.cps.toList[(i % 36).toNat]) (by simp [hj]);rw [show(((i % 36).toNat:Nat):Int)=i % 36 by omega] at q;unfold sgn;rw [q];rfl
theorem Ng{i j:Int}(h:sgn i=sgn j):i % 36=j % 36:=by
 have key:∀ k:Int,lets.cps.toList[(k % 36).toNat]?=some (sgn k):=λk=>by
  have h0:0<=k % 36:=Bw _ (by decide);have h1:k % 36 < 36:=Cc _ (by decide);have hj:(k % 36).toNat < lets.cps.toList.length:=by rw [Nf];omega
  have q:=qG (xs:=lets.cps.toList) (j:=(k % 36).toNat) (v:=lets.cps.toList[(k % 36).toNat]) (by simp [hj]);rw [show(((k % 36).toNat:Nat):Int)=k % 36 by omega,CM] at q;rw [Ab hj,Option.some.inj q]
 have hi:=key i;have hj:=key j;rw [h] at hi;obtain⟨l1,e1⟩:=Ac.mp hi;obtain⟨l2,e2⟩:=Ac.mp hj;have:=(Gd (xs:=lets.cps.toList) (h₀:=l1) (h₁:=l2) X9).mp<|e1.trans e2.symm;have a0:0<=i % 36:=Bw _ (by decide);have b0:0<=j % 36:=Bw _ (by decide);omega
def turn(b:Int)(sp:Int)(v k:Nat):Int:=b / 64+(k:Int) * (b / 7 % 5)+(if(k:Int)=sp then(v:Int) else 0)
def nm(b sp:Int)(v:Nat):Nat->Str
 | 0=>⟨#[]⟩
 | k+1=>nm b sp v k++⟨#[sgn<|turn b sp v k]⟩
theorem app_list(x y:Str):(x++y).cps.toList=x.cps.toList++y.cps.toList:=by
 show(x.cps++y.cps).toList=_;simp
theorem xk(b sp:Int)(v:Nat):∀ k,(nm b sp v k).cps.toList=(List.range k).map λj=>sgn<|turn b sp v j
 | 0=>rfl
 | k+1=>by
  show(nm b sp v k++⟨#[sgn<|turn b sp v k]⟩).cps.toList=_;rw [app_list,xk b sp v k,Do,Aj];rfl
theorem Ya{b sp:Int}{u v k:Nat}(hu:u < 36)(hv:v < 36)(h0:0<=sp)(h1:sp < (k:Int))(h:nm b sp u k=nm b sp v k):u=v:=by
 have e:(nm b sp u k).cps.toList=(nm b sp v k).cps.toList:=by rw [h]
 rw [xk,xk] at e;have hk:sp.toNat < k:=by omega
 have q:((List.range k).map λj=>sgn<|turn b sp u j)[sp.toNat]?=((List.range k).map λj=>sgn<|turn b sp v j)[sp.toNat]?:=by rw [e]
 rw [Ah,Ah,Eb hk] at q;have q2:sgn (turn b sp u sp.toNat)=sgn (turn b sp v sp.toNat):=Option.some.inj q;have q3:=Ng q2;unfold turn at q3;rw [show((sp.toNat:Nat):Int)=sp by omega,BP rfl,BP rfl] at q3;omega
theorem fold_list(c:Nat):∀(k:Nat) (acc:Array Nat),((List.replicate k (#[c]:Array Nat)).foldl (·++·) acc).toList=acc.toList++List.replicate k c
 | 0,acc=>by simp
 | k+1,acc=>by
  rw [List.replicate_succ,Dd,fold_list c k,List.replicate_succ];simp
theorem mul_list(c:Nat){i:Int}(h:1<=i):(Txt.mul ⟨#[c]⟩ i).cps.toList=List.replicate i.toNat c:=by
 unfold Txt.mul;rw [BL<|by omega]
 by_cases e:i=1
 ·subst e;rfl
 ·have e1:(i == 1 || (⟨#[c]⟩:Str).length == 0)=false:=by
   have:(i == 1)=false:=by simpa using e
   rw [this];rfl
  rw [e1];simp only [Bb,CV];have:=fold_list c i.toNat #[]
  simpa using this
def aP(b:Int)(v:Nat):Str:=if b % 3=2 then Txt.mul ⟨#[sgn<|b / 64+(v:Int) / 8]⟩ (1+(v:Int) % 8) else nm b (b / 8 % (1+b % 8)) v (1+b % 8).toNat
theorem Yb{b:Int}{u v:Nat}(hu:u < 36)(hv:v < 36)(h:aP b u=aP b v):u=v:=by
 have s0:0<=b % 8:=Bw _ (by decide);unfold aP at h
 by_cases c:b % 3=2
 ·rw [BP c,BP c] at h;have u0:0<=(u:Int) % 8:=Bw _ (by decide);have v0:0<=(v:Int) % 8:=Bw _ (by decide);have e:(Txt.mul ⟨#[sgn<|b / 64+(u:Int) / 8]⟩<|1+(u:Int) % 8).cps.toList=(Txt.mul ⟨#[sgn<|b / 64+(v:Int) / 8]⟩<|1+(v:Int) % 8).cps.toList:=by rw [h]
  rw [mul_list _ (by omega),mul_list _<|by omega] at e;have l:=BZ List.length e;rw [Fd,Fd] at l;have hd:(List.replicate (1+(u:Int) % 8).toNat<|sgn<|b / 64+(u:Int) / 8)[0]?=(List.replicate (1+(v:Int) % 8).toNat<|sgn<|b / 64+(v:Int) / 8)[0]?:=by rw [e]
  rw [Es,Es,BP (by omega),BP<|by omega] at hd;have q:=Ng<|Option.some.inj hd;omega
 ·rw [BL c,BL c] at h;refine Ya hu hv (Bw _<|by omega) ?_ h;have:=Cc (b / 8) (show 0 < 1+b % 8 by omega);omega
def namesOf(b:Int)(m:Nat):List Str:=(List.range m).map<|aP b
theorem xl{b:Int}{m:Nat}(h:m<=36):(namesOf b m).Nodup:=by
 unfold namesOf;refine QS _ (R:=λi j=>i < j/\j < m) ?_ ?_
 ·rintro i j ⟨h1,h2⟩ e;have:=Yb (by omega) (by omega) e;omega
 ·rw [Bn];intro i j hi hj d3;simp only [Ey];simp at hj;exact⟨d3,hj⟩
theorem xm(b:Int)(m:Nat):namesOf b (m+1)=namesOf b m++[aP b m]:=by
 unfold namesOf;rw [Do,Aj];rfl
theorem CO(b:Int)(m:Nat):(namesOf b m).length=m:=by unfold namesOf;simp
theorem Yc{b:Int}{m i:Nat}(h:i < m):(namesOf b m)[i]?=some (aP b i):=by
 unfold namesOf;rw [Ah,Eb h];rfl
end Nt
namespace E5
open PySem L2
def top(i:Nat):Stmt:=PySem.Challenge.pw_threewebs_k50_sets_parted.main.body.getD i<|.Pass ⟨0,0,0,0⟩
abbrev xn:Stmt:=top 1
abbrev xo:Stmt:=top 2
abbrev CU:Stmt:=top 3
abbrev CY:Stmt:=top 4
abbrev C0:Stmt:=top 5
abbrev xq:Stmt:=top 6
abbrev xr:Stmt:=top 7
abbrev xt:Stmt:=top 8
abbrev xu:Stmt:=top 10
abbrev C1:Stmt:=top 11
abbrev C2:Stmt:=top 13
abbrev gX:Stmt:=top 14
abbrev xv:Stmt:=top 15
abbrev pj:Stmt:=top 17
abbrev pk:Stmt:=top 18
abbrev tP:Stmt:=top 19
abbrev xx:Stmt:=top 21
abbrev xA:Stmt:=top 23
abbrev C3:Stmt:=top 24
abbrev C4:Stmt:=top 25
abbrev C5:Stmt:=top 27
abbrev pq:Stmt:=top 28
abbrev C6:Stmt:=top 29
abbrev C7:Stmt:=top 30
abbrev C8:Stmt:=top 31
abbrev C9:Stmt:=top 32
abbrev Dt:Stmt:=top 33
abbrev pv:Stmt:=top 34
abbrev px:Stmt:=top 35
abbrev xB:Stmt:=top 36
abbrev DA:Stmt:=top 37
abbrev xC:Stmt:=top 38
abbrev xD:Stmt:=top 40
abbrev xE:Stmt:=top 42
abbrev DB:Stmt:=top 43
abbrev xF:Stmt:=top 44
abbrev DC:Stmt:=top 45
abbrev lW:Stmt:=top 46
structure Txt(mg:Str->Option Value):Prop where
 xG:mg "isinstance" = none
 jU:mg "tuple" = none
 DE:mg "str" = none
 tQ:mg "int" = none
 Nh:mg "bool" = none
 gd:mg "list" = none
 ng:mg "dict" = none
 py:mg "set" = none
 enum:mg "enumerate" = none
 zip:mg "zip" = none
 len:mg "len" = none
 range:mg "range" = none
 sorted:mg "sorted" = none
 max:mg "max" = none
 all:mg "all" = none
open Nt bN
theorem small{n:Nat}(h:n<=100000):n<=sizeLine:=by rw [DW];omega
theorem bS{n:Nat}(h:n<=100000):n < sizeLine:=by rw [DW];omega
theorem aS{H:Hp}{p:Addr}(h:H p=none)(o:HO):aj H (upd H p o):=λb u q=>by rw [av<|bg q h];exact q
theorem dN{H1 H2:Hp}{r:Addr}{o:HO}(s:aj H1 H2)(h:H1 r=none):aj H1 (upd H2 r o):=λb u q=>by
 rw [av<|bg q h];exact s _ _ q
theorem tR{H:Hp}{l:Addr}{zs:List Str}{y:Str}:upd H l (.lst<|zs.map V.str++[V.str y])=upd H l (Ls<|zs++[y]):=by
 show _=upd H l (.lst<|(zs++[y]).map V.str);rw [Aj];rfl
def xH(K:PySem.W.Frag):Sp:=λvs H Q _=>∃(a:Addr) (ns:List Int) (k:Int),vs=[.ref a,.int k]/\aq K H a (ns.map V.int)/\0<=k/\∀ i,Q (.int i) H
def DF(K:PySem.W.Frag):Sp:=λvs H Q _=>∃(a:Addr) (ns:List Int) (k:Int),vs=[.ref a,.int k]/\aq K H a (ns.map V.int)/\0<=k/\∀ i H',aj H H'->Q (.int i) H'
def DH:Sp:=λvs H Q _=>∃(b m:Int),vs=[.int b,.int m]/\0<=m/\m<=36/\∀ l H',aj H H'->H l=none->H' l=some (Ls<|namesOf b m.toNat)->Q (.ref l) H'
def nh:Sp:=λvs H Q _=>∃(R:Addr) (as:List<|Addr×Addr) (n:Net),vs=[.ref R]/\ai H R as n/\n.length<=1000/\(ag n).length<=1000/\∀ d ks H',aj H H'->H d=none->bH H' d n ks->Q (.ref d) H'
def xI:Sp:=λvs H Q _=>∃(R d t:Addr) (as:List<|Addr×Addr) (n:Net) (ks:List Str) (e:Nt.End),vs=[.ref R,.ref d,.ref t]/\ai H R as n/\bH H d n ks/\ax n/\H t=some (Tp e)/\e∈ends n/\∀ u,H u=some (Tp<|other n e)->Q (.ref u) H
def DI:Sp:=λvs H Q _=>∃(R d t:Addr) (as:List<|Addr×Addr) (n:Net) (ks:List Str) (e:Nt.End),vs=[.ref R,.ref d,.ref t,.int 1]/\ai H R as n/\bH H d n ks/\ax n/\H t=some (Tp e)/\e∈ends n/\∀ u H',aj H H'->H u=none->H' u=some (Tp<|step n e)->Q (.ref u) H'
def DJ:Sp:=λvs H Q _=>∃(R d t:Addr) (as:List<|Addr×Addr) (n:Net) (ks:List Str) (e:Nt.End),vs=[.ref R,.ref d,.ref t]/\ai H R as n/\bH H d n ks/\ax n/\H t=some (Tp e)/\e∈ends n/\(ends n).length<=1000 /\
 ∀ l ts fs H',aj H H'->H l=none->H' l=some (.lst<|ts.map V.ref)->Pd H' ts fs->fh n e fs->Q (.ref l) H'
section
variable{P:Program}{w:World}{K:PySem.W.Frag}{mg:Str->Option Value}{base:Heap}
theorem Yd:ak ["_law_script","_law_k"] ["_law_script","_law_k"] (a8 C5):=⟨rfl,rfl,rfl,by decide +kernel,rfl,by decide +kernel,by decide +kernel⟩
theorem Ye{ns:List Int}{k:Int}(h0:0<=k)(h1:k < (ns.length:Int)):∃ v:Int,dD (ns.map V.int) k=some (.int v):=by
 have hj:k.toNat < ns.length:=by omega
 have q:=qG (xs:=ns.map V.int) (j:=k.toNat) (v:= .int ns[k.toNat]) (by simp [hj]);rw [show((k.toNat:Nat):Int)=k by omega] at q;exact⟨_,q⟩
theorem Yf{f:Addr}{fd:FuncData}(F:bE K "_law_cell_at" "_law_cell_at" C5 f fd)(T:Txt mg):aI P w K mg base bB 1 f fd ["_law_script","_law_k"] (xH K):=by
 refine F.gb Yd (λvs H Q E h=>?_) λb0 H vs Q E hr h=>?_
 ·obtain⟨a,ns,k,rfl,_⟩:=h;rfl
 obtain⟨a,ns,k,rfl,hS,h0,q⟩:=h;show Run _ _ _ [some<|.ref a,some<|.int k] H;refine du<|cb zu<|ae 1<|bW cX T.len DK<|ah<|ae 0<|ay ⟨a,_,rfl,.inl hS,_,_,rfl,rfl,_,rfl,?_⟩;refine jM (λc=>?_) λc=>?_
 ·have c':=BX c;obtain⟨v,hv⟩:=Ye (ns:=ns) h0 (by rw [Aa] at c';exact c');exact bO<|aU cH<|ae 0<|ae 1 ⟨a,_,_,.int v,rfl,rfl,hS,hv,q v⟩
 ·exact aY<|bO<|aC<|q 0
abbrev pA:List V:=[.int 48271,.int 69621,.int 16807,.int 39373,.int 21401,.int 60493,.int 87721,.int 31337]
abbrev gg:List V:=[.int 99991,.int 99989,.int 99971,.int 99961,.int 99929,.int 99923,.int 99907,.int 99901]
theorem eight{i:Int}(h0:0<=i)(h1:i < 8):i=0\/i=1\/i=2\/i=3\/i=4\/i=5\/i=6\/i=7:=by
 obtain⟨k,rfl⟩:=Int.eq_ofNat_of_zero_le h0;exact(by decide:∀ k:Fin 8,(k.1:Int)=0\/(k.1:Int)=1\/(k.1:Int)=2\/(k.1:Int)=3\/(k.1:Int)=4\/(k.1:Int)=5\/(k.1:Int)=6\/(k.1:Int)=7) ⟨k,Int.ofNat_lt.mp h1⟩
theorem Yg{i:Int}(h0:0<=i)(h1:i < 8):∃ m:Int,dD pA i=some (.int m)/\0 < m/\m < 100000:=by
 rcases eight h0 h1 with rfl | rfl | rfl | rfl | rfl | rfl | rfl | rfl <;> exact⟨_,rfl,by decide,by decide⟩
theorem Yh{i:Int}(h0:0<=i)(h1:i < 8):∃ m:Int,dD gg i=some (.int m)/\0 < m/\m < 100000:=by
 rcases eight h0 h1 with rfl | rfl | rfl | rfl | rfl | rfl | rfl | rfl <;> exact⟨_,rfl,by decide,by decide⟩
theorem ni:ak ["_law_script","_law_at","_law_by","_law_prime","_law_cell","_law_big_here","_law_k","_law_one"] ["_law_script","_law_at"] (a8 pq):=⟨rfl,rfl,rfl,by decide +kernel,rfl,by decide +kernel,by decide +kernel⟩
theorem Yi{f:Addr}{fd:FuncData}(F:bE K "_law_big" "_law_big" pq f fd)(T:Txt mg)(G:aO P w K mg base 1 "_law_cell_at" ["_law_script","_law_k"]<|xH K) :
  aI P w K mg base bB 2 f fd ["_law_script","_law_at"] (DF K):=by
 refine F.gb ni (λvs H Q E h=>?_) λb0 H vs Q E hr h=>?_
 ·obtain⟨a,ns,k,rfl,_⟩:=h;rfl
 obtain⟨a,ns,k,rfl,hS,h0,q⟩:=h;have nd:=ni.nd;show Run _ _ _ [some<|.ref a,some<|.int k,none,none,none,none,none,none] H;refine aW 2 nd (eF<|ah<|aC<|ah<|aC<|ah<|aC<|ah<|aC<|ah<|aC<|ah<|aC<|ah<|aC<|ah<|aC<|ay ⟨(by show 8<=sizeLine;decide),λp hp=>?_⟩);refine aW 3 nd (eF<|ah<|aC<|ah<|aC<|ah<|aC<|ah<|aC<|ah<|aC<|ah<|aC<|ah<|aC<|ah<|aC<|ay ⟨(by show 8<=sizeLine;decide),λp2 iP=>?_⟩);have Yj:p≠p2:=by
  intro e;rw [<- e,aw] at iP;cases iP
 have s1:aj H (upd H p<|.tup pA):=aS hp _;have s2:aj H (upd (upd H p<|.tup pA) p2<|.tup gg):=s1.trans<|aS iP _;have e1:(upd (upd H p<|.tup pA) p2<|.tup gg) p=some (.tup pA):=by rw [av Yj,aw]
 have e2:(upd (upd H p<|.tup pA) p2<|.tup gg) p2=some (.tup gg):=aw;generalize upd (upd H p<|.tup pA) p2 (.tup gg)=H2 at s2 e1 e2 ⊢;refine aW 4 nd<|bn G hr<|ah<|ae 0<|ah<|ae 1<|ay ⟨a,ns,k,rfl,s2.seq hS,h0,λb=>?_⟩;show Run _ _ _ [some<|.ref a,some<|.int k,some<|.ref p,some<|.ref p2,some<|.int b,none,none,none] H2;refine LV True True (λR qq=>?_) (λ_=>?_) λ_=>aY ?_
 ·refine kC (wL<|cb gN<|aZ cG<|ae 4<|aC ⟨_,_,rfl,rfl,(by show(0:Int) < 2;decide),aC ⟨rfl,_,rfl,?_⟩⟩);refine jM (λc=>?_) (λc=>qq false (λz=>nomatch z) λ_=>trivial);exact AX<|cb KI<|ae 4<|aZ Ky<|aC<|aC ⟨_,_,rfl,rfl,⟨by decide,by decide,by decide⟩,_,_,rfl,rfl,_,rfl,qq _ (λ_=>trivial) λ_=>trivial⟩
 ·exact bO<|aZ ic<|ae 4<|aC ⟨_,_,rfl,rfl,⟨by decide,by decide⟩,q _ _ s2⟩
 refine aW 5 nd<|aC ?_;refine kD T.range<|aC ⟨60,rfl,by decide,by decide,kE (n:=60) (λ_ σ H3=>H3=H2/\∃(x:Int) (u v:Option V),σ=[some<|.ref a,some<|.int k,some<|.ref p,some<|.ref p2,some<|.int b,some<|.int x,u,v]) ⟨rfl,0,_,_,rfl⟩ ?_ ?_⟩
 ·rintro i σ H3 hi ⟨rfl,x,u,v,rfl⟩;have i9:0<=(0+(i:Int)) % 9:=Bw _ (by decide);obtain⟨m1,f1,g1,g2⟩:=Yg (i:=(0+(i:Int)) % 8) (Bw _<|by decide) (Cc _<|by decide);obtain⟨m2,f2,g3,g4⟩:=Yh (i:=(0+(i:Int)) % 8) (Bw _<|by decide) (Cc _<|by decide);refine bf 6 nd ?_;refine aW 7 nd<|aZ fI<|aZ fI<|aZ cG<|bn G hr<|ah<|ae 0<|ah<|aZ fI<|ae 1<|aZ cG<|ae 6<|aC ?_;refine⟨_,_,rfl,rfl,(by show(0:Int) < 9;decide),_,_,rfl,rfl,ay ⟨a,ns,_,rfl,s2.seq hS,?_,λc=>?_⟩⟩
  ·show 0<=k+(0+(i:Int)) % 9;omega
  refine aZ Ky (aC<|aC ⟨_,_,rfl,rfl,⟨by decide,by decide,by decide⟩,_,_,rfl,rfl,(by show(0:Int) < 10 ^ (18:Int).toNat;decide),aC ⟨_,_,rfl,rfl,?_⟩⟩);refine aZ wz<|ae 6<|ae 6 ?_;refine⟨_,_,rfl,rfl,.inl ⟨by omega,by omega⟩,_,_,rfl,rfl,?_⟩;refine aW 5 nd (aZ fI<|aZ wz<|ae 5<|aC ⟨_,_,rfl,rfl,.inr ⟨by decide,by decide⟩,?_⟩);refine aZ cG (aZ cG<|aZ wz<|ae 7<|aU bJ<|ae 2<|aZ cG<|ae 6<|aC ⟨_,_,rfl,rfl,(by show(0:Int) < 8;decide),p,_,_,_,rfl,rfl,aJ.of e1,f1,_,_,rfl,rfl,.inr ⟨by omega,by omega⟩,?_⟩);refine aU bJ (ae 3<|aZ cG<|ae 6<|aC ⟨_,_,rfl,rfl,(by show(0:Int) < 8;decide),p2,_,_,_,rfl,rfl,aJ.of e2,f2,_,_,rfl,rfl,g3,aC ⟨_,_,rfl,rfl,(by show(0:Int) < 7919;decide),_,_,rfl,rfl,?_⟩⟩);exact aY ⟨rfl,_,_,_,rfl⟩
 ·rintro σ H3 ⟨rfl,x,u,v,rfl⟩;exact bO<|ae 5<|q x _ s2
abbrev NN:List Str:=["_law_stem","_law_many","_law_signs","_law_size","_law_spot","_law_names_here","_law_v","_law_name","_law_k","_law_turn"]
theorem iw:ak NN ["_law_stem","_law_many"] (a8 C6):=⟨rfl,rfl,rfl,by decide +kernel,rfl,by decide +kernel,by decide +kernel⟩
theorem Yk{f:Addr}{fd:FuncData}(F:bE K "_law_names" "_law_names" C6 f fd)(T:Txt mg):aI P w K mg base bB 1 f fd ["_law_stem","_law_many"] DH:=by
 refine F.gb iw (λvs H Q E h=>?_) λb0 H vs Q E hr h=>?_
 ·obtain⟨b,m,rfl,_⟩:=h;rfl
 obtain⟨b,m,rfl,m0,m1,q⟩:=h;have nd:=iw.nd;have s0:0<=b % 8:=Bw _ (by decide);have s1:b % 8 < 8:=Cc _ (by decide);show Run _ _ _ [some<|.int b,some<|.int m,none,none,none,none,none,none,none,none] H;refine aW 2 nd<|m4 ?_;refine aW 3 nd (aZ fI<|aC<|aZ cG<|ae 0<|aC ⟨_,_,rfl,rfl,(by show(0:Int) < 8;decide),_,_,rfl,rfl,?_⟩);refine aW 4 nd (aZ cG<|aZ ic<|ae 0<|aC ⟨_,_,rfl,rfl,⟨by decide,by decide⟩,ae 3 ⟨_,_,rfl,rfl,(by show 0 < 1+b % 8;omega),?_⟩⟩);refine aW 5 nd<|cY<|ay ⟨Z0,λl hl=>?_⟩;show Run _ _ _ [some<|.int b,some<|.int m,some<|.str lets,some<|.int<|1+b % 8,some<|.int<|b / 8 % (1+b % 8),some<|.ref l,none,none,none,none] _;have spE:b / 8 % (1+b % 8)=b / 8 % (1+b % 8):=rfl;refine kD T.range<|ae 1 ⟨m,rfl,by omega,by omega,kE (n:=m.toNat) (λi σ H3=>H3=upd H l (Ls<|namesOf b i)/\∃ u1 u2 u3 u4,σ=[some<|.int b,some<|.int m,some<|.str lets,some<|.int<|1+b % 8,some<|.int<|b / 8 % (1+b % 8),some<|.ref l,u1,u2,u3,u4]) ⟨rfl,_,_,_,_,rfl⟩ ?_ ?_⟩
 ·rintro i σ H3 hi ⟨rfl,u1,u2,u3,u4,rfl⟩;refine bf 6 nd ?_;refine aW 7 nd<|m4 ?_;refine kD T.range<|ae 3 ⟨_,rfl,by omega,by omega,kE (n:=(1+b % 8).toNat) (λj σ H4=>H4=upd H l (Ls<|namesOf b i)/\∃(u3 u4:Option V),σ=[some<|.int b,some<|.int m,some<|.str lets,some<|.int<|1+b % 8,some<|.int<|b / 8 % (1+b % 8),some<|.ref l,some<|.int<|0+(i:Int),some<|.str<|nm b (b / 8 % (1+b % 8)) i j,u3,u4]) ⟨rfl,_,_,rfl⟩ ?_ ?_⟩
  ·rintro j σ H4 hj ⟨rfl,v3,v4,rfl⟩;have t0:0<=b / 7 % 5:=Bw _ (by decide);have t1:b / 7 % 5 < 5:=Cc _ (by decide);have nl:(nm b (b / 8 % (1+b % 8)) i j).length=j:=by
    have:=BZ List.length<|xk b (b / 8 % (1+b % 8)) i j;show(nm b (b / 8 % (1+b % 8)) i j).cps.size=j
    simpa using this
   refine bf 8 nd ?_;refine aW 9 nd (aZ fI<|aZ ic<|ae 0<|aC ⟨_,_,rfl,rfl,⟨by decide,by decide⟩,aZ wz<|ae 8<|aZ cG<|aZ ic<|ae 0<|aC ⟨_,_,rfl,rfl,⟨by decide,by decide⟩,aC ⟨_,_,rfl,rfl,(by show(0:Int) < 5;decide),?_⟩⟩⟩);refine⟨_,_,rfl,rfl,.inr ⟨by omega,by omega⟩,_,_,rfl,rfl,?_⟩;refine B8 ((0+(j:Int))=b / 8 % (1+b % 8)) (¬(0+(j:Int))=b / 8 % (1+b % 8)) (λσ' H'=>H'=upd H l (Ls<|namesOf b i)/\σ'=[some<|.int b,some<|.int m,some<|.str lets,some<|.int<|1+b % 8,some<|.int<|b / 8 % (1+b % 8),some<|.ref l,some<|.int<|0+(i:Int),some<|.str<|nm b (b / 8 % (1+b % 8)) i j,some<|.int<|0+(j:Int),some<|.int<|turn b (b / 8 % (1+b % 8)) i j]) (λR qq=>?_) (λhc=>?_) (λhc=>aY ⟨rfl,?_⟩) ?_
   ·refine cb gN<|ae 8<|ae 4 ⟨rfl,_,rfl,?_⟩
    by_cases hc:(0+(j:Int))=b / 8 % (1+b % 8)
    ·rw [BW (show V.int (0+(j:Int))=V.int (b / 8 % (1+b % 8)) by rw [hc])];exact qq true (λ_=>hc) λh=>by cases h
    ·rw [BR λh=>hc<|V.int.inj h];exact qq false (λh=>by cases h) λ_=>hc
   ·refine aW 9 nd<|aZ fI<|ae 9<|ae 6 ⟨_,_,rfl,rfl,aY ⟨rfl,?_⟩⟩;have e:b / 64+(0+(j:Int)) * (b / 7 % 5)+(0+(i:Int))=turn b (b / 8 % (1+b % 8)) i j:=by
     unfold turn;rw [BP (by omega),Dv,Dv]
    rw [<- e];rfl
   ·have e:b / 64+(0+(j:Int)) * (b / 7 % 5)=turn b (b / 8 % (1+b % 8)) i j:=by
     unfold turn;rw [BL (by omega),Dv,Int.add_zero]
    rw [<- e];rfl
   ·rintro σ' H' ⟨rfl,rfl⟩;refine aW 7 nd<|aZ Uy<|ae 7<|aU K'<|ae 2<|aZ cG<|ae 9<|aC ⟨_,_,rfl,rfl,(by show(0:Int) < 36;decide),lets,_,sgn<|turn b (b / 8 % (1+b % 8)) i j,rfl,rfl,by decide +kernel,CM _,_,_,rfl,rfl,small (by show(nm b (b / 8 % (1+b % 8)) i j).length+1<=100000;omega),aY ⟨rfl,_,_,rfl⟩⟩
  ·rintro σ H4 ⟨rfl,v3,v4,rfl⟩;refine B8 (b % 3=2) (¬ b % 3=2) (λσ' H'=>H'=upd H l (Ls<|namesOf b i)/\σ'=[some<|.int b,some<|.int m,some<|.str lets,some<|.int<|1+b % 8,some<|.int<|b / 8 % (1+b % 8),some<|.ref l,some<|.int<|0+(i:Int),some<|.str<|aP b i,v3,v4]) (λR qq=>?_) (λhc=>?_) (λhc=>aY ⟨rfl,?_⟩) ?_
   ·refine cb gN<|aZ cG<|ae 0<|aC ⟨_,_,rfl,rfl,(by show(0:Int) < 3;decide),aC ⟨rfl,_,rfl,?_⟩⟩
    by_cases hc:b % 3=2
    ·rw [BW (show V.int (b % 3)=V.int 2 by rw [hc])];exact qq true (λ_=>hc) λh=>by cases h
    ·rw [BR λh=>hc<|V.int.inj h];exact qq false (λh=>by cases h) λ_=>hc
   ·have e0:0<=(0+(i:Int)) % 8:=Bw _ (by decide);have e1:(0+(i:Int)) % 8 < 8:=Cc _ (by decide);refine aW 7 nd (aZ VX<|aU K'<|ae 2<|aZ cG<|aZ fI<|aZ ic<|ae 0<|aC ⟨_,_,rfl,rfl,⟨by decide,by decide⟩,aZ ic<|ae 6<|aC ⟨_,_,rfl,rfl,⟨by decide,by decide⟩,_,_,rfl,rfl,aC ⟨_,_,rfl,rfl,(by show(0:Int) < 36;decide),lets,_,sgn<|b / 64+(0+(i:Int)) / 8,rfl,rfl,by decide +kernel,CM _,?_⟩⟩⟩);refine aZ fI (aC<|aZ cG<|ae 6<|aC ⟨_,_,rfl,rfl,(by show(0:Int) < 8;decide),_,_,rfl,rfl,?_⟩);refine⟨_,_,rfl,rfl,by omega,by omega,?_,aY ⟨rfl,?_⟩⟩
    ·show 1 * _<=_;omega
    ·have e:Txt.mul ⟨#[sgn<|b / 64+(0+(i:Int)) / 8]⟩ (1+(0+(i:Int)) % 8)=aP b i:=by
      unfold aP;rw [BP hc,Dv]
     rw [<- e];rfl
   ·have e:nm b (b / 8 % (1+b % 8)) i (1+b % 8).toNat=aP b i:=by
     unfold aP;rw [BL hc]
    rw [<- e]
   ·rintro σ' H' ⟨rfl,rfl⟩;refine gC<|jr<|ae 5 ⟨l,rfl,⟨_,aw⟩,ae 7 ⟨_,aw,?_,?_⟩⟩
    ·rw [Aa,CO];exact bS<|by omega
    ·rw [oe];refine aY ⟨?_,_,_,_,_,rfl⟩;rw [xm];exact tR
 ·rintro σ H3 ⟨rfl,u1,u2,u3,u4,rfl⟩;exact bO<|ae 5<|q l _ (aS hl _) hl aw
theorem Yl{H:Hp}{d:Addr}{kvs:List (Key×V)}(h:H d=some (.dK kvs)):lq K "dict" (.ref d) H:=Or.inr<|Or.inr<|Or.inl ⟨rfl,Or.inl ⟨kvs,h⟩⟩
abbrev NS:List Str:=["_law_rows","_law_seats_here","_law_r","_law_place"]
theorem ix:ak NS ["_law_rows"] (a8 C7):=⟨rfl,rfl,rfl,by decide +kernel,rfl,by decide +kernel,by decide +kernel⟩
theorem Ym{f:Addr}{fd:FuncData}(F:bE K "_law_seats" "_law_seats" C7 f fd)(T:Txt mg):aI P w K mg base bB 1 f fd ["_law_rows"] nh:=by
 refine F.gb ix (λvs H Q E h=>?_) λb0 H vs Q E hr h=>?_
 ·obtain⟨R,as,n,rfl,_⟩:=h;rfl
 obtain⟨R,as,n,rfl,hR,hn,ht,q⟩:=h;have nd:=ix.nd;have bY:=hR.len;show Run _ _ _ [some<|.ref R,none,none,none] H;refine aW 1 nd<|xc λd hd=>?_;refine kD T.range (bW cX T.len DK<|ah<|ae 0<|ay ⟨R,_,rfl,.inl<|aq.of<|aS hd _ _ _ hR.lst,_,rfl,by omega,by rw [Aa];omega,?_⟩);rw [Aa,bY,Bc];refine kE (λr σ H3=>∃ kvs ks A u1 u2,bd H H3 d (bo<|n.take r) kvs ks A/\σ=[some<|.ref R,some<|.ref d,u1,u2]) ⟨_,_,_,_,_,bd.start hd,rfl⟩ ?_ ?_
 ·rintro r σ H3 hi ⟨kvs,ks,A',u1,u2,S,rfl⟩;rw [Dv];refine bf 2 nd ?_;obtain⟨a,ea,dj,et,el,er⟩:=(hR.same S.same).at hi;refine kD T.range<|bW cX T.len DK<|ah<|aU bJ<|aU cH<|ae 0<|ae 2 ⟨R,_,_,.ref a.1,rfl,rfl,aq.of<|S.same _ _ hR.lst,dj,aC ⟨a.1,_,_,.ref a.2,rfl,rfl,aJ.of et,rfl,ay ⟨a.2,_,rfl,.inl<|aq.of el,_,rfl,by omega,?_,?_⟩⟩⟩
  ·have:(row n r).length<=1000:=by
    have h1:(row n r).length<=(ag n).length:=by
     exact iq n r
    omega
   rw [Aa];omega
  rw [Aa,Bc];refine kE (λp σ H4=>∃ kvs ks A u2,bd H H4 d (bo (n.take r)++bu r ((row n r).take p) 0) kvs ks A/\σ=[some<|.ref R,some<|.ref d,some<|.int (r:Int),u2]) ⟨kvs,ks,A',_,by simpa [bu] using S,rfl⟩ ?_ ?_
  ·rintro p σ H4 hp ⟨kvs,ks,A',u2,S,rfl⟩;rw [Dv];refine bf 3 nd ?_;obtain⟨a,ea,dj,et,el,er⟩:=(hR.same S.same).at hi;have hz:(row n r)[p]?=some (row n r)[p]:=Ab hp;generalize (row n r)[p]=z at hz;have next:bo (n.take r)++bu r ((row n r).take<|p+1) 0=(bo (n.take r)++bu r ((row n r).take p) 0)++[(z,(r,p))]:=by
    rw [ph hz,Ar]
   have hlen:kvs.length < sizeLine:=by
    have h1:ks.length<=1000:=by
     refine Bs (aX (b:=ag n) S.nodup λy hy=>?_) ht;have h2:=(S.mem y).mp hy;cases hA:A' y with
     | none=>rw [hA] at h2;cases h2
     | some pr=>
      obtain⟨a2,kK⟩:=pr;have h3:=S.some' y a2 kK hA;unfold bG at h3;obtain⟨x,hx⟩:=Fo _ h3;obtain⟨⟨y2,e2⟩,hm,_⟩:=An.mp hx;rw [Bh,DN] at hm;obtain⟨hm,rfl⟩:=hm;have:(y2,e2)∈bo n:=by
       rcases Am.mp hm with hm | hm
       ·have q1:=aT.mp hm;refine aT.mpr ?_;have q2:=cN q1;unfold aK row at q1 ⊢;rw [Bf] at q2;rwa [Dm<|by omega] at q1
       ·have q1:=bF.mp hm;refine aT.mpr ?_;unfold aK;rw [q1.1];have q3:=q1.2.2;rw [VF] at q3;have q4:=(Ac.mp q3).1;rw [Bf] at q4;rwa [Dm<|by omega] at q3
      exact dZ<|aT.mp this
    have h2:=BZ List.length S.keys;rw [Aa,Aa] at h2;exact bS<|by omega
   refine gC<|jr<|CF RN PySem.F.slot_dict_setdefault PySem.F.type_dict_setdefault XH<|ae 1 ⟨Yl S.dict,aU cH<|aU bJ<|aU cH<|ae 0<|ae 2 ⟨R,_,_,.ref a.1,rfl,rfl,aq.of<|S.same _ _ hR.lst,dj,aC ⟨a.1,_,_,.ref a.2,rfl,rfl,aJ.of et,rfl,ae 3 ⟨a.2,_,_,.str z,rfl,rfl,aq.of el,pf hz,?_⟩⟩⟩⟩;refine cY<|ay ⟨Z0,λl0 jl=>?_⟩;have gD:d≠l0:=bg S.dict jl;refine⟨d,kvs,Sum.inr z,.ref l0,rfl,rfl,by rw [av gD];exact S.dict,hlen,?_⟩;cases hA:A' z with
   | some pr=>
    obtain⟨a2,kK⟩:=pr;obtain⟨q1,q2,q3,q4⟩:=S.at' z a2 kK hA;have xi:a2≠l0:=bg q3 jl;refine .inl ⟨.ref a2,by rw [S.val z,hA];rfl,a2,rfl,⟨_,by rw [av xi];exact q3⟩,?_⟩;refine eF<|ah<|ae 2<|ah<|ae 3<|ay ⟨Z2,λt kH=>?_⟩;have xj:a2≠t:=λe=>by rw [<- e,av xi,q3] at kH;cases kH
    refine⟨kK.map V.ref,by rw [av xj,av xi];exact q3,?_,?_⟩
    ·rw [Aa,q4.length];have h1:(bG (bo (n.take r)++bu r ((row n r).take p) 0) z).length<=100000:=by
      unfold bG;rw [Aa];refine Bs (Ct _ _) ?_;rw [Af];have h2:(bo<|n.take r).length<=1000:=by
       have:=BZ List.length<|kJ (n.take r) 0;rw [Aa] at this;unfold bo;rw [this];exact Bs (M9 n r) ht
      have h3:(bu r ((row n r).take p) 0).length<=1000:=by
       unfold bu;rw [Aa,List.length_zipIdx,Bf];have h1:(row n r).length<=(ag n).length:=by
        exact iq n r
       omega
      omega
     exact bS h1
    ·refine aY ⟨kvs,ks,(λy=>if y=z then some (a2,kK++[t]) else A' y),_,?_,rfl⟩;rw [next];exact S.old (e:=(r,p)) hA jl kH
   | none=>
    refine .inr ⟨by rw [S.val z,hA];rfl,l0,rfl,⟨_,by rw [av gD.symm];exact aw⟩,?_⟩;refine eF<|ah<|ae 2<|ah<|ae 3<|ay ⟨Z2,λt kH=>?_⟩;have js:l0≠t:=λe=>by rw [<- e,av gD.symm,aw] at kH;cases kH
    refine⟨[],by rw [av js,av gD.symm,aw],by show 0 < sizeLine;decide,?_⟩;refine aY ⟨putK kvs (Sum.inr z)<|.ref l0,ks++[z],(λy=>if y=z then some (l0,[t]) else A' y),_,?_,rfl⟩;rw [next];exact S.new (e:=(r,p)) hA jl kH
  ·rintro σ H4 ⟨kvs,ks,A',u2,S,rfl⟩;refine aY ⟨kvs,ks,A',_,_,?_,rfl⟩;rw [rh hi];rwa [Bu] at S
 ·rintro σ H3 ⟨kvs,ks,A',u1,u2,S,rfl⟩;rw [Bu] at S;exact bO<|ae 1<|q d ks H3 S.same S.free S.whole
abbrev NO:List Str:=["_law_rows","_law_seats_here","_law_end","_law_pair"]
theorem iy:ak NO ["_law_rows","_law_seats_here","_law_end"] (a8 C8):=⟨rfl,rfl,rfl,by decide +kernel,rfl,by decide +kernel,by decide +kernel⟩
theorem Yn{f:Addr}{fd:FuncData}(F:bE K "_law_other" "_law_other" C8 f fd)(T:Txt mg):aI P w K mg base bB 1 f fd ["_law_rows","_law_seats_here","_law_end"] xI:=by
 refine F.gb iy (λvs H Q E h=>?_) λb0 H vs Q E hr h=>?_
 ·obtain⟨R,d,t,as,n,ks,e,rfl,_⟩:=h;rfl
 obtain⟨R,d,t,as,n,ks,e,rfl,hR,hS,hT,ht,he,q⟩:=h;have nd:=iy.nd;have hu:=hr.fQ;obtain⟨z,hz⟩:=af.mp he;have a7:=cN hz;obtain⟨a,ea,dj,et,el,er⟩:=hR.at a7;obtain⟨kvs,h1,h2,h3⟩:=hS.dict;obtain⟨pa,ts,v1,v2,v3⟩:=h3 z<|dZ hz;obtain⟨x,y,hp,DL,qW⟩:=pc hT hz;rw [hp] at v3;cases v3 with
 | cons x1 v3=>
 cases v3 with
 | cons y1 v3=>
 cases v3;rename_i tx ty;show Run _ _ _ [some<|.ref R,some<|.ref d,some<|.ref t,none] H;have eI:=hr.u1;refine aW 3 nd<|f7 eI<|ae 1<|aU cH<|aU bJ<|aU cH<|ae 0<|aU bJ<|ae 2<|aC ⟨t,_,_,.int (e.1:Int),rfl,rfl,aJ.of ht,rfl,R,_,_,.ref a.1,rfl,rfl,aq.of hR.lst,dj,aC ⟨a.1,_,_,.ref a.2,rfl,rfl,aJ.of et,rfl,?_⟩⟩;refine aU bJ (ae 2<|aC ⟨t,_,_,.int (e.2:Int),rfl,rfl,aJ.of ht,rfl,a.2,_,_,.str z,rfl,rfl,aq.of el,pf hz,d,.ref pa,rfl,by rw [<- v1];exact aV.k (k:=Sum.inr z) h1,?_⟩);show Run _ _ _ [some<|.ref R,some<|.ref d,some<|.ref t,some<|.ref pa] H;refine bO<|aU cH<|ae 3<|lG MX T.tQ UG<|ah<|kA (w9 hu)<|aU cH<|ae 3<|aC ⟨pa,_,_,.ref tx,rfl,rfl,aq.of v2,rfl,ae 2 ⟨1,_,by decide,X7 x1 ht,?_⟩⟩
 by_cases c:x=e
 ·rw [BW c];refine ay ⟨_,rfl,pa,[.ref tx,.ref ty],1,.ref ty,rfl,rfl,aq.of v2,rfl,q ty ?_⟩;have e1:other n e=y:=by unfold other;simp only [hz,hp];simp [c]
  rw [e1];exact y1
 ·rw [BR c];refine ay ⟨_,rfl,pa,[.ref tx,.ref ty],0,.ref tx,rfl,rfl,aq.of v2,rfl,q tx ?_⟩;have e1:other n e=x:=by unfold other;simp only [hz,hp];simp [c]
  rw [e1];exact x1
abbrev NT:List Str:=["_law_rows","_law_seats_here","_law_end","_law_turn","_law_other_here"]
theorem jV:ak NT ["_law_rows","_law_seats_here","_law_end","_law_turn"] (a8 C9):=⟨rfl,rfl,rfl,by decide +kernel,rfl,by decide +kernel,by decide +kernel⟩
theorem Yo{f:Addr}{fd:FuncData}(F:bE K "_law_step" "_law_step" C9 f fd)(T:Txt mg)(G:aO P w K mg base 1 "_law_other" ["_law_rows","_law_seats_here","_law_end"] xI) :
  aI P w K mg base bB 2 f fd ["_law_rows","_law_seats_here","_law_end","_law_turn"] DI:=by
 refine F.gb jV (λvs H Q E h=>?_) λb0 H vs Q E hr h=>?_
 ·obtain⟨R,d,t,as,n,ks,e,rfl,_⟩:=h;rfl
 obtain⟨R,d,t,as,n,ks,e,rfl,hR,hS,hT,ht,he,q⟩:=h;have nd:=jV.nd;have ho:=cZ hT he;obtain⟨z,hz⟩:=af.mp ho;have a7:=cN hz;have oB:=f9 hz;obtain⟨a,ea,dj,et,el,er⟩:=hR.at a7;show Run _ _ _ [some<|.ref R,some<|.ref d,some<|.ref t,some<|.int 1,none] H;refine aW 4 nd<|bn G hr<|ah<|ae 0<|ah<|ae 1<|ah<|ae 2<|ay ⟨R,d,t,as,n,ks,e,rfl,hR,hS,hT,ht,he,λu hu=>?_⟩;show Run _ _ _ [some<|.ref R,some<|.ref d,some<|.ref t,some<|.int 1,some<|.ref u] H;refine bO<|eF<|ah<|aU bJ<|ae 4<|aC ⟨u,_,_,.int ((other n e).1:Int),rfl,rfl,aJ.of hu,rfl,?_⟩;refine ah<|aZ cG<|aZ fI<|aU bJ<|ae 4<|aC ⟨u,_,_,.int ((other n e).2:Int),rfl,rfl,aJ.of hu,rfl,ae 3 ⟨_,_,rfl,rfl,?_⟩⟩;refine bW cX T.len DK<|ah<|aU bJ<|aU cH<|ae 0<|aU bJ<|ae 4<|aC ⟨u,_,_,.int ((other n e).1:Int),rfl,rfl,aJ.of hu,rfl,R,_,_,.ref a.1,rfl,rfl,aq.of hR.lst,dj,aC ⟨a.1,_,_,.ref a.2,rfl,rfl,aJ.of et,rfl,ay ⟨a.2,_,rfl,.inl<|aq.of el,?_⟩⟩⟩;rw [Aa];refine⟨_,_,rfl,rfl,by omega,ay ⟨Z2,λp hp=>?_⟩⟩;refine q p _ (aS hp _) hp ?_;rw [aw];unfold Nt.step Nt.left;show some (HO.tup [.int ((other n e).1:Int),.int<|(((other n e).2:Int)+1) % ((row n (other n e).1).length:Int)])=some (HO.tup [.int ((other n e).1:Int),.int ((((other n e).2+1) % (row n (other n e).1).length:Nat):Int)]);rw [Int.natCast_emod];rfl
abbrev NF:List Str:=["_law_rows","_law_seats_here","_law_end","_law_face_here","_law_here"]
theorem jW:ak NF ["_law_rows","_law_seats_here","_law_end"] (a8 Dt):=⟨rfl,rfl,rfl,by decide +kernel,rfl,by decide +kernel,by decide +kernel⟩
def fU(n:Net)(e:Nt.End)(j:Nat):List Nt.End:=(List.range j).map λi=>it (step n) i e
theorem Yp(n:Net)(e:Nt.End)(j:Nat):fU n e (j+1)=fU n e j++[it (step n) j e]:=by
 unfold fU;rw [Do,Aj];rfl
theorem Yq{f:Addr}{fd:FuncData}(F:bE K "_law_face" "_law_face" Dt f fd)(T:Txt mg)(G:aO P w K mg base 2 "_law_step" ["_law_rows","_law_seats_here","_law_end","_law_turn"] DI) :
  aI P w K mg base bB 3 f fd ["_law_rows","_law_seats_here","_law_end"] DJ:=by
 refine F.gb jW (λvs H Q E h=>?_) λb0 H vs Q E hr h=>?_
 ·obtain⟨R,d,t,as,n,ks,e,rfl,_⟩:=h;rfl
 obtain⟨R,d,t,as,n,ks,e,rfl,hR,hS,hT,ht,he,hb,q⟩:=h;have nd:=jW.nd;have hu:=hr.fQ;obtain⟨k,k0,k1,k2⟩:=CH (f:=step n) (S:=ends n) (λa ha=>rg hT ha) (λa ha b hb=>M8 hT ha hb) he;show Run _ _ _ [some<|.ref R,some<|.ref d,some<|.ref t,none,none] H;refine aW 3 nd<|cY<|ah<|ae 2<|ay ⟨Z1,λl hl=>?_⟩;have g1:=aS hl<|.lst [.ref t];refine aW 4 nd<|bn G hr<|ah<|ae 0<|ah<|ae 1<|ah<|ae 2<|ah<|aC<|ay ⟨R,d,t,as,n,ks,e,rfl,hR.same g1,hS.same g1,hT,g1 _ _ ht,he,λu H1 s1 nu eu=>?_⟩;show Run _ _ _ [some<|.ref R,some<|.ref d,some<|.ref t,some<|.ref l,some<|.ref u] H1;refine xa (λm σ H2=>∃(j:Nat) (ts:List Addr) (u:Addr),m=k - j/\0 < j/\j<=k/\aj H H2/\H2 l=some (.lst<|ts.map V.ref)/\Pd H2 ts (fU n e j)/\H2 u=some (Tp<|it (step n) j e)/\(∀ i,0 < i->i < j->it (step n) i e≠e)/\σ=[some<|.ref R,some<|.ref d,some<|.ref t,some<|.ref l,some<|.ref u])
  (m0:=k - 1) ⟨1,[t],u,rfl,Fg,k0,g1.trans s1,s1 _ _ aw,.cons (s1 _ _<|g1 _ _ ht) .nil,eu,λi h1 h2=>by omega,rfl⟩ ?_
 rintro m σ H2 ⟨j,ts,u,rfl,j0,j1,sH,el,ep,eu,hf,rfl⟩;refine cb (tN hu) (ae 4<|ae 2 ⟨1,_,by decide,X8 eu<|sH _ _ ht,_,rfl,?_⟩);have pl:=ep.length;have ol:(fU n e j).length=j:=by unfold fU;simp
 by_cases c:it (step n) j e=e
 ·rw [BW c];refine bj (bO<|ae 3<|q l ts (fU n e j) H2 sH hl el ep ⟨by omega,by omega,λi hi=>?_,by rw [ol];exact c,λi h1 h2=>hf i h1<|by omega⟩);unfold fU;rw [Ah,Eb<|by omega];rfl
 ·rw [BR c];have jk:j < k:=by
   rcases Dg j k with h | h
   ·exact h
   ·have:j=k:=by omega
    subst this;exact absurd k2 c
  refine cM (gC<|jr<|ae 3 ⟨l,rfl,⟨_,el⟩,ae 4 ⟨_,el,by rw [Aa];exact bS (by omega),?_⟩⟩);have s2:aj H (upd H2 l<|.lst<|ts.map V.ref++[.ref u]):=dN sH hl;have kt:∀ b f,H2 b=some (Tp f)->(upd H2 l<|.lst<|ts.map V.ref++[.ref u]) b=some (Tp f):=λb f h=>by
   rw [av<|tO h el];exact h
  have Ni:=kt u _ eu;refine aW 4 nd<|bn G hr<|ah<|ae 0<|ah<|ae 1<|ah<|ae 4<|ah<|aC<|ay ⟨R,d,u,as,n,ks,it (step n) j e,rfl,hR.same s2,hS.same s2,hT,Ni,jT (λa ha=>rg hT ha) he j,λv H3 s3 nv ev=>?_⟩;refine aY ⟨k - (j+1),by omega,j+1,ts++[u],v,rfl,Fy _,jk,s2.trans s3,?_,?_,ev,λi h1 h2=>?_,rfl⟩
  ·rw [Aj];exact s3 _ _ aw
  ·rw [Yp];exact(ep.keep λb f h=>s3 _ _<|kt b f h).append<|.cons (s3 _ _ Ni) .nil
  ·rcases Nat.lt_succ_iff_lt_or_eq.mp h2 with h | h
   ·exact hf i h1 h
   ·rw [h];exact c
end
end E5
namespace Nt
open PySem L2
def Full(n:Net):Prop:=(∃ nm,n=[(nm,[])])\/(n≠[]/\∀ i,i < n.length->row n i≠[])
def d6(n:Net)(c:End):Prop:=c.1 < n.length/\c.2 < max 1 (row n c.1).length
def ins(n:Net)(c:End)(z:Str):Net:=n.modify c.1 λr=>(r.1,r.2.take c.2++z :: r.2.drop c.2)
theorem gF(n:Net)(c:End)(z:Str):(ins n c z).length=n.length:=by unfold ins;rw [List.length_modify]
theorem DM(n:Net)(c:End)(z:Str):(ins n c z).map (·.1)=n.map (·.1):=by
 unfold ins;refine Du λi=>?_;rw [Ah,Ah,Fh];cases n[i]? with
 | none=>rfl
 | some r=>by_cases h:c.1=i <;> simp [h]
theorem ri(n:Net)(c:End)(z:Str)(i:Nat)(hc:c.1 < n.length):row (ins n c z) i=if c.1=i then(row n i).take c.2++z :: (row n i).drop c.2 else row n i:=by
 unfold row ins;rw [Fh]
 by_cases h:c.1=i
 ·subst h;rw [Ab hc];simp
 ·rw [BL h];cases n[i]? with
  | none=>simp [h]
  | some r=>simp [h]
theorem kL:∀(n:Net) (c:End) (z:Str),c.1 < n.length->(ag<|ins n c z).Perm (z :: ag n)
 | [],c,z,h=>by simp at h
 | a :: n,(0,p),z,h=>by
  unfold ins ag;simp only [List.modify_zero_cons,Cd];have:(a.2.take p++z :: a.2.drop p).Perm (z :: a.2):=by
   refine List.perm_middle.trans ?_;rw [Dl]
  exact this.append_right _
 | a :: n,(i+1,p),z,h=>by
  have ih:=kL n (i,p) z (by simpa using h);unfold ins ag at ih ⊢;simp only [List.modify_succ_cons,Cd];refine(ih.append_left a.2).trans ?_;exact List.perm_middle
theorem DS{n:Net}{c:End}{z:Str}(F:Full n)(hc:c.1 < n.length):n.length=1\/(∀ i,i < n.length->row n i≠[])->(∀ i,i < (ins n c z).length->row (ins n c z) i≠[])/\ins n c z≠[]:=by
 intro h;have hl:=gF n c z;refine⟨λi hi=>?_,λe=>?_⟩
 ·rw [ri n c z i hc]
  by_cases q:c.1=i
  ·rw [BP q];simp
  ·rw [BL q]
   rcases h with h | h
   ·rw [hl] at hi;omega
   ·exact h i<|by omega
 ·rw [e] at hl;simp at hl;omega
theorem Full.some{n:Net}(F:Full n):n≠[]:=by
 rcases F with ⟨nm,rfl⟩ | h
 ·simp
 ·exact h.1
theorem Full.either{n:Net}(F:Full n):n.length=1\/(∀ i,i < n.length->row n i≠[]):=by
 rcases F with ⟨nm,rfl⟩ | h
 ·exact .inl rfl
 ·exact .inr h.2
theorem Full.cF{n:Net}(F:Full n)(h0:row n 0≠[]){c:End}(hc:d6 n c):c∈ends n:=by
 rcases F with ⟨nm,rfl⟩ | h
 ·exact absurd rfl h0
 ·have:=h.2 c.1 hc.1;have hp:0 < (row n c.1).length:=Dj.mpr this;have a7:c.2 < (row n c.1).length:=by
   have:=hc.2;omega
  exact af.mpr<|xg a7
theorem Yr{n:Net}{e:End}(h:e∈ends n):d6 n e:=by
 obtain⟨z,h⟩:=af.mp h;have:=f9 h;exact⟨cN h,by omega⟩
def pB(H H':Hp)(bad:List Addr):Prop:=∀ b o,H b=some o->b∉bad->H' b=some o
theorem Nj(zs:List Str)(i:Nat)(z:Str):insertAt (zs.map V.str) i (.str z)=(zs.take i++z :: zs.drop i).map V.str:=by
 unfold insertAt;rw [Aj,Bj,List.map_take,List.map_drop]
theorem ai.ins{H:Hp}{R:Addr}{as:List (Addr×Addr)}{n:Net}(h:ai H R as n){c:End}{z:Str}{a:Addr×Addr}(ha:as[c.1]?=some a)(hc:c.1 < n.length) :
  ai (upd H a.2<|Ls<|(row n c.1).take c.2++z :: (row n c.1).drop c.2) R as (Nt.ins n c z):=by
 have q0:=h.tup c.1 a n[c.1] ha<|Ab hc;have Ys:R≠a.2:=by
  intro e;have h1:=h.lst;rw [e,q0.2] at h1;have h2:=HO.lst.inj<|Option.some.inj h1;have h3:=BZ List.length h2;cases hm:n[c.1].2 with
  | nil=>
   rw [hm] at h2;have:as.map (λa=>V.ref a.1)=[]:=h2.symm;have hl:=BZ List.length this;rw [Aa,h.len] at hl;rw [hl] at hc;exact absurd hc<|Dy _
  | cons y r=>
   rw [hm] at h2;cases as with
   | nil=>simp at h2
   | cons b bs=>
    simp at h2
 have er:row n c.1=n[c.1].2:=by unfold row;rw [Ab hc];rfl
 refine⟨by rw [gF];exact h.len,by rw [av Ys];exact h.lst,λi b r hb hr=>?_,h.inj⟩;unfold Nt.ins at hr;rw [Fh] at hr;cases hn:n[i]? with
 | none=>rw [hn] at hr;by_cases q:c.1=i <;> simp [q] at hr
 | some r0=>
  rw [hn] at hr;have q1:=h.tup i b r0 hb hn;have t1:b.1≠a.2:=ce q1.1 q0.2 λe=>nomatch e
  by_cases q:c.1=i
  ·subst q;rw [Ab hc] at hn;cases hn;rw [ha] at hb;cases hb;simp at hr;subst hr;refine⟨by rw [av t1];exact q1.1,?_⟩;rw [aw,er]
  ·simp [q] at hr;subst hr;have t2:b.2≠a.2:=λe=>by
    have l1:i < as.length:=(Ac.mp hb).1;have l2:c.1 < as.length:=(Ac.mp ha).1;have x1:(as.map (·.2))[i]?=some b.2:=by rw [Ah,hb];rfl
    have x2:(as.map (·.2))[c.1]?=some a.2:=by rw [Ah,ha];rfl
    obtain⟨y1,z1⟩:=Ac.mp x1;obtain⟨y2,z2⟩:=Ac.mp x2;exact q<|(Gd (h₀:=y2) (h₁:=y1) h.inj).mp<|z2.trans<|e.symm.trans z1.symm
   exact⟨by rw [av t1];exact q1.1,by rw [av t2];exact q1.2⟩
theorem ai.more{H:Hp}{R t l:Addr}{as:List (Addr×Addr)}{n:Net}{pt:Str}{zs:List Str}(h:ai H R as n)(ht:H t=some (.tup [.str pt,.ref l]))(hl:H l=some (Ls zs))(hn:l∉as.map (·.2))(hR:l≠R) :
  ai (upd H R<|.lst<|as.map (λa=>V.ref a.1)++[.ref t]) R (as++[(t,l)]) (n++[(pt,zs)]):=by
 have bY:=h.len;refine⟨by rw [Af,Af,bY];rfl,by rw [aw,Aj];rfl,λi b r hb hr=>?_,?_⟩
 ·rcases Dg i as.length with c | c
  ·rw [As c] at hb;rw [As<|by omega] at hr;have q:=h.tup i b r hb hr;have t1:b.1≠R:=ce q.1 h.lst λe=>nomatch e;have t2:b.2≠R:=by
    intro e;have h1:=h.lst;rw [<- e,q.2] at h1;have h2:=HO.lst.inj<|Option.some.inj h1;cases as with
    | nil=>simp at c
    | cons b' bs=>
     cases hm:r.2 with
     | nil=>rw [hm] at h2;simp at h2
     | cons y r=>rw [hm] at h2;simp at h2
   exact⟨by rw [av t1];exact q.1,by rw [av t2];exact q.2⟩
  ·have e:i=as.length:=by
    have:=(Ac.mp hb).1;rw [Af] at this;simp at this;omega
   subst e;rw [Az<|Al _] at hb;rw [bY,Az<|Al _] at hr;simp at hb hr;subst hb hr;have t1:t≠R:=ce ht h.lst λe=>nomatch e;exact⟨by rw [av t1];exact ht,by rw [av hR];exact hl⟩
 ·rw [Aj,Ci];exact⟨h.inj,by simp,λx hx y hy e=>by simp at hy;subst hy e;exact hn hx⟩
theorem ai.lists{H:Hp}{R:Addr}{as:List (Addr×Addr)}{n:Net}(h:ai H R as n){x:Addr×Addr}(hx:x∈as):∃ zs,H x.2=some (Ls zs):=by
 obtain⟨i,hi,e⟩:=Cv.mp hx;have hl:=h.len;exact⟨_,(h.tup i x (n[i]'(by omega)) (by rw [<- e];exact Ab hi)<|Ab<|by omega).2⟩
theorem ai.fresh{H:Hp}{R l:Addr}{as:List (Addr×Addr)}{n:Net}(h:ai H R as n)(hl:H l=none){x:Addr×Addr}(hx:x∈as):l≠x.2:=by
 obtain⟨zs,e⟩:=h.lists hx;exact(bg e hl).symm
theorem jt(n:Net):(ends n).length=(ag n).length:=by
 unfold ends bo;rw [Aa,<- kJ n 0,Aa]
theorem fh.ends{n:Net}(T:ax n){e:End}{fs:List End}(h:fh n e fs)(he:e∈ends n):∀ c∈fs,c∈Nt.ends n:=by
 intro c hc;obtain⟨i,hi,e2⟩:=Cv.mp hc;have:=h.at' i hi;rw [Ab hi,e2] at this;rw [Option.some.inj this];exact jT (λa ha=>rg T ha) he i
theorem xJ{n:Net}{c k:End}{z:Str}(hc:d6 n c)(hk:k.1 < n.length):d6 (ins n k z) c:=by
 refine⟨by rw [gF];exact hc.1,?_⟩;rw [ri n k z c.1 hk];have:=hc.2
 split
 ·rw [Af,Aq,Bf,Db];omega
 ·exact this
def dbl(zs:List Str):List Str:=zs.flatMap λz=>[z,z]
theorem DT(y:Str):∀ zs:List Str,(dbl zs).count y=2 * zs.count y
 | []=>rfl
 | z :: r=>by
  unfold dbl;rw [Cd];have ih:=DT y r;unfold dbl at ih;rw [Dk,ih,Da,Da,Da,List.count_nil];omega
theorem iz{y:Str}{zs:List Str}:y∈dbl zs↔y∈zs:=by
 rw [<- Cq,DT,<- Cq];omega
theorem DU:∀ zs:List Str,(dbl zs).length=2 * zs.length
 | []=>rfl
 | z :: r=>by
  unfold dbl;rw [Cd,Af];have ih:=DU r;unfold dbl at ih;rw [ih,Aq];simp;omega
theorem Yu(zs:List Str)(z:Str):dbl (zs++[z])=dbl zs++[z,z]:=by
 unfold dbl;rw [Er];rfl
theorem Nk{n:Net}{zs:List Str}(hn:zs.Nodup)(p:(ag n).Perm<|dbl zs):ax n:=λz hz=>by
 rw [p.count_eq,DT];have h1:z∈zs:=iz.mp<|p.mem_iff.mp hz;rw [hn.count,BP h1]
def NE(n:Net):Prop:=∀ r∈n,r.2≠[]
theorem iZ{n:Net}{i:Nat}(h:i < n.length):row n i=n[i].2:=by unfold row;rw [Ab h];rfl
theorem Yv{n:Net}(h:NE n)(h0:n≠[]):Full n:= .inr ⟨h0,λi hi=>by rw [iZ hi];exact h _<|Bt hi⟩
theorem Full.ne{n:Net}(h:Full n):(∃ nm,n=[(nm,[])])\/NE n:=by
 rcases h with h | ⟨_,h⟩
 ·exact .inl h
 ·refine .inr λr hr=>?_;obtain⟨i,hi,rfl⟩:=Cv.mp hr;have:=h i hi;rwa [iZ hi] at this
theorem Nm:∀(n:Net) (k:Nat) (h:k < n.length),(ag n).Perm<|n[k].2++ag (n.eraseIdx k)
 | [],k,h=>by simp at h
 | a :: n,0,h=>by unfold ag;simp
 | a :: n,k+1,h=>by
  have ih:=Nm n k (by simpa using h);unfold ag at ih ⊢;simp only [Cd,List.getElem_cons_succ,RL];refine(ih.append_left a.2).trans ?_;rw [<- Ar,<- Ar];exact List.perm_append_comm.append_right _
theorem Yw(n:Net)(k:Nat)(h:k < n.length):(n.map (·.1)).Perm (n[k].1 :: (n.eraseIdx k).map (·.1)):=by
 have:=(bM.bK n k h).map (·.1);exact this.symm
theorem DV(zs:List Str)(i:Nat):(zs.drop i++zs.take i).Perm zs:=by
 refine Cf.trans ?_;rw [Dl]
theorem ai.upd{H:Hp}{R x:Addr}{as:List (Addr×Addr)}{n:Net}(h:ai H R as n){xs:List V}{o:HO}(hx:H x=some (.lst xs))(hR:R≠x)(ha:∀ a∈as,a.2≠x):ai (upd H x o) R as n:=by
 refine⟨h.len,by rw [av hR];exact h.lst,λi a r h1 h2=>?_,h.inj⟩;have q:=h.tup i a r h1 h2;exact⟨by rw [av<|ce q.1 hx λe=>nomatch e];exact q.1,by rw [av<|ha a<|Ap h1];exact q.2⟩
theorem DZ{α:Type}(l:List α)(k i:Nat):(l.eraseIdx k)[i]?=if i < k then l[i]? else l[i+1]?:=by
 rw [Fz]
theorem ai.erase{H:Hp}{R:Addr}{as:List (Addr×Addr)}{n:Net}(h:ai H R as n){k:Nat}(hk:k < n.length) :
  ai (L2.upd H R<|.lst<|(as.map λa=>V.ref a.1).eraseIdx k) R (as.eraseIdx k) (n.eraseIdx k):=by
 have hl:=h.len;refine⟨by rw [Cu,Cu,hl],?_,λi a r h1 h2=>?_,?_⟩
 ·rw [aw]
  congr 2
  refine Du λi=>?_;rw [DZ,Ah,Ah,Ah,DZ]
  split <;> rfl
 ·rw [DZ] at h1 h2;have q:H a.1=some (.tup [.str r.1,.ref a.2])/\H a.2=some (Ls r.2):=by
   by_cases c:i < k
   ·rw [BP c] at h1 h2;exact h.tup i a r h1 h2
   ·rw [BL c] at h1 h2;exact h.tup (i+1) a r h1 h2
  have t2:a.2≠R:=by
   intro e;have h3:=h.lst;rw [<- e,q.2] at h3;have h4:=HO.lst.inj<|Option.some.inj h3;cases as with
   | nil=>simp at hl;simp [<- hl] at hk
   | cons b bs=>
    cases hm:r.2 with
    | nil=>rw [hm] at h4;simp at h4
    | cons y r=>rw [hm] at h4;simp at h4
  exact⟨by rw [av<|ce q.1 h.lst λe=>nomatch e];exact q.1,by rw [av t2];exact q.2⟩
 ·have:((as.eraseIdx k).map (·.2)).Sublist (as.map (·.2)):=(List.eraseIdx_sublist as k).map _;exact h.inj.sublist this
theorem Yx(zs:List Str)(i:Nat):dC (zs.map V.str) (some (i:Int)) none=(zs.drop i).map V.str:=by
 unfold dC;rw [HT.ie,HT.fK,Aa];rw [Cp (by rw [Db,Aa];omega),List.map_drop]
 rcases Nat.le_total i zs.length with h | h
 ·rw [Nat.min_eq_left h]
 ·rw [Nat.min_eq_right h,TF (by simp),TF<|by simpa using h]
theorem Yy(zs:List Str)(i:Nat):dC (zs.map V.str) none (some (i:Int))=(zs.take i).map V.str:=by
 unfold dC;rw [HT.ie,HT.fK,Aa,List.drop_zero,VF,List.map_take]
 rcases Nat.le_total i zs.length with h | h
 ·rw [Nat.min_eq_left h]
 ·rw [Nat.min_eq_right h,Cp (by simp),Cp<|by simpa using h]
end Nt
namespace L2
open PySem PySem.Spec PyProof.Rows
theorem D0{X:Cx}{e tg iter:Expr}{ifs:List Expr}{scope:Scope}{pz:Pos}{gs:List Comprehension}{newAcc:Sem Value}{o0:Obj}{u0:Addr->HO}{inner:Value->Env->Sem Unit}{wi:TI}{σ:St}{H:Hp}{Q:VK}
  (dW:∀(Q:Value->Shared->Prop) (E:Value->Shared->Prop) (s:Shared),Q (.ref s.heap.objs.size) {s with heap:=s.heap.push o0}->wpAny (model X.prog X.w) X.A newAcc Q E s) (gP:∀(H:Hp) (h:Heap),sysModules < h.objs.size->aD X.prog X.w H (h.push o0) h.objs.size (u0 h.objs.size))
  (hC:∀ acc env,Clause e 0 tg iter ifs acc env<|inner acc env) (he:eval e X.env=comprehension e scope X.env pz newAcc false (eval iter X.env) none) (iX:clausesOf e=⟨tg,iter,ifs,0⟩ :: gs)
  (sc:Scope) (N N':List Str) (n:Nat) (hi:PI X tg iter wi)
  (h:wi σ H λJ H1=>∀ D,H1 D=none->∀ cl C s₀ H₀ ex,iV (fz X N' scope cl C s₀ H₀ ex) tg ifs (inner (.ref D)<|compEnvC scope cl C X.env) J (λ_ H'=>Q (.ref D) H') (σ++List.replicate n none)<|upd H1 D<|u0 D)
  (hc:X.calm=true) (lP:X.env.scope=sc) (hN:X.N=N) (hk:oQ sc scope N N'=true) (hl:N'.length=N.length+n) (hs:∀ x,foldedSetIterable iter X.env x=pure x):Ev X e σ H Q:=by
 refine⟨λpins s I=>?_⟩;subst lP hN;have ck:=cD.of hk;rw [he];refine wpAny_comprehension_free (use:=none) iX hs (Lz λx hx hf=>I.ok.has x.1<|ck.free x hx hf) ck.kind ck.names<|aQ (hi pins s σ H _ I h) λv s1 h1=>aQ h1 λqD s2 h2=>?_;obtain⟨it,fp,tn,J,H2,e,I2,T,ib,f2,q⟩:=h2;subst e;refine L4 dW gP (Q:=Q) (RR:=λacc C=>compPost (model X.prog X.w) X.A X.xe none (EP X pins σ Q) acc C) hc ck hl hC I2 T ib f2 q ?_;intro D C H' s' m IX hn hC c1 c2 c3 c4 qq;exact⟨m,hn,λh' iW=>⟨.ref D,H',IX.turned (t':=s'.toks) (λb o hb e=>iW.extBut b o hb e) hC (CG<|CG c1) (.inr c2) c3 c4,rfl,qq⟩⟩
theorem Nn{P:Program}{w:World}{k:Key}{u:Value}(h:(cS P w).is k u=true):RelV (kV k) u:=by
 rcases kq h with ⟨i,t,rfl,rfl⟩ | ⟨x,t,rfl,rfl⟩ <;> exact⟨t,rfl⟩
section
variable{X:Cx}{pins:List (Addr×Obj)}{σ:St}{H:Hp}{s:Shared}
theorem Yz{xs:List V}:∀{vs:List Value},vs.length=xs.length->(∀(j:Nat) u,vs[j]?=some u->∃ x,xs[j]?=some x/\RelV x u)->az xs vs:=by
 induction xs with
 | nil=>
  intro vs h _;cases vs with
  | nil=>exact .nil
  | cons a b=>simp at h
 | cons x r ih=>
  intro vs h g;cases vs with
  | nil=>simp at h
  | cons u q=>
   obtain⟨x',e,ru⟩:=g 0 u rfl;simp only [RP,Option.some.injEq] at e;subst e;exact .cons ru<|ih (by simpa using h) λj u hu=>by simpa using g (j+1) u (by simpa using hu)
theorem YB(hc:X.calm=true):fH X (.type "list") (λxs H Q=>∃ a kvs,xs=[.ref a]/\Rd H a (.dK kvs)/\∀ l,H l=none->Q (.ref l) (upd H l<|.lst<|kvs.map λp=>kV p.1)):=by
 intro pins s σ H xs us Q I r h;obtain⟨a,kvs,rfl,hH,q⟩:=h;obtain⟨u,rfl,ru⟩:=vals1 r;cases (show u=Value.ref a from ru);obtain⟨z,hd,vs,rel,dd⟩:=mV I.aG hH;obtain⟨ep,da⟩:=dd.dictAt;have hl:=rel.length;refine PySem.W.kdl_call (PySem.W.kdl_dict (knd:=cS X.prog X.w) (kvs:=vs) (ep:=ep) hd) (I.ok.hd hc) da (by omega) λh' tk acc c' hk hS tT=>?_;have rv:az (kvs.map λp=>kV p.1) acc.toList:=by
  refine Yz (by rw [Bm,tT.1,Aa];omega) λj u hu=>?_;obtain⟨k,x,e,g⟩:=tT.2 j u (by rw [<- Bq];exact hu);refine⟨kV k,?_,Nn g⟩;have e2:(kvs.map (·.1))[j]?=some k:=by rw [rel.keys,Ah,e];rfl
  rw [Ah,Aw] at e2;obtain⟨p,e3,e4⟩:=e2;rw [Ah,e3,<- e4];rfl
 exact⟨.ref s.heap.objs.size,_,I.laid (t':=tk) hk (Al _) (show aD X.prog X.w _ h' _ (.lst<|kvs.map λp=>kV p.1) from⟨by rw [Aa];exact z,acc.toList,c',rv,by rw [Array.toArray_toList];exact hS⟩),rfl,q _<|I.aG.fresh<|Al _⟩
theorem YC{d:Addr}{kvs:List (Key×V)}(I:Inv X pins σ H s)(e:H d=some (.dK kvs)):∃ o,s.heap.get? d=some o/\Inv X pins σ (upd H d<|.bD o<|.dK kvs) s:=by
 obtain⟨z,hd,vs,rel,dd⟩:=tj I.aG e;obtain⟨o,es,ep,ho,rest⟩:=id dd;refine⟨o,ho,?_⟩;exact mW (t':=s.toks) I (by rw [e];exact True.intro) ⟨rfl,λ_ _=>rfl⟩ ⟨o,ho⟩ (show aD X.prog X.w _ s.heap d (.bD o<|.dK kvs) from⟨ho,z,hd,vs,rel,dd⟩)
def D1(d:Addr)(o:Obj)(kvs:List<|Key×V):It:=
 ⟨λi H=>H d=some (.bD o<|.dK kvs)/\i < kvs.length,λi H x H'=>H'=H/\∃ p,kvs[i]?=some p/\x=kV p.1,λi H=>H d=some (.bD o<|.dK kvs)/\kvs.length<=i⟩
theorem Np{P:Program}{w:World}{h:Heap}{d:Addr}{o:Obj}{es:Array DictEntry}{ep:Nat}{kvs:List (Key×V)}(aG:cv P w H h)(e:H d=some (.bD o<|.dK kvs))(hd:o.data = .dict es ep):∃ vs,KV kvs vs/\h.DictAt (cS P w) d vs ep:=by
 obtain⟨ho,z,_,vs,rel,dd⟩:=(show aD P w H h d (.bD o<|.dK kvs) from aG d _ e);obtain⟨mP,o',eV,dt,r1,r2,r3⟩:=dd.dictAt;have:o=o':=Option.some.inj<|ho.symm.trans dt;subst this;rw [hd] at r2
 injection r2 with e1 e2
 subst e1;subst e2;exact⟨vs,rel,o,es,dt,r1,hd,r3⟩
theorem YD{P:Program}{w:World}{K:PySem.W.Frag}{tg:Expr}(d it:Addr)(o:Obj)(es:Array DictEntry)(ep:Nat)(kvs:List<|Key×V)(kN:o.data = .dict es ep):Turn P w K tg (D1 d o kvs) [it] it (λi h=>h.IsKeyIter it d i kvs.length ep) where
 mem:=by simp
 obj:=λi h st b hb=>by
  have e:b=it:=by simpa using hb
  subst e;obtain⟨o,e,c,d⟩:=st;exact⟨o,e,λv z=>by rw [d] at z;cases z⟩
 keep:=λi h h' st k=>let ⟨o,ho,r⟩:=st;⟨o,k it (by simp) o ho,r⟩
 item:=by
  intro X hP hw hK hc i pins s σ H E I hf st hg;subst hP hw hK;obtain⟨f0,f1,f2,f3,f4,f5⟩:=hf it (by simp);obtain⟨hd,hi⟩:=hg;obtain⟨vs,rel,da⟩:=Np I.aG hd kN;have hl:=rel.length;have qS:i < vs.length:=by omega
  have hx:vs[i]?=some vs[i]:=Ab qS;rw [hl] at st;refine wpAny_pyNext_dict_item (k:=vs[i].1) (v:=vs[i].2) st da hx λkey h' hk cV iW=>?_;have I1:Inv X pins σ H {s with heap:=h'}:=I.turned (t':=s.toks) (λb o hb e=>iW.extBut b o hb e) f0 f1 f3 f4 f5;obtain⟨o2,e2,c2,d2⟩:=id cV;refine⟨_,rfl,wq (s:={s with heap:=h'}) e2 c2 d2 (by decide) ⟨kV vs[i].1,H,I1,Nn hk,⟨rfl,kvs[i],Ab hi,?_⟩,by rw [hl];exact cV,λb hb=>(hf b hb).1⟩⟩;have ek:=rel.keys;have e3:(kvs.map (·.1))[i]?=(vs.map (·.1))[i]?:=by rw [ek]
  rw [Ah,Ah,Ab hi,hx] at e3;have e4:kvs[i].1=vs[i].1:=Option.some.inj e3;rw [e4]
 done:=by
  intro X hP hw hK hc i pins s σ H E I hf st hg;subst hP hw hK;obtain⟨f0,f1,f2,f3,f4,f5⟩:=hf it (by simp);obtain⟨hd,hi⟩:=hg;obtain⟨vs,rel,da⟩:=Np I.aG hd kN;have hl:=rel.length;rw [hl] at st;exact wpAny_pyNext_dict_end (I.ok.hd hc) st da (by rw [Bd];omega) λh' eb=>⟨rfl,I.turned (t':=s.toks) (λb o hb e=>eb b o hb e) f0 f1 f3 f4 f5⟩
 self:=λ_ _ _ _ _ st h=>wpAny_pyIter_keyiter st h
def YF(tl:TE):TI:=λσ H R=>tl σ H λx H1=>∃ d kvs,x = .ref d/\H1 d=some (.dK kvs)/\∀ o,R (D1 d o kvs)<|upd H1 d<|.bD o<|.dK kvs
theorem Nq{tg l:Expr}{tl:TE}(hl:PE X l tl):PI X tg l (YF tl):=by
 intro pins s σ H R I h;refine aQ (hl pins s σ H _ I h) λv s1 ⟨x,H1,I1,r1,q1⟩=>?_;obtain⟨d,kvs,e,hH,q⟩:=q1;subst e;cases (show v=Value.ref d from r1);obtain⟨o,ho,I2⟩:=YC I1 hH;obtain⟨z,pC,vs,rel,dd⟩:=tj I1.aG hH;obtain⟨ep,o',es,dt,r1,r2,r3⟩:=dd.dictAt;have:o=o':=Option.some.inj<|ho.symm.trans dt;subst this;refine wpAny_pyIter_dict pC ⟨o,es,dt,r1,r2,r3⟩ ?_;refine⟨s1.heap.objs.size,[s1.heap.objs.size],_,_,_,rfl,I2.kept (t':=s1.toks) λb o e=>Ag _ e,YD d _ o es ep kvs r2,⟨_,At _ rfl,rfl,by rw [rel.length];rfl⟩,λb hb=>?_,q o⟩;have e:b=s1.heap.objs.size:=by simpa using hb
 subst e;exact I2.iO (Al _)<|I2.aG.fresh<|Al _
end
section
variable{X:Cx}{elt tg:Expr}{ifs:List Expr}{scope:Scope}{σ:St}{H:Hp}{N':List Str}{A a d:Addr}{xs:List V}{kvs:List (Key×V)}{after:Hp->Prop}
theorem nj(Pv:Nat->St->Hp->Prop)(h0:Pv 0 σ H)(hl:∀ i σ' H',i<=xs.length->Pv i σ' H'->aq X.K H' a xs)
  (hs : ∀ i x σ' H', xs[i]? = some x → Pv i σ' H' → wO X N' scope tg x σ' H' λσ2 H3 => wQ X N' scope ifs σ2 H3 λb H4 =>
   if b=true then wN X N' scope elt σ2 H4 λv H5=>∃ ys,H5 A=some (.lst ys)/\ys.length < sizeLine/\Pv (i+1) σ2 (upd H5 A<|.lst<|ys++[v]) else Pv (i+1) σ2 H4)
  (hd:∀ σ' H',Pv xs.length σ' H'->after H'):oO X N' scope tg ifs elt (oo X.K a) A after σ H:=by
 refine⟨λi m σ' H'=>m=xs.length - i/\i<=xs.length/\Pv i σ' H',⟨_,rfl,Bx _,h0⟩,?_⟩;rintro i m σ' H' ⟨rfl,hi,p⟩;have q:=hl i σ' H' hi p
 by_cases a7:i < xs.length
 ·refine .inr ⟨⟨xs,xs[i],q,by simp [a7]⟩,Pv<|i+1,λσ' H' p'=>⟨xs.length - (i+1),by omega,rfl,a7,p'⟩,λx H2 y=>?_⟩;obtain⟨e,y⟩:=y;subst e;exact hs i x σ' _ (y xs q) p
 ·have e:i=xs.length:=by omega
  subst e;exact .inl ⟨⟨xs,q,Al _⟩,hd σ' H' p⟩
theorem Nr{o:Obj}(Pv:Nat->St->Hp->Prop)(h0:Pv 0 σ H)(hl:∀ i σ' H',i<=kvs.length->Pv i σ' H'->H' d=some (.bD o<|.dK kvs))
  (hs : ∀ i p σ' H', kvs[i]? = some p → Pv i σ' H' → wO X N' scope tg (kV p.1) σ' H' λσ2 H3 => wQ X N' scope ifs σ2 H3 λb H4 =>
   if b=true then wN X N' scope elt σ2 H4 λv H5=>∃ ys,H5 A=some (.lst ys)/\ys.length < sizeLine/\Pv (i+1) σ2 (upd H5 A<|.lst<|ys++[v]) else Pv (i+1) σ2 H4)
  (hd:∀ σ' H',Pv kvs.length σ' H'->after H'):oO X N' scope tg ifs elt (D1 d o kvs) A after σ H:=by
 refine⟨λi m σ' H'=>m=kvs.length - i/\i<=kvs.length/\Pv i σ' H',⟨_,rfl,Bx _,h0⟩,?_⟩;rintro i m σ' H' ⟨rfl,hi,p⟩;have q:=hl i σ' H' hi p
 by_cases a7:i < kvs.length
 ·refine .inr ⟨⟨q,a7⟩,Pv<|i+1,λσ' H' p'=>⟨kvs.length - (i+1),by omega,rfl,a7,p'⟩,λx H2 y=>?_⟩;obtain⟨e,p',ep,y⟩:=y;subst e y;exact hs i p' σ' _ ep p
 ·have e:i=kvs.length:=by omega
  subst e;exact .inl ⟨⟨q,Al _⟩,hd σ' H' p⟩
theorem tU{zs:List Str}(f:Str->Bool)(hz:zs.length < sizeLine)(ha:H a=some (.lst<|zs.map V.str))(hA:H A=none)
  (hg:∀ cl C s₀ H₀ ex v v0 H' R,R (σ++[some v]) H'->Eg (fz X N' scope cl C s₀ H₀ ex) tg v (σ++[v0]) H' R)
  (hi:∀ cl C s₀ H₀ ex z ys T,T (f z) (upd H A<|.lst ys)->Ei (fz X N' scope cl C s₀ H₀ ex) ifs (σ++[some<|.str z]) (upd H A<|.lst ys) T)
  (he:∀ cl C s₀ H₀ ex z H' R,R (V.str z) H'->Ev (fz X N' scope cl C s₀ H₀ ex) elt (σ++[some<|.str z]) H' R) (q:after<|upd H A<|.lst<|(zs.filter f).map V.str) :
  oO X N' scope tg ifs elt (oo X.K a) A after (σ++List.replicate 1 none) (upd H A<|.lst []):=by
 have ne:a≠A:=bg ha hA;refine nj (xs:=zs.map V.str) (λk σ' H'=>(∃ v,σ'=σ++[v])/\H'=upd H A (.lst<|((zs.take k).filter f).map V.str)) ⟨⟨none,rfl⟩,by simp⟩ ?_ ?_ ?_
 ·rintro i σ' H' _ ⟨_,rfl⟩;exact aq.of<|by rw [av ne];exact ha
 ·rintro i x σ' H' hx ⟨⟨v,rfl⟩,rfl⟩;rw [Ah,Aw] at hx;obtain⟨z,YG,rfl⟩:=hx;intro cl C s₀ H₀ ex;refine hg cl C s₀ H₀ ex _ _ _ _ ?_;intro cl C s₀ H₀ ex;refine hi cl C s₀ H₀ ex z _ _ ?_;have e:(zs.take<|i+1).filter f=(zs.take i).filter f++(if f z=true then [z] else []):=by
   rw [Cg,YG,Cn]
   congr 1
   cases hf:f z <;> simp [hf]
  have hlen:((zs.take i).filter f).length<=zs.length:=Bs (Ct _ _)<|by rw [Bf];omega
  by_cases hf:f z=true
  ·rw [BP hf];intro cl C s₀ H₀ ex;refine he cl C s₀ H₀ ex z _ _ ⟨_,aw,by rw [Aa];omega,⟨_,rfl⟩,?_⟩;rw [oe,e,BP hf,Aj];rfl
  ·rw [BL hf];refine⟨⟨_,rfl⟩,?_⟩;rw [e,BL hf,Bi]
 ·rintro σ' H' ⟨_,rfl⟩;have e2:zs.take (zs.map V.str).length=zs:=Cp (by simp);rw [e2];exact q
theorem nn(z:Str)(zs:List Str):qH (.str z) (zs.map V.str)=zs.contains z:=by
 unfold qH
 induction zs with
 | nil=>rfl
 | cons y r ih=>
  rw [Bj,Fq,ih,List.contains_cons]
  congr 1
  show cI (.str y) (.str z)=(z == y)
  by_cases h:y=z
  ·subst h;simp [cI]
  ·have h':z≠y:=λq=>h q.symm;show(y == z)=(z == y);rw [beq_eq_false_iff_ne.mpr h,beq_eq_false_iff_ne.mpr h']
theorem nq(zs:List Str):(zs.map V.str).all jI=true:=by
 rw [Ee];intro x hx;obtain⟨z,_,rfl⟩:=An.mp hx;rfl
theorem iA{e1 e2:Expr}{k:Nat}{pos:Pos}{t:Addr}{x y:V}{R:St->Hp->Prop}(hc:X.calm=true)(ht:aJ X.K H t [x,y])(h:Eg X e1 x σ H λσ1 H1=>Eg X e2 y σ1 H1 R)
  (hn:(assignEach [e1,e2] X.env).length=2:=by rfl) (c9:(assignEach [e1,e2] X.env).findIdx? (·.1)=none:=by rfl)
  (jq:(assignEach [e1,e2] X.env).map (·.2)=assign e1 X.env :: (assignEach [e2] X.env).map (·.2):=by rfl) (rj:(assignEach [e2] X.env).map (·.2)=assign e2 X.env :: (assignEach [] X.env).map (·.2):=by rfl) :
  Eg X (.Tuple [e1,e2] k pos) (.ref t) σ H R:=
 AQ (Kr (t:=qC (λv σ H Q=>Eg X e1 v σ H Q)<|qC (λv σ H Q=>Eg X e2 v σ H Q) om) hc (sw oN (sw oN Kq rj) jq) hn c9) ⟨t,_,rfl,ht,rfl,_,_,rfl,h.mono λσ1 H1 h1=>⟨_,_,rfl,h1.mono λσ2 H2 q=>⟨rfl,q⟩⟩⟩
end
end L2
namespace PySem
theorem getAttr?_miss_list{prog:Program}{w:World}{A:Around}{E:Value->Shared->Prop}{s:Shared}{a:Addr}{o:Obj}{xs:Array Value}{k:Nat}{name:Str}{Q:Option Value->Shared->Prop}
  (hx:s.heap.get? a=some o) (hc:o.cls = .type "list") (iU:o.data = .seq xs k) (hd:o.dict=none) (tV:typeLookup (.type "list") name=pure none) (tW:(["__module__","__name__","__qualname__","__doc__","__annotations__"]:List Str).contains name=false) (hA:A.handled=none)
  (h:∀ h' tk e,Heap.NewExcOf s.heap h' e "AttributeError"->Q none {s with heap:=h',toks:=tk}) (hsz:name.length+100<=sizeLine:=by size_fits) :
  wpAny (model prog w) A (getAttr? (.ref a) name) Q E s:=by
 obtain⟨c,dct,dat,sl⟩:=o;simp only at hc iU hd;subst hc iU hd;obtain⟨hp,g,d,tk,os⟩:=s;have hT:∀ w5,(⟨hp,g,d,w5,os⟩:Shared).TypeIs (.ref a) "list":=λ_=>⟨_,hx,rfl⟩;have f1:=sub_AttributeError;have f3:=F.slot_list_getattribute.lookup;have f4:=F.slot_list_getattribute.bind<|.ref a;have f5:=am_list_getattr_none;unfold getAttr? getAttrBy? getAttrBy
 repeat (any_goals (first | assumption | exact hT _ | ((with_reducible show wpAny _ _ (call (Value.builtin "list.__getattribute__") _ _) _ _ _);refine NQ F.slot_list_getattribute (hT _) am_entry_list_getattribute (F.args_list_getattribute_2 _ _) (meets_getattribute_miss_list a xs k sl name _ tV tW hsz) ⟨hx,hA,λh' w5 e fP=>?_⟩) | wp_step))
 obtain⟨t',u',he⟩:=fP.there;show wpAny _ _ (getattributeRaised _ _ _ _ _ _ _) _ _ _;unfold getattributeRaised
 repeat (any_goals (first | assumption | wp_step))
 exact h _ _ _ fP.of
namespace F
theorem bq:entryFor table "dict.update.loop" = some Builtin.«dict.update.loop»:=entryFor_of_tree<|by kernel_rfl
theorem aN:plainId "dict.update.loop" = true:=by decide +kernel
theorem fj:typeLookup (.type "list") "keys" = pure none:=by rw [RZ,MF];kernel_rfl
end F
section
variable{prog:Program}{w:World}{K:Type} [DecidableEq K] {knd:KeyKind prog w K} {A:Around} {R:Result->Shared->Prop}
def D5(knd:KeyKind prog w K)(h:Heap)(items:List Value)(gg:List<|K×Value):Prop:=
 items.length=gg.length/\∀(j:Nat) it,items[j]?=some it->∃ T key k v o n,it = .ref T/\gg[j]?=some (k,v)/\knd.is k key=true/\h.get? T=some o/\o.cls = .type "tuple"/\o.data = .seq #[key,v] n
theorem YH(kvs:List<|K×Value)(k:K)(v:Value):(stored kvs k v).length<=kvs.length+1:=by
 unfold stored
 split
 ·rw [Aa];omega
 ·rw [Af];simp
theorem YJ{hB:Heap}{d I l:Addr}{items:List Value}{gg:List (K×Value)}(hd:hB.objs.size<=d)(hI:hB.objs.size<=I)(D6:d≠I)(hl:hB.IsList l items.toArray)(hp:D5 knd hB items gg)(hn:items.length < sizeLine)(hh:A.handled=none) :
  ∀(k i:Nat) (s:Shared) (acc:List<|K×Value),items.length - i=k->i<=items.length->(∀ b o,hB.get? b=some o->s.heap.get? b=some o)->s.heap.IsListIter I l i->s.heap.DictOf knd d acc->acc.length<=i ->
   (∀ h' tk,(∀ b o,b≠I->b≠d->s.heap.get? b=some o->h'.get? b=some o)->h'.DictOf knd d ((gg.drop i).foldl (λa p=>stored a p.1 p.2) acc)->R (.ok<|.ret .none) {s with heap:=h',toks:=tk}) ->
   codeAny (model prog w) A (.builtin "dict.update.loop" ⟨[.ref d,.ref I,rawInt i,.none],[]⟩) R s:=by
 have nb:∀ b o,hB.get? b=some o->b≠I/\b≠d:=λb o e=>⟨Bo<|Bg (Ay e) hI,Bo<|Bg (Ay e) hd⟩;intro k
 induction k with
 | zero=>
  intro i s acc hk hi gj c9 hD bY hR;have wU:i=items.length:=by omega
  refine FJ F.bq ?_;rw [EY F.aN _];show wpAny _ A.in1 (pyNext (.ref I) >>= _) _ _ s;have eY:s.heap.IsList l items.toArray:=let ⟨o,ho,r⟩:=hl;⟨o,gj _ _ ho,r⟩
  refine BJ (wpAny_pyNext_list_end hh c9 eY (by simp;omega) λh' eb=>?_);show wpAny _ A.in1 (Builtin.Dict.addKeywords d [] >>= _) _ _ _;refine BJ<|BK<|BK ?_;refine hR h' s.toks (λb o hb _ e=>eb b o hb e) ?_;rw [List.drop_eq_nil_of_le<|by have:=hp.1;omega];exact hD.extBut eb D6
 | succ k ih=>
  intro i s acc hk hi gj c9 hD bY hR;have a7:i < items.length:=by omega
  have hx:items[i]?=some items[i]:=Ab a7;obtain⟨T,key,kk,v,o,n,e1,e2,e3,e4,e5,e6⟩:=hp.2 i _ hx;rw [e1] at hx;refine FJ F.bq ?_;rw [EY F.aN _];show wpAny _ A.in1 (pyNext (.ref I) >>= _) _ _ s;have eY:s.heap.IsList l items.toArray:=let ⟨o,ho,r⟩:=hl;⟨o,gj _ _ ho,r⟩
  refine BJ (wpAny_pyNext_list_item c9 eY (x:= .ref T) (by simpa using hx) λh' cV sb=>?_);have eT:h'.get? T=some o:=(sb.2 T (nb T o e4).1).trans<|gj _ _ e4;refine BJ<|CJ<|BJ<|wpAny_tryCatch ?_;unfold Builtin.Dict.pairItems;refine BJ<|JM (T:= "tuple") ⟨o,eT,e5⟩ ?_;rw [BP<|by decide];refine BJ<|wpAny_seqItems (s:={s with heap:=h'}) eT e6<|BK ?_;show wpAny _ _ (holding [key,v]<|dictSet d key v) _ _ _;refine CJ (wpAny_dictSet_pairs (knd:=knd) (s:={s with heap:=h'}) (k:=kk) e3 (hD.extBut sb.extBut D6) (λh2 D2 Nu=>?_)<|by omega);refine BK ⟨JB F.aN _,?_⟩;have Nv:∀ b o,b≠I->b≠d->s.heap.get? b=some o->h2.get? b=some o:=λb o h1 h3 e=>(Nu.2 b h3).trans<|(sb.2 b h1).trans e;refine ih (i+1) {s with heap:=h2,toks:=s.toks+1} (stored acc kk v) (by omega) a7 (λb o e=>Nv b o (nb b o e).1 (nb b o e).2<|gj _ _ e) (cV.extBut Nu.extBut<|CG D6) D2 (by have:=YH acc kk v;omega) λh3 tk k3 D3=>?_;refine hR h3 tk (λb o h1 oR e=>k3 b o h1 oR<|Nv b o h1 oR e) ?_;have e7:gg.drop i=(kk,v) :: gg.drop (i+1):=by
   obtain⟨hj,e8⟩:=Ac.mp e2;rw [QW hj,e8]
  rw [e7];exact D3
theorem YK{E:Value->Shared->Prop}{s:Shared}{Q:Value->Shared->Prop}{l:Addr}{ol:Obj}{nl:Nat}{items:List Value}{gg:List (K×Value)}(ho:s.heap.get? l=some ol)(hc:ol.cls = .type "list")(kN:ol.dict=none)(D7:ol.data = .seq items.toArray nl)(hp:D5 knd s.heap items gg)(hn:items.length < sizeLine)(hh:A.handled=none)
  (h:∀ h' tk,(∀ b o,s.heap.get? b=some o->h'.get? b=some o)->h'.DictOf knd s.heap.objs.size (gg.foldl (λa p=>stored a p.1 p.2) [])->Q (.ref s.heap.objs.size) {s with heap:=h',toks:=tk}) :
  wpAny (model prog w) A (call (.type "dict") [.ref l]) Q E s:=by
 refine callType_codes (Q₁:=λobj s₁=>obj = .ref s.heap.objs.size/\s₁={s with heap:=s.heap.push {cls:= .type "dict",data:= .dict #[]}}) F.kt_called_dict (F.kt_typeCall_dict_1 _) F.entry_dict_init (kt_code_dict_new _ ⟨rfl,rfl⟩) ?_;rintro obj s₁ ⟨rfl,rfl⟩;have dW:(s.heap.push {cls:= .type "dict",data:= .dict #[]}).DictOf knd s.heap.objs.size []:=Heap.DictOf.new s.heap;have dt:(s.heap.push {cls:= .type "dict",data:= .dict #[]}).get? l=some ol:=Ag _ ho;refine⟨dW.typeIs,F.args_dict_init_2 _ _,?_⟩;unfold Builtin.«dict.__init__»;refine BJ ?_;unfold Builtin.Dict.selfAndRest;refine BJ<|wpAny_notOrdered_dict dW.typeIs ?_;show wpAny _ _ (pure (s.heap.objs.size,[Value.ref l])) _ _ _;refine BK ?_;show wpAny _ _ (Builtin.Dict.updateFrom "dict.__init__" s.heap.objs.size (.ref l) [] .none) _ _ _;unfold Builtin.Dict.updateFrom;refine BJ<|JM (T:= "list") ⟨ol,dt,hc⟩ ?_;rw [BP<|by decide];refine BJ (getAttr?_miss_list dt hc D7 kN F.fj (by decide) (by exact hh) λh' tk e ne=>?_);rw [BP (show(none:Option Value).isNone=true from rfl)];have kp:∀ b o,s.heap.get? b=some o->h'.get? b=some o:=λb o e=>ne.keeps b o<|Ag _ e;refine BJ<|HS ?_;have hL:h'.IsList l items.toArray:=⟨ol,kp _ _ ho,hc,nl,D7⟩;refine BJ<|QL hL ?_;refine BK ⟨JB F.aN _,?_⟩;have Nw:h'.DictOf knd s.heap.objs.size []:=let ⟨o,es,ep,ho,r⟩:=dW;⟨o,es,ep,ne.keeps _ _ ho,r⟩
 have a7:s.heap.objs.size < h'.objs.size:=let ⟨o,es,ep,ho,r⟩:=Nw;Ay ho
 refine YJ (hB:=s.heap) (d:=s.heap.objs.size) (I:=h'.objs.size) (l:=l) (Al _) (Co a7) (Bo a7) ⟨ol,ho,hc,nl,D7⟩ hp hn (by exact hh) _ 0 _ [] rfl (Bx _) (λb o e=>Ag _<|kp b o e) ⟨_,At _ rfl,rfl,rfl⟩ (Nw.push _) (Bx _) λh2 YL k2 D2=>?_;refine⟨rfl,h h2 YL (λb o e=>k2 b o (Bo<|Ay<|kp b o e) (Bo<|Ay e)<|Ag _<|kp b o e) D2⟩
end
end PySem
namespace L2
open PySem PySem.Spec PyProof.Rows
section
variable{X:Cx}{pins:List (Addr×Obj)}{σ:St}{H:Hp}{s:Shared}
theorem YM{kvs:List (Key×V)}:∀{ps:List (Key×V)} {acc:List (Key×Value)} {rs:List (Key×Value)},KV ps acc->KV kvs rs->KV (kvs.foldl (λa p=>putK a p.1 p.2) ps) (rs.foldl (λa p=>stored a p.1 p.2) acc):=by
 induction kvs with
 | nil=>intro ps acc rs h g;cases g;exact h
 | cons p r ih=>
  intro ps acc rs h g;cases g with
  | @cons _ q _ r' hq hr=>
   obtain⟨e1,e2⟩:=hq;rw [Dd,Dd];refine ih ?_ hr;rw [<- e1];exact h.put p.1 e2
theorem Nx{P:Program}{w:World}{h:Heap}:∀{kvs:List (Key×V)} {ts:List Addr},ts.length=kvs.length->(∀(j:Nat) t kv,ts[j]?=some t->kvs[j]?=some kv->∃ key v o m,(cS P w).is kv.1 key=true/\RelV kv.2 v/\h.get? t=some o/\o.cls = .type "tuple"/\o.data = .seq #[key,v] m) ->
  ∃ rs:List<|Key×Value,KV kvs rs/\∀(j:Nat) t,ts[j]?=some t->∃ key k v o m,rs[j]?=some (k,v)/\(cS P w).is k key=true/\h.get? t=some o/\o.cls = .type "tuple"/\o.data = .seq #[key,v] m
 | [],ts,hl,_=>by
  have:ts=[]:=Bk.mp hl;subst this;exact⟨[],.nil,λj t h=>by simp at h⟩
 | kv :: r,[],hl,_=>by simp at hl
 | kv :: r,t :: ts,hl,hp=>by
  obtain⟨key,v,o,m,q1,q2,q3,q4,q5⟩:=hp 0 t kv rfl rfl;obtain⟨rs,hk,hr⟩:=Nx (kvs:=r) (ts:=ts) (by simpa using hl) λj t kv h1 h2=>hp (j+1) t kv (by simpa using h1) (by simpa using h2);refine⟨(kv.1,v) :: rs,.cons ⟨rfl,q2⟩ hk,λj t' ht=>?_⟩;cases j with
  | zero=>
   cases ht;exact⟨key,kv.1,v,o,m,rfl,q1,q3,q4,q5⟩
  | succ j=>
   obtain⟨key,k,v,o,m,e,z⟩:=hr j t' (by simpa using ht);exact⟨key,k,v,o,m,by simpa using e,z⟩
theorem Ny(hc:X.calm=true):fH X (.type "dict") (λxs H Q=>∃(a:Addr) (ts:List Addr) (kvs:List<|Key×V),xs=[.ref a]/\H a=some (.lst<|ts.map V.ref)/\ts.length=kvs.length/\ts.length < sizeLine/\(∀(j:Nat) t kv,ts[j]?=some t->kvs[j]?=some kv->H t=some (.tup [kV kv.1,kv.2])) /\
  ∀ d,H d=none->Q (.ref d) (upd H d<|.dK<|kvs.foldl (λa p=>putK a p.1 p.2) [])):=by
 intro pins s σ H xs us Q I r h;obtain⟨a,ts,kvs,rfl,hH,hl,hz,ht,q⟩:=h;obtain⟨u,rfl,ru⟩:=vals1 r;cases (show u=Value.ref a from ru);obtain⟨z,its,n,rv,e⟩:=(show aD X.prog X.w H s.heap a (.lst<|ts.map V.ref) from I.aG a _ hH);have jo:=rv.length;rw [Aa] at jo;have pD:∀(j:Nat) t,ts[j]?=some t->its[j]?=some (.ref t):=λj t hj=>by
  obtain⟨u,hu,ru⟩:=rv.get (i:=j) (x:= .ref t) (by rw [Ah,hj];rfl);cases (show u=Value.ref t from ru);exact hu
 have pair:∀(j:Nat) t kv,ts[j]?=some t->kvs[j]?=some kv->∃ key v o m,(cS X.prog X.w).is kv.1 key=true/\RelV kv.2 v/\s.heap.get? t=some o/\o.cls = .type "tuple"/\o.data = .seq #[key,v] m:=λj t kv h1 h2=>by
  obtain⟨z2,dE,gE,o,eo,co,m,dm⟩:=(show aD X.prog X.w H s.heap t (.tup [kV kv.1,kv.2]) from I.aG t _<|ht j t kv h1 h2);obtain⟨key,v,e3,r1,r2⟩:=gE.two;refine⟨key,v,o,m,lF r1,r2,eo,co,?_⟩;rw [dm,e3]
 obtain⟨rs,hk,hr⟩:=Nx hl pair;have lX:=hk.length;have hP:D5 (cS X.prog X.w) s.heap its rs:=by
  refine⟨by omega,λj it hj=>?_⟩;have nr:j < ts.length:=by have:=(Ac.mp hj).1;omega
  have Nz:ts[j]?=some ts[j]:=Ab nr;have e2:=pD j _ Nz;rw [hj] at e2;obtain⟨key,k,v,o,m,q1,q2,q3,q4,q5⟩:=hr j _ Nz;exact⟨ts[j],key,k,v,o,m,Option.some.inj e2,q1,q2,q3,q4,q5⟩
 refine YK (knd:=cS X.prog X.w) e rfl rfl rfl hP (by omega) (I.ok.hd hc) λh' tk kp D=>?_;have hlen:∀(l:List<|Key×V) (a:List<|Key×V),(l.foldl (λa p=>putK a p.1 p.2) a).length<=a.length+l.length:=by
  intro l
  induction l with
  | nil=>intro a;exact Al _
  | cons p r ih=>
   intro a;rw [Dd,Aq];have h1:=ih<|putK a p.1 p.2;have h2:=ik a p.1 p.2;omega
 have hb:=I.big;refine⟨.ref s.heap.objs.size,_,I.laid (t':=tk) kp (Al _) (show aD X.prog X.w _ h' _ (.dK<|kvs.foldl (λa p=>putK a p.1 p.2) []) from⟨?_,?_,_,YM (kvs:=kvs) (ps:=[]) (acc:=[]) .nil hk,D⟩),rfl,q _<|I.aG.fresh<|Al _⟩
 ·have:=hlen kvs [];rw [Fb] at this;omega
 ·exact beq_eq_false_iff_ne.mpr<|Cy hb
end
section
variable{X:Cx}{pins:List (Addr×Obj)}{σ:St}{H:Hp}{s:Shared}{h':Heap}
theorem Inv.cr{t':Nat}{ch:List Addr}(I:Inv X pins σ H s)(hf:∀ b∈ch,ci X pins H b)(k:∀ b o,b∉ch->s.heap.get? b=some o->h'.get? b=some o):Inv X pins σ H {s with heap:=h',toks:=t'}:=by
 have su:∀ b u,H b=some u->b∉ch:=λb u e z=>by rw [(hf b z).1] at e;cases e
 refine I.step (g':=s.gens) (d':=s.drawn) (ch:=ch) (λb hb=>?_) (λb o _ _ hc e _=>k b o hc e) (λb o _ _ hc e _=>⟨o.slots,k b o hc e⟩) (λ_ _ _ _ n=>n)
  (λb o hc e=>⟨o,k b o hc e⟩) (λ_ _ e=>e) (λ_ _ _ e=>e) (λb ps e=>⟨#[],by rw [e];simp⟩) (λm hm=>?_) (λb u e=>?_) I.bare
 ·obtain⟨f0,f1,f2,f3,f4,f5⟩:=hf b hb;exact⟨f3,f1,f4,f5⟩
 ·obtain⟨o,es,ep,ho,r⟩:=hm;exact⟨o,es,ep,k _ o (λz=>(hf _ z).2.1 rfl) ho,r⟩
 ·refine(I.aG b u e).iL (λc v hc q=>k c v ?_ q) (λ_ q=>q) λ_ _ q=>q
  rcases hc with z | z
  ·rw [z];exact su b u e
  ·exact su c _ z
def xK(K:PySem.W.Frag)(a b:Addr):It:=
  ⟨λi H => ∃ xs ys x y, aq K H a xs ∧ aq K H b ys ∧ xs[i]? = some x ∧ ys[i]? = some y,
   λi H v H'=>∃ T x y,H T=none/\v = .ref T/\H'=upd H T (.tup [x,y])/\(∀ xs,aq K H a xs->xs[i]?=some x)/\∀ ys,aq K H b ys->ys[i]?=some y,
   λi H=>∃ xs ys,aq K H a xs/\aq K H b ys/\(xs.length<=i\/ys.length<=i)⟩
def NA(m a b:Addr)(i:Nat)(h:Heap):Prop:=
 IsZip h (m+4) (m+2) (m+3) .none/\IsPair h (m+2) (.ref m) (.ref<|m+1)/\(∃ x y,IsPair h (m+3) x y)/\h.IsListIter m a i/\h.IsListIter (m+1) b i
theorem ND{h:Heap}{m a b:Addr}{i:Nat}{xs ys:Array Value}(z:NA m a b i h)(ha:h.IsList a xs)(hb:h.IsList b ys):ZipApart (m+4) (m+2) (m+3) m (m+1) a b:=by
  obtain⟨z1,z2,⟨x,y,z3⟩,⟨o4,e4,c4,_⟩,⟨o5,e5,c5,_⟩⟩:=z;have cls:∀{l:Addr} {vs:Array Value} {c:Addr} {o:Obj},h.IsList l vs->h.get? c=some o->o.cls ≠ .type "list"->l≠c:=λhl hc hn e=>by
    obtain⟨ol,tF,iX,_⟩:=hl;rw [e,hc] at tF;cases tF;exact hn iX
  exact { TIz := by simp, TOz := by simp, i1z := by simp, i2z := by simp, TITO := by simp, TIi1 := by simp, TIi2 := by simp, TOi1 := by simp, TOi2 := by simp, i12 := by simp
          l1z:=cls ha z1 (by show Value.type "zip"≠Value.type "list";decide),l1TO:=cls ha z3 (by show Value.type "tuple"≠Value.type "list";decide),l1i1:=cls ha e4 (by rw [c4];decide),l1i2:=cls ha e5<|by rw [c5];decide
          l2z:=cls hb z1 (by show Value.type "zip"≠Value.type "list";decide),l2TO:=cls hb z3 (by show Value.type "tuple"≠Value.type "list";decide),l2i1:=cls hb e4 (by rw [c4];decide),l2i2:=cls hb e5 (by rw [c5];decide)}
theorem YN{P:Program}{w:World}{K:PySem.W.Frag}{elts:List Expr}{k:Nat}{tp:Pos}(m a b:Addr):Turn P w K (.Tuple elts k tp) (xK K a b) [m,m+1,m+2,m+3,m+4] (m+4) (NA m a b) where
 mem:=by simp
 obj:=λi h st c hc=>by
  obtain⟨z1,z2,⟨x,y,z3⟩,⟨o4,e4,c4,d4⟩,⟨o5,e5,c5,d5⟩⟩:=st;simp only [Ak,Cj,GZ] at hc
  rcases hc with rfl | rfl | rfl | rfl | rfl
  ·exact⟨_,e4,λv z=>by rw [d4] at z;cases z⟩
  ·exact⟨_,e5,λv z=>by rw [d5] at z;cases z⟩
  ·exact⟨_,z2,λv z=>by cases z⟩
  ·exact⟨_,z3,λv z=>by cases z⟩
  ·exact⟨_,z1,λv z=>by cases z⟩
 keep:=λi h h' st kp=>by
  obtain⟨z1,z2,⟨x,y,z3⟩,⟨o4,e4,r4⟩,⟨o5,e5,r5⟩⟩:=st;exact⟨kp _ (by simp) _ z1,kp _ (by simp) _ z2,⟨x,y,kp _ (by simp) _ z3⟩,⟨o4,kp _ (by simp) _ e4,r4⟩,⟨o5,kp _ (by simp) _ e5,r5⟩⟩
 item:=by
  intro X hP hw hK hc i pins s σ H E I hf st hg;subst hP hw hK;obtain⟨xs,ys,x,y,gG,xL,hx,hy⟩:=hg;obtain⟨tX,xM,p1,rk⟩:=I.list gG;obtain⟨dE,gE,p2,rm⟩:=I.list xL;obtain⟨u1,eI,YQ⟩:=xM.get hx;obtain⟨u2,nw,YR⟩:=gE.get hy;have D:=ND st p1.isList p2.isList;obtain⟨z1,z2,⟨x0,y0,z3⟩,z4,z5⟩:=id st;refine wpAny_pyNext_zip_item D z1 z2 z3 z4 z5 p1.isList p2.isList (x:=u1) (y:=u2) (by simpa using eI) (by simpa using nw) λh' a1 a2 a3 a4 a5 a6 kp=>?_;have hT:H s.heap.objs.size=none:=I.aG.fresh<|Al _;have nT:∀ c∈[m,m+1,m+2,m+3,m+4],c≠s.heap.objs.size:=λc bP=>by
   have:∃ o,s.heap.get? c=some o:=by
    obtain⟨o4,e4,_⟩:=z4;obtain⟨o5,e5,_⟩:=z5;simp only [Ak,Cj,GZ] at bP
    rcases bP with rfl | rfl | rfl | rfl | rfl
    ·exact⟨_,e4⟩
    ·exact⟨_,e5⟩
    ·exact⟨_,z2⟩
    ·exact⟨_,z3⟩
    ·exact⟨_,z1⟩
   obtain⟨o,e⟩:=this;exact Bo<|Ay e
  have I1:Inv X pins σ (upd H s.heap.objs.size<|.tup [x,y]) {s with heap:=s.heap.push {cls:= .type "tuple",data:= .seq #[u1,u2]}}:=
   I.laid (t':=s.toks) (λb o e=>Ag _ e) (Al _) (show aD X.prog X.w _ _ _ (.tup [x,y]) from⟨Z2,[u1,u2],.cons YQ<|.cons YR .nil,⟨_,At _ rfl,rfl,_,rfl⟩⟩)
  have f1:∀ c∈[m,m+1,m+2,m+3,m+4],ci X pins (upd H s.heap.objs.size<|.tup [x,y]) c:=λc bP=>⟨by rw [av<|nT c bP];exact(hf c bP).1,(hf c bP).2⟩;have tJ:∀ c o,c∉[m,m+1,m+2,m+3,m+4]->(s.heap.push {cls:= .type "tuple",data:= .seq #[u1,u2]}).get? c=some o->h'.get? c=some o:=λc o bP e=>by
   rcases Heap.get?_push_cases e with ⟨ec,eo⟩ | e'
   ·rw [ec,eo];exact a5
   ·simp only [Ak,Cj,GZ,not_or] at bP;exact kp c o bP.2.2.2.2 bP.2.2.2.1 bP.1 bP.2.1 e'
  have I2:=Inv.cr (h':=h') (t':=s.toks) I1 f1 tJ;refine⟨_,rfl,wpAny_letOwnedTupleGo_zip (s:={s with heap:=h'}) a1 λh2 b1 sb=>?_⟩;have YS:IsPair h' (m+2) (.ref m) (.ref<|m+1):=kp _ _ (by simp) (by simp) (by simp) (by simp) z2;have YT:∀ c o,c∉[m+4]->h'.get? c=some o->h2.get? c=some o:=λc o bP e=>(sb.2 c<|by simpa using bP).trans e;have I3:=Inv.cr (h':=h2) (t':=s.toks) I2 (ch:=[m+4]) (λc bP=>f1 c<|by simp at bP;simp [bP]) YT;refine⟨.ref s.heap.objs.size,_,I3,rfl,⟨_,x,y,hT,rfl,rfl,λzs hz=>by rw [I.dA hz gG];exact hx,λzs hz=>by rw [I.dA hz xL];exact hy⟩,?_,λc bP=>(f1 c bP).1⟩;have sx:∀ c o,c≠m+4->h'.get? c=some o->h2.get? c=some o:=λc o bP e=>(sb.2 c bP).trans e;obtain⟨o3,e3,r3⟩:=a3;obtain⟨o4,e4,r4⟩:=a4;exact⟨b1,sx _ _ (by simp) YS,⟨u1,u2,sx _ _ (by simp) a2⟩,⟨o3,sx _ _ (by simp) e3,r3⟩,⟨o4,sx _ _ (by simp) e4,r4⟩⟩
 done:=by
  intro X hP hw hK hc i pins s σ H E I hf st hg;subst hP hw hK;obtain⟨xs,ys,gG,xL,D8⟩:=hg;obtain⟨tX,xM,p1,rk⟩:=I.list gG;obtain⟨dE,gE,p2,rm⟩:=I.list xL;have l1:=xM.length;have l2:=gE.length;have D:=ND st p1.isList p2.isList;obtain⟨z1,z2,⟨x0,y0,z3⟩,z4,z5⟩:=id st;refine wpAny_pyNext_zip_end (I.ok.hd hc) D z1 z2 z3 z4 z5 p1.isList p2.isList ?_ λh' kp=>⟨rfl,I.cr (t':=s.toks) (ch:=[m,m+1,m+2,m+3,m+4]) hf λc o bP e=>?_⟩
  ·rcases D8 with h | h
   ·exact .inl<|by simp;omega
   ·exact .inr<|by simp;omega
  ·simp only [Ak,Cj,GZ,not_or] at bP;exact kp c o bP.2.2.2.2 bP.2.2.2.1 bP.1 bP.2.1 e
 self:=λ_ _ _ _ _ st h=>wpAny_pyIter_zip st.1 h
end
section
variable{X:Cx}
def D9(K:PySem.W.Frag)(ta:TA):TI:=λσ H R=>ta σ H λvs H1=>∃ a b,vs=[.ref a,.ref b]/\(∃ xs,aq K H1 a xs)/\(∃ ys,aq K H1 b ys)/\R (xK K a b) H1
theorem NM{elts:List Expr}{k:Nat}{tp:Pos}{a b:Expr}{ta:TA}{p pos:Pos}(hg:Gl X "zip")(hm:X.mg "zip" = none)(ha:PA X [a,b] ta)(hs:starEach [a,b] X.env=[(false,eval a X.env),(false,eval b X.env)]:=by rfl)(rj:starEach [b] X.env=[(false,eval b X.env)]:=by rfl) :
  PI X (.Tuple elts k tp) (.Call (.Name "zip" p) [a,b] [] pos) (D9 X.K ta):=by
 intro pins s σ H R I h;refine Call_ (oi I hg hm boot_zip<|JN (aQ (ha pos pins s σ H _ I h) λus s1 ⟨vs,H1,I1,r1,q1⟩=>?_) (by rw [hs,rj])<|by rw [rj];rfl);obtain⟨x,y,e,⟨xs,hx⟩,⟨ys,hy⟩,q⟩:=q1;subst e;obtain⟨u,v,rfl,ru,rv⟩:=r1.two;cases (show u=Value.ref x from ru);cases (show v=Value.ref y from rv);obtain⟨tX,xM,p1,rk⟩:=I1.list hx;obtain⟨dE,gE,p2,rm⟩:=I1.list hy;refine call_zip_2 p1.isList p2.isList λh' a1 a2 a3 a4 a5 a6 kp=>?_;refine wpAny_pyIter_zip (s:={s1 with heap:=h'}) a1 ?_;refine⟨s1.heap.objs.size+4,[s1.heap.objs.size,s1.heap.objs.size+1,s1.heap.objs.size+2,s1.heap.objs.size+3,s1.heap.objs.size+4],_,_,H1,rfl,I1.kept (t':=s1.toks) kp,YN s1.heap.objs.size x y,⟨a1,a2,⟨_,_,a3⟩,a4,a5⟩,λb hb=>?_,q⟩;have hle:s1.heap.objs.size<=b:=by
  simp only [Ak,Cj,GZ] at hb
  rcases hb with rfl | rfl | rfl | rfl | rfl <;> omega
 exact I1.iO hle<|I1.aG.fresh hle
end
def ro(elt t1 i1:Expr)(f1:List Expr)(t2 i2:Expr)(f2:List Expr)(scope:Scope)(pos:Pos)(acc:Value)(env:Env):Sem Unit:=do
 let x <- eval i2 env
 standAt i2.pos
 let x <- foldedSetIterable i2 env x
 let _ <- runOwn (.compStart (.ListComp elt [⟨t1,i1,f1,0⟩,⟨t2,i2,f2,0⟩] scope pos) 1 (<- holding [x]<|pyIter x) acc env) env
section
variable{X:Cx}{elt t1 i1 t2 i2:Expr}{f1 f2:List Expr}{scope:Scope}{pos:Pos}{σ:St}{H:Hp}{acc:Value}{env:Env}
theorem YV:Clause (.ListComp elt [⟨t1,i1,f1,0⟩,⟨t2,i2,f2,0⟩] scope pos) 0 t1 i1 f1 acc env (ro elt t1 i1 f1 t2 i2 f2 scope pos acc env):=⟨rfl,λ_=>rfl,λ_ _ _=>rfl,λ_ _=>rfl,λ_ _ _=>rfl,λ_ _=>rfl,λit=>by
 unfold ro;simp only [bind_assoc,pure_bind];rfl⟩
theorem YW:Clause (.ListComp elt [⟨t1,i1,f1,0⟩,⟨t2,i2,f2,0⟩] scope pos) 1 t2 i2 f2 acc env (emit elt acc env):=⟨rfl,λ_=>rfl,λ_ _ _=>rfl,λ_ _=>rfl,λ_ _ _=>rfl,λ_ _=>rfl,λ_=>rfl⟩
theorem YX{wi:TI}{Q:St->Hp->Prop}(jN:X.xe=λ_ _=>False)(hc:X.calm=true)(hi:PI X t2 i2 wi)(h:wi σ H λJ H1=>iV X t2 f2 (emit elt acc X.env) J Q σ H1)
  (hs:∀ x,foldedSetIterable i2 X.env x=pure x:=by intro _;rfl):m7 X (ro elt t1 i1 f1 t2 i2 f2 scope pos acc X.env) σ H Q:=by
 refine⟨λpins s I=>?_⟩;unfold ro;refine BJ<|aQ (hi pins s σ H _ I h) λx s1 h1=>?_;refine BJ<|IK<|BJ<|JG (hs x)<|BJ<|CJ<|CW h1 (λqD s2 h2=>?_) λ_ _ e=>e;obtain⟨it,fp,tn,J,H2,e,I2,T,ib,EA,q⟩:=h2;subst e;refine BJ<|wpAny_runOwn (Q:=λ_ s'=>wpAny (model X.prog X.w) X.A (pure ()) (λ_ s'=>∃ σ' H',Inv X pins σ' H' s'/\Q σ' H') X.xe s') ?_;exact A6 jN hc YW I2 T ib EA q λσ' H' s' I' q'=>BK ⟨σ',H',I',q'⟩
theorem YY{wi:TI}{Q:VK}(sc:Scope)(N N':List Str)(n:Nat)(hi:PI X t1 i1 wi)
  (h:wi σ H λJ H1=>∀ D,H1 D=none->∀ cl C s₀ H₀ ex,iV (fz X N' scope cl C s₀ H₀ ex) t1 f1 (ro elt t1 i1 f1 t2 i2 f2 scope pos (.ref D)<|compEnvC scope cl C X.env) J (λ_ H'=>Q (.ref D) H') (σ++List.replicate n none)<|upd H1 D<|.lst [])
  (hc:X.calm=true:=by rfl) (lP:X.env.scope=sc:=by rfl) (hN:X.N=N:=by rfl) (hk:oQ sc scope N N'=true:=by decide +kernel) (hl:N'.length=N.length+n:=by rfl)
  (hs:∀ x,foldedSetIterable i1 X.env x=pure x:=by intro _;rfl):Ev X (.ListComp elt [⟨t1,i1,f1,0⟩,⟨t2,i2,f2,0⟩] scope pos) σ H Q:=
 D0 (e:= .ListComp elt [⟨t1,i1,f1,0⟩,⟨t2,i2,f2,0⟩] scope pos) (newAcc:=newList []) (o0:={cls:= .type "list",dict:=none,data:= .seq ([]:List Value).toArray}) (u0:=λ_=> .lst []) (λ_ _ _ h=>CQ h<|by show(0:Nat)<=sizeLine;exact Bx _) (λ_ _ _=>⟨Bx _,[],0,.nil,At _ rfl⟩) (inner:=ro elt t1 i1 f1 t2 i2 f2 scope pos) (λ_ _=>YV) rfl rfl sc N N' n hi h hc lP hN hk hl hs
end
section
variable{X:Cx}{pins:List (Addr×Obj)}{σ:St}{H:Hp}{s:Shared}{a:Addr}{y v:V}{u r:Value}{A:Around}{E:Value->Shared->Prop}
theorem NU{H':Hp}{Q:Unit->Shared->Prop}(hu:A.units+1 < cLine)(I:Inv X pins σ H s)(g:bU H a y v H')(ry:RelV y u)(rv:RelV v r)(h:∀ s',Inv X pins σ H' s'->Q () s') :
  wpAny (model X.prog X.w) A (dictSet a u r) Q E s:=by
 rcases g with ⟨kvs,k,e,ey,l,eH⟩ | ⟨kvs,k,b,e,ey,eb,l,eH⟩
 ·subst ey eH;obtain⟨z,hd,vs,rel,dd⟩:=tj I.aG e;have hz:vs.length<=sizeLine:=by rw [<- rel.length];exact z
  have hl:(putK kvs k v).length<=sizeLine:=by have:=ik kvs k v;omega
  refine wpAny_dictSet_pairs (hsz:=hz) (lF ry) dd λh' jh hs=>h _ ?_;have he:∃ q,h'.get? a=some q:=let ⟨q,_,_,hq,_⟩:=jh;⟨q,hq⟩
  exact mW I (by rw [e];exact True.intro) hs he<|z6 hl hd (rel.put k rv) jh
 ·subst ey eH;cases (show u=Value.ref b from ry);obtain⟨z,hd,xs,rel,dd⟩:=Lw I.aG e;have hz:xs.length<=sizeLine:=by rw [<- Paired.length rel];exact z
  have hl:(putK kvs k v).length<=sizeLine:=by have:=ik kvs k v;omega
  have room:(tupleKind<|cS X.prog X.w).room A:=by first | exact hu | exact Nat.lt_of_succ_lt hu | exact QD (Eh _) hu
  refine wpAny_dictSet_heap (hsz:=hz) room (oI I.aG eb) dd λh' jh hs=>h _ ?_;obtain⟨q,es,ep,hq,h2,h3,h4,_,h5⟩:=jh;refine mW I (by rw [e];exact True.intro) hs ⟨q,hq⟩ ⟨hl,hd,_,(rel.put k eb rv).keeps λc ys ec=>?_,q,es,ep,hq,h2,h3,h4,h5⟩;rw [av<|ce ec e λz=>nomatch z];exact ec
end
def lY(k v:Expr)(acc:Value)(env:Env):Sem Unit:=do
 let kv <- eval k env
 let vv <- holding [kv]<|eval v env
 match acc with
 | .ref d=>do
  standAt {k.pos with endLine:=v.pos.endLine,endCol:=v.pos.endCol}
  holding [kv,vv] (dictSet d kv vv)
 | _=>unsupported "internal:dictcomp"
def rp(k v t1 i1:Expr)(f1:List Expr)(t2 i2:Expr)(f2:List Expr)(scope:Scope)(pos:Pos)(acc:Value)(env:Env):Sem Unit:=do
 let x <- eval i2 env
 standAt i2.pos
 let x <- foldedSetIterable i2 env x
 let _ <- runOwn (.compStart (.DictComp k v [⟨t1,i1,f1,0⟩,⟨t2,i2,f2,0⟩] scope pos) 1 (<- holding [x]<|pyIter x) acc env) env
section
variable{X:Cx}{k v t1 i1 t2 i2:Expr}{f1 f2:List Expr}{scope:Scope}{pos:Pos}{σ:St}{H:Hp}{acc:Value}{env:Env}
theorem YZ:Clause (.DictComp k v [⟨t1,i1,f1,0⟩] scope pos) 0 t1 i1 f1 acc env (lY k v acc env):=⟨rfl,λ_=>rfl,λ_ _ _=>rfl,λ_ _=>rfl,λ_ _ _=>rfl,λ_ _=>rfl,λit=>by
 unfold lY;cases acc <;> first | rfl | (simp only [bind_assoc,pure_bind];rfl)⟩
theorem Y0:Clause (.DictComp k v [⟨t1,i1,f1,0⟩,⟨t2,i2,f2,0⟩] scope pos) 0 t1 i1 f1 acc env (rp k v t1 i1 f1 t2 i2 f2 scope pos acc env):=⟨rfl,λ_=>rfl,λ_ _ _=>rfl,λ_ _=>rfl,λ_ _ _=>rfl,λ_ _=>rfl,λit=>by
 unfold rp;simp only [bind_assoc,pure_bind];rfl⟩
theorem Y1:Clause (.DictComp k v [⟨t1,i1,f1,0⟩,⟨t2,i2,f2,0⟩] scope pos) 1 t2 i2 f2 acc env (lY k v acc env):=⟨rfl,λ_=>rfl,λ_ _ _=>rfl,λ_ _=>rfl,λ_ _ _=>rfl,λ_ _=>rfl,λit=>by
 unfold lY;cases acc <;> first | rfl | (simp only [bind_assoc,pure_bind];rfl)⟩
theorem EB{D:Addr}{Q:St->Hp->Prop}(hu:X.A.units+1 < cLine)(h:Ev X k σ H λy H1=>Ev X v σ H1 λx H2=>∃ H3,bU H2 D y x H3/\Q σ H3):m7 X (lY k v (.ref D) X.env) σ H Q:=by
 refine⟨λpins s I=>?_⟩;unfold lY;refine BJ<|aQ (h.run pins s I) λkv s1 ⟨y,H1,I1,r1,h1⟩=>?_;refine BJ<|CJ<|aQ (h1.run pins s1 I1) λvv s2 ⟨x,H2,I2,r2,H3,dp,q⟩=>?_;show wpAny _ _ (standAt _ >>= λ_=>holding [kv,vv]<|dictSet D kv vv) _ _ _;exact BJ<|IK<|CJ<|NU hu I2 dp r1 r2 λs' I'=>⟨σ,H3,I',q⟩
theorem Y2{wi:TI}{Q:St->Hp->Prop}(jN:X.xe=λ_ _=>False)(hc:X.calm=true)(hi:PI X t2 i2 wi)(h:wi σ H λJ H1=>iV X t2 f2 (lY k v acc X.env) J Q σ H1)
  (hs:∀ x,foldedSetIterable i2 X.env x=pure x:=by intro _;rfl):m7 X (rp k v t1 i1 f1 t2 i2 f2 scope pos acc X.env) σ H Q:=by
 refine⟨λpins s I=>?_⟩;unfold rp;refine BJ<|aQ (hi pins s σ H _ I h) λx s1 h1=>?_;refine BJ<|IK<|BJ<|JG (hs x)<|BJ<|CJ<|CW h1 (λqD s2 h2=>?_) λ_ _ e=>e;obtain⟨it,fp,tn,J,H2,e,I2,T,ib,EA,q⟩:=h2;subst e;refine BJ<|wpAny_runOwn (Q:=λ_ s'=>wpAny (model X.prog X.w) X.A (pure ()) (λ_ s'=>∃ σ' H',Inv X pins σ' H' s'/\Q σ' H') X.xe s') ?_;exact A6 jN hc Y1 I2 T ib EA q λσ' H' s' I' q'=>BK ⟨σ',H',I',q'⟩
theorem NV{wi:TI}{Q:VK}(sc:Scope)(N N':List Str)(n:Nat)(hi:PI X t1 i1 wi)
  (h:wi σ H λJ H1=>∀ D,H1 D=none->∀ cl C s₀ H₀ ex,iV (fz X N' scope cl C s₀ H₀ ex) t1 f1 (lY k v (.ref D)<|compEnvC scope cl C X.env) J (λ_ H'=>Q (.ref D) H') (σ++List.replicate n none)<|upd H1 D<|.dT [])
  (hc:X.calm=true:=by rfl) (lP:X.env.scope=sc:=by rfl) (hN:X.N=N:=by rfl) (hk:oQ sc scope N N'=true:=by decide +kernel) (hl:N'.length=N.length+n:=by rfl)
  (hs:∀ x,foldedSetIterable i1 X.env x=pure x:=by intro _;rfl):Ev X (.DictComp k v [⟨t1,i1,f1,0⟩] scope pos) σ H Q:=
 D0 (e:= .DictComp k v [⟨t1,i1,f1,0⟩] scope pos) (newAcc:=newDict) (o0:={cls:= .type "dict",data:= .dict #[]}) (u0:=λ_=> .dT []) (λ_ _ _ h=>CQ h) (λ_ h hb=>z8 h hb) (inner:=lY k v) (λ_ _=>YZ) rfl rfl sc N N' n hi h hc lP hN hk hl hs
theorem Y3{wi:TI}{Q:VK}(sc:Scope)(N N':List Str)(n:Nat)(hi:PI X t1 i1 wi)
  (h:wi σ H λJ H1=>∀ D,H1 D=none->∀ cl C s₀ H₀ ex,iV (fz X N' scope cl C s₀ H₀ ex) t1 f1 (rp k v t1 i1 f1 t2 i2 f2 scope pos (.ref D)<|compEnvC scope cl C X.env) J (λ_ H'=>Q (.ref D) H') (σ++List.replicate n none)<|upd H1 D<|.dT [])
  (hc:X.calm=true:=by rfl) (lP:X.env.scope=sc:=by rfl) (hN:X.N=N:=by rfl) (hk:oQ sc scope N N'=true:=by decide +kernel) (hl:N'.length=N.length+n:=by rfl)
  (hs:∀ x,foldedSetIterable i1 X.env x=pure x:=by intro _;rfl):Ev X (.DictComp k v [⟨t1,i1,f1,0⟩,⟨t2,i2,f2,0⟩] scope pos) σ H Q:=
 D0 (e:= .DictComp k v [⟨t1,i1,f1,0⟩,⟨t2,i2,f2,0⟩] scope pos) (newAcc:=newDict) (o0:={cls:= .type "dict",data:= .dict #[]}) (u0:=λ_=> .dT []) (λ_ _ _ h=>CQ h) (λ_ h hb=>z8 h hb) (inner:=rp k v t1 i1 f1 t2 i2 f2 scope pos) (λ_ _=>Y0) rfl rfl sc N N' n hi h hc lP hN hk hl hs
end
open bM
theorem Y4{prog:Program}{w:World}{A:Around}{E:Value->Shared->Prop}{s:Shared}{a:Addr}{zs:List Str}{z:Str}{tk:Tok}{Q:Value->Shared->Prop}(S:aA prog w s.heap a zs)(hb:zs.length+1 < 1000)
  (h:∀ h',Heap.SameBut a s.heap h'->aA prog w h' a (added zs z)->Q .none {s with heap:=h',toks:=s.toks+1}) :
  wpAny (model prog w) A (call (.builtin "set.add") [.ref a,.str z tk]) Q E s:=by
 have hT:s.TypeIs (.ref a) "set":=let ⟨o,_,_,_,ho,hx,_⟩:=S;⟨o,ho,hx.1⟩
 refine DG F.slot_set_add hT F.entry_set_add ?_<|F.args_set_add_2 _ _;unfold Builtin.«set.add» Builtin.Frozenset.oneOther;simp only [Gf,bind_assoc];unfold Builtin.Frozenset.addrOf setAdd;refine BJ<|BK ?_
 try dsimp only
 refine BJ<|BK ?_
 try dsimp only
 refine BJ ?_;refine CJ ?_;refine BJ ((PySem.strKind prog w).pyHash (k:=z) (v:= .str z tk) (by simp [PySem.strKind,Value.isStrOf]) ?_);refine BG (s:={s with toks:=s.toks+1}) S hb λb h' sb S'=>?_;show wpAny _ _ (ret Value.none) _ _ _;exact BK ⟨_,rfl,h h' sb S'⟩
section
variable{X:Cx}{elt t1 i1 t2 i2:Expr}{f1 f2:List Expr}{scope:Scope}{pos:Pos}{σ:St}{H:Hp}{acc:Value}{env:Env}
end
end L2
namespace L2
open PySem PySem.Builtin PySem.Builtin.Str
section
variable{X:Cx}{σ:St}{H:Hp}{Q:VK}
end
end L2
namespace PySem
def Plain(h:Heap)(d:Addr)(es:Array DictEntry)(ep:Nat):Prop:=∃ o,h.get? d=some o/\o.ExactDict/\o.data = .dict es ep
section
variable{P:Program}{w:World}{A:Around}{E:Value->Shared->Prop}{s:Shared}
theorem Y5(d:Addr)(hd:(d == sysModules)=false):MeetsIn P w (Builtin.«dict.items» ⟨[.ref d],[]⟩) (λ_ R u=>u.TypeIs (.ref d) "dict" /\
  R (.ok<|.ret<|.ref u.heap.objs.size) {u with heap:=u.heap.push {cls:= .type "dict_items",data:= .fields #[.ref d]}}):=by
 refine .of_wp λB R u ⟨hT,k⟩=>?_;unfold Builtin.«dict.items» Builtin.Dict.noArgs;refine BJ<|BJ<|wpAny_notOrdered_dict hT ?_;show wpAny _ _ (pure d) _ _ u;refine BK ?_;show wpAny _ _ (Builtin.Dict.showsAll d >>= _) _ _ u;unfold Builtin.Dict.showsAll;rw [BL<|by rw [hd];exact Av];exact BJ<|BK<|BJ<|CQ<|BK ⟨_,rfl,k⟩
theorem Y6{v d:Addr}{es:Array DictEntry}{ep:Nat}{Q:Value->Shared->Prop}(hv:s.heap.IsItemsView v d)(hm:Plain s.heap d es ep)
  (k:Q (.ref s.heap.objs.size) {s with heap:=s.heap.push {cls:= .type "dict_itemiterator",data:= .fields #[.none,.bool false,.ref d,.int 0 0,.int es.size 0,.int ep 0,.none,.none]}}) :
  wpAny (model P w) A (pyIter<|.ref v) Q E s:=by
 obtain⟨vo,e1,e2,e3⟩:=id hv;obtain⟨o,f1,f2,f3⟩:=hm;refine KQ hv.typeIs F.slot_dict_items_iter<|DG F.slot_dict_items_iter hv.typeIs F.entry_dict_items_iter ?_<|F.args_dict_items_iter_1 _;unfold Builtin.«dict_items.__iter__» Builtin.Dict_items.dictOf Builtin.Dict_items.newIterator;refine BJ<|BK<|BJ<|BJ<|JV e1 e3 (x:= .ref d) rfl (BK ?_);refine BJ<|BJ<|QT f1 f3<|BJ<|SJ f1 f3 ?_;have ow:Builtin.Dict_items.ownsTuple "dict_itemiterator" = true:=by decide
 simp only [ow,DP];refine CQ (BK ⟨_,rfl,"dict_itemiterator",_,⟨_,At _ rfl,rfl⟩,F.slot_dict_itemiterator_next.lookup,?_⟩) ?_
 ·simpa [rawInt,Builtin.Dict_items.ownedTupleFields] using k
 ·simp only [sizeOk,Builtin.Dict_items.ownedTupleFields,Au,Af,Aq,Fb,DW];omega
theorem Y7{it d:Addr}{i ep:Nat}{es:Array DictEntry}{en:DictEntry}{y z:Value}{Q:Option Value->Shared->Prop}(hit:IsItemIter s.heap it d i es.size ep y z)(hm:Plain s.heap d es ep)(hx:es[i]?=some en)
  (k : ∀ h', IsItemIterOut h' it d (i + 1) es.size ep en.key en.val s.heap.objs.size → h'.get? s.heap.objs.size = some { cls := .type "tuple", data := .seq #[en.key, en.val] } →
   (∀ b o,b≠it->s.heap.get? b=some o->h'.get? b=some o)->Q (some<|.ref s.heap.objs.size) {s with heap:=h'}):wpAny (model P w) A (pyNext<|.ref it) Q E s:=by
 obtain⟨hp,g,dr,tk,os⟩:=s;obtain⟨o,f1,f2,f3⟩:=hm;have ty:Shared.TypeIs ⟨hp,g,dr,tk,os⟩ (.ref it) "dict_itemiterator":=⟨_,hit,rfl⟩;have lt:i < es.size:=by
  rcases Dg i es.size with h | h
  ·exact h
  ·rw [Ec h] at hx;cases hx
 have ow:Builtin.Dict_items.ownsTuple "dict_itemiterator" = true:=by decide
 unfold pyNext;refine BJ<|KZ<|GQ (name:=Str.ofString "__next__") ty GJ<|DG GJ ty PB ?_<|MP _;refine BJ<|BK<|BJ<|BJ ?_
 first | refine BJ (FW ty<|BK ?_) | refine BJ<|IV ty<|BK ?_
 refine BJ<|PL hit rfl ?_;simp only [ow,DP];show wpAny _ _ (if(Value.ref d == Value.none)=true then _ else _) _ _ _;rw [BL (show ¬((Value.ref d == Value.none)=true) from Av)];refine BJ<|BK<|BJ<|QT f1 f3 ?_;rw [BL<|by simp];refine BJ<|BK<|BJ<|SJ f1 f3 ?_;rw [BL<|by simp];refine BK ?_;have ee:es[i]=en:=Option.some.inj<|(Di lt).symm.trans hx;simp only [show ¬((i:Int) < 0) from by omega,CV,Bc,hx];refine BJ ?_
 first | refine BJ (FW ty<|BK ?_) | refine BJ<|IV ty<|BK ?_
 refine BJ<|KR ty ?_;show wpAny _ _ (setField (.ref it) 3 (rawInt<|(i:Int)+1) >>= _) _ _ ⟨hp,g,dr,tk,os⟩;refine BJ (JD hit (by simp) λha ea sa=>?_);replace sa:Heap.SameBut it hp ha:=sa;replace ea:IsItemIter ha it d (i+1) es.size ep y z:=by
  have e:((i+1:Nat):Int)=(i:Int)+1:=by omega
  unfold IsItemIter;rw [e]
  simpa [rawInt] using ea
 have NX:Shared.TypeIs ⟨ha,g,dr,tk,os⟩ (.ref it) "dict_itemiterator":=⟨_,ea,rfl⟩;refine BJ<|CJ<|BJ<|KR NX<|BJ<|KR NX ?_;show wpAny _ _ (Builtin.Dict_items.pairFromOwner (.ref it) 6 en.key en.val) _ _ ⟨ha,g,dr,tk,os⟩;unfold Builtin.Dict_items.pairFromOwner Builtin.Dict_items.ownedTupleIsFree;refine BJ<|PN ?_;have eb:IsItemIter (ha.push {cls:= .type "tuple",data:= .seq #[en.key,en.val]}) it d (i+1) es.size ep y z:=Ag _ ea;have za:ha.objs.size=hp.objs.size:=sa.1;have il:it < hp.objs.size:=Ay hit;have tb:(ha.push {cls:= .type "tuple",data:= .seq #[en.key,en.val]}).get? hp.objs.size=some {cls:= .type "tuple",data:= .seq #[en.key,en.val]}:=by rw [<- za];exact At _ rfl
 have kb:∀ b u,b≠it->hp.get? b=some u->(ha.push {cls:= .type "tuple",data:= .seq #[en.key,en.val]}).get? b=some u:=λb u hb e=>Ag _<|sa.extBut b u hb e;rw [za];generalize ha.push {cls:= .type "tuple",data:= .seq #[en.key,en.val]}=hb at eb tb kb;refine BJ<|BJ<|JV (s:=⟨hb,g,dr,tk,os⟩) eb rfl (x:= .none) rfl (BK ?_);simp only [DP];refine BJ<|JV (s:=⟨hb,g,dr,tk,os⟩) eb rfl (x:=y) rfl (BJ<|JV (s:=⟨hb,g,dr,tk,os⟩) eb rfl (x:=z) rfl ?_);refine BJ (JD eb (by simp) λh3 e3 s3=>?_);replace s3:Heap.SameBut it hb h3:=s3;replace e3:IsItemIter h3 it d (i+1) es.size ep en.key z:=e3;refine BJ (JD e3 (by simp) λh4 e4 s4=>?_);replace s4:Heap.SameBut it h3 h4:=s4;replace e4:IsItemIter h4 it d (i+1) es.size ep en.key en.val:=e4;refine BJ (JD e4 (by simp) λh5 e5 s5=>?_);replace s5:Heap.SameBut it h4 h5:=s5;replace e5:IsItemIterOut h5 it d (i+1) es.size ep en.key en.val hp.objs.size:=e5;refine BJ (JD e5 (by simp) λh6 e6 s6=>?_);replace s6:Heap.SameBut it h5 h6:=s6;replace e6:IsItemIterOut h6 it d (i+1) es.size ep en.key en.val hp.objs.size:=e6;have all:=((s3.trans s4).trans s5).trans s6;exact BJ<|wpAny_letGo<|BK<|BK ⟨_,rfl,BK<|k h6 e6 (all.extBut _ _ (Cy il) tb) λb u iB e=>all.extBut b u iB<|kb b u iB e⟩
theorem Y8{it d:Addr}{i ep:Nat}{es:Array DictEntry}{y z:Value}{Q:Option Value->Shared->Prop}(hh:A.handled=none)(hit:IsItemIter s.heap it d i es.size ep y z)(hm:Plain s.heap d es ep)(hx:es.size<=i)
  (k:∀ h',Heap.ExtBut it s.heap h'->Q none {s with heap:=h'}):wpAny (model P w) A (pyNext<|.ref it) Q E s:=by
 obtain⟨o,f1,f2,f3⟩:=hm;have ty:s.TypeIs (.ref it) "dict_itemiterator":=⟨_,hit,rfl⟩;have ow:Builtin.Dict_items.ownsTuple "dict_itemiterator" = true:=by decide
 unfold pyNext;refine BJ<|KZ<|GQ (name:=Str.ofString "__next__") ty GJ<|DG GJ ty PB ?_<|MP _;refine BJ<|BK<|BJ<|BJ ?_
 first | refine BJ (FW ty<|BK ?_) | refine BJ<|IV ty<|BK ?_
 refine BJ<|PL hit rfl ?_;simp only [ow,DP];show wpAny _ _ (if(Value.ref d == Value.none)=true then _ else _) _ _ s;rw [BL (show ¬((Value.ref d == Value.none)=true) from Av)];refine BJ<|BK<|BJ<|QT f1 f3 ?_;rw [BL<|by simp];refine BJ<|BK<|BJ<|SJ f1 f3 ?_;rw [BL<|by simp];refine BK ?_;simp only [show ¬((i:Int) < 0) from by omega,CV,Bc,Ec hx];refine BJ ?_
 first | refine BJ (FW ty<|BK ?_) | refine BJ<|IV ty<|BK ?_
 show wpAny _ _ (setField (.ref it) 2 .none >>= _) _ _ s;refine BJ (FP hit rfl (by simp) ?_);show wpAny _ _ (newExc (.type "StopIteration") [] >>= _) _ _ _;refine BJ ?_;simp only [newExc,newTuple];refine BJ (CQ ?_<|by size_fits);refine BJ (m:=firstArgMember _ _) (JG (a:=Value.none) (by first | rfl | (simp only [firstArgMember];rfl)) ?_);refine CQ ?_ (by size_fits);simp only [raiseNew];refine BJ<|wpAny_handled ?_;rw [show A.in1.handled=none from hh];refine BJ<|BK<|wpAny_throw ?_;exact BJ<|JR (T:= "StopIteration") (b:=true) ⟨_,At _ rfl,rfl⟩ isSubtype_stop<|BK<|k _<|((CP ..).extBut.push _).push _
theorem Y9:entryFor table "dict_itemiterator.__iter__" = some Builtin.«dict_keyiterator.__iter__»:=
 PK (id':= "dict_keyiterator.__iter__") (by kernel_rfl) rfl (by decide +kernel) (by kernel_rfl)
theorem Y'{it d:Addr}{i n ep:Nat}{y z:Value}{Q:Value->Shared->Prop}(e:IsItemIter s.heap it d i n ep y z)(h:Q (.ref it) s):wpAny (model P w) A (pyIter<|.ref it) Q E s:=by
 have ty:s.TypeIs (.ref it) "dict_itemiterator":=⟨_,e,rfl⟩;refine KQ ty PJ<|DG PJ ty Y9 ?_<|F.args_dict_itemiterator_iter_1 _;show wpAny _ _ (ret<|.ref it) _ _ s;exact BK ⟨_,rfl,"dict_itemiterator",_,ty,F.slot_dict_itemiterator_next.lookup,h⟩
end
end PySem
namespace L2
open PySem PySem.Spec PyProof.Rows
section
variable{X:Cx}{pins:List (Addr×Obj)}{σ:St}{H:Hp}{s:Shared}
theorem Za{d:Addr}{kvs:List (List Key×V)}(I:Inv X pins σ H s)(e:H d=some (.dT kvs)):∃ o,s.heap.get? d=some o/\Inv X pins σ (upd H d<|.bD o<|.dT kvs) s:=by
 obtain⟨z,hd,xs,r,o,es,ep,ho,h2,h3,h4,h5⟩:=(show aD X.prog X.w H s.heap d (.dT kvs) from I.aG d _ e);refine⟨o,ho,?_⟩;have r':KT (upd H d<|.bD o<|.dT kvs) kvs xs:=KT.keeps r λb ys q=>by
  rw [av<|ce q e λz=>nomatch z];exact q
 exact mW (t':=s.toks) I (by rw [e];exact True.intro) ⟨rfl,λ_ _=>rfl⟩ ⟨o,ho⟩ (show aD X.prog X.w _ s.heap d (.bD o<|.dT kvs) from⟨ho,z,hd,xs,r',o,es,ep,ho,h2,h3,h4,h5⟩)
def Itm(d:Addr)(o:Obj)(kvs:List<|List Key×V):It:=
  ⟨λi H => H d = some (.bD o<|.dT kvs) ∧ i < kvs.length,
   λi H v H'=>∃ T b k x,kvs[i]?=some (k,x)/\H b=some (.tup<|k.map kV)/\H T=none/\v = .ref T/\H'=upd H T (.tup [.ref b,x]),
   λi H=>H d=some (.bD o<|.dT kvs)/\kvs.length<=i⟩
theorem NY{P:Program}{w:World}{h:Heap}{d:Addr}{o:Obj}{es:Array DictEntry}{ep:Nat}{kvs:List (List Key×V)}(aG:cv P w H h)(e:H d=some (.bD o<|.dT kvs))(hd:o.data = .dict es ep) :
  Plain h d es ep/\∃ xs,KT H kvs xs/\es.toList=xs.map (entryOfKey<|tupleKind<|cS P w):=by
 obtain⟨ho,z,_,xs,r,o',eV,mP,dt,h2,h3,h4,h5⟩:=(show aD P w H h d (.bD o<|.dT kvs) from aG d _ e);have:o=o':=Option.some.inj<|ho.symm.trans dt;subst this;rw [hd] at h3
 injection h3 with e1 e2
 subst e1;subst e2;exact⟨⟨o,ho,h2,hd⟩,xs,r,h4⟩
theorem kt_len{H:Hp}:∀{kvs:List (List Key×V)} {xs:List (List Key×Addr×Value)},KT H kvs xs->kvs.length=xs.length:=λr=>by
 induction r with
 | nil=>rfl
 | cons _ _ ih=>simp only [Aq,ih]
theorem kt_at{H:Hp}:∀{kvs:List (List Key×V)} {xs:List (List Key×Addr×Value)},KT H kvs xs->∀{i:Nat} {k:List Key} {x:V},kvs[i]?=some (k,x)->∃ b u,xs[i]?=some (k,b,u)/\H b=some (.tup<|k.map kV)/\RelV x u:=λr=>by
 induction r with
 | nil=>intro i k x h;simp at h
 | @cons p q ps qs hq t ih=>
  intro i k x h;cases i with
  | zero=>
   simp only [RP,Option.some.injEq] at h;subst h;obtain⟨a,b,c⟩:=q;obtain⟨q1,q2,q3⟩:=hq;have q1:k=a:=q1;subst q1;exact⟨b,c,rfl,q2,q3⟩
  | succ i=>exact ih<|by simpa using h
theorem Zb{P:Program}{w:World}{K:PySem.W.Frag}{elts:List Expr}{kk:Nat}{tp:Pos}(d it:Addr)(o:Obj)(es:Array DictEntry)(ep:Nat)(kvs:List<|List Key×V)(kN:o.data = .dict es ep) :
  Turn P w K (.Tuple elts kk tp) (Itm d o kvs) [it] it (λi h=>∃ y z,IsItemIter h it d i es.size ep y z) where
 mem:=by simp
 obj:=λi h st b hb=>by
  have e:b=it:=by simpa using hb
  subst e;obtain⟨y,z,e⟩:=st;exact⟨_,e,λv z=>by cases z⟩
 keep:=λi h h' st k=>let ⟨y,z,e⟩:=st;⟨y,z,k it (by simp) _ e⟩
 item:=by
  intro X hP hw hK hc i pins s σ H E I hf st hg;subst hP hw hK;obtain⟨f0,f1,f2,f3,f4,f5⟩:=hf it (by simp);obtain⟨hd,hi⟩:=hg;obtain⟨pd,xs,r,tY⟩:=NY I.aG hd kN;obtain⟨y,z,st⟩:=st;have hx:kvs[i]?=some (kvs[i].1,kvs[i].2):=Ab hi;obtain⟨b,u,gG,hb,ru⟩:=kt_at r hx;have xN:=entry_at tY i;rw [gG] at xN;refine Y7 st pd (en:=entryOfKey (tupleKind<|cS X.prog X.w) (kvs[i].1,b,u)) xN λh' q1 q2 kp=>?_;have hT:H s.heap.objs.size=none:=I.aG.fresh<|Al _;have nT:it≠s.heap.objs.size:=Bo<|Ay st;have I1:Inv X pins σ (upd H s.heap.objs.size<|.tup [.ref b,kvs[i].2]) {s with heap:=s.heap.push {cls:= .type "tuple",data:= .seq #[Value.ref b,u]}}:=
   I.laid (t':=s.toks) (λb o e=>Ag _ e) (Al _) (show aD X.prog X.w _ _ _ (.tup [.ref b,kvs[i].2]) from⟨Z2,[Value.ref b,u],.cons rfl (.cons ru .nil),⟨_,At _ rfl,rfl,_,rfl⟩⟩)
  have fp:∀ c∈[it],ci X pins (upd H s.heap.objs.size<|.tup [.ref b,kvs[i].2]) c:=λc bP=>by
   have e:c=it:=by simpa using bP
   subst e;exact⟨by rw [av nT];exact f0,f1,f2,f3,f4,f5⟩
  have I2:=Inv.cr (h':=h') (t':=s.toks) I1 fp λc v bP e=>by
   have nc:c≠it:=by simpa using bP
   rcases Heap.get?_push_cases e with ⟨ec,eo⟩ | e'
   ·rw [ec,eo];exact q2
   ·exact kp c v nc e'
  refine⟨_,rfl,wpAny_letOwnedTupleGo_items (s:={s with heap:=h'}) q1 λh2 b1 sb=>?_⟩;have I3:=Inv.cr (h':=h2) (t':=s.toks) I2 fp λc v bP e=>(sb.2 c<|by simpa using bP).trans e;exact⟨.ref s.heap.objs.size,_,I3,rfl,⟨_,b,kvs[i].1,kvs[i].2,hx,hb,hT,rfl,rfl⟩,⟨_,_,b1⟩,λc bP=>(fp c bP).1⟩
 done:=by
  intro X hP hw hK hc i pins s σ H E I hf st hg;subst hP hw hK;obtain⟨hd,hi⟩:=hg;obtain⟨pd,xs,r,tY⟩:=NY I.aG hd kN;obtain⟨y,z,st⟩:=st;have hl:es.size=kvs.length:=by rw [kt_len r,<- Bm,tY,Aa]
  exact Y8 (I.ok.hd hc) st pd (by omega) λh' eb=>⟨rfl,I.cr (t':=s.toks) hf λc v bP e=>eb c v (by simpa using bP) e⟩
 self:=λ_ _ _ _ _ st h=>let ⟨y,z,e⟩:=st;Y' e h
end
section
variable{X:Cx}
def Zc(to:TE):TI:=λσ H R=>to σ H λx H1=>∃ d kvs,x = .ref d/\H1 d=some (.dT kvs)/\∀ o,R (Itm d o kvs)<|upd H1 d<|.bD o<|.dT kvs
theorem N0{elts:List Expr}{kk:Nat}{tp ap cp:Pos}{l:Expr}{to:TE}(ho:PE X l to)(bL:attributeBase l "items" X.env (eval l X.env)=eval l X.env:=by rfl)(hline:(ap.endLine == cp.line)=true:=by rfl) :
  PI X (.Tuple elts kk tp) (.Call (.Attribute l "items" ap) [] [] cp) (Zc to):=by
 intro pins s σ H R I h;refine wpAny_Call_method0_late bL hline<|aQ (ho pins s σ H _ I h) λv s1 ⟨x,H1,I1,r1,q1⟩=>?_;obtain⟨d,kvs,e,hd,q⟩:=q1;subst e;cases (show v=Value.ref d from r1);obtain⟨_,Zd,_,_,o,es,ep,e1,e2,e3,_⟩:=(show aD X.prog X.w H1 s1.heap d (.dT kvs) from I1.aG d _ hd);have ty:s1.TypeIs (.ref d) "dict":=⟨o,e1,e2.1⟩;refine⟨"dict","dict.items",F.plainAttrs_dict,F.slot_dict_items,F.type_dict_items,ty,λa ea=>?_,HN rfl (PySem.evalArgs_none ?_)⟩
 ·cases ea;exact⟨o,e1,e2.2.1⟩
 refine QZ F.slot_dict_items ty F.entry_dict_items (F.args_dict_items_1 _) (Y5 d Zd) ⟨ty,?_⟩;obtain⟨o',eo,I2⟩:=Za I1 hd;have:o=o':=Option.some.inj<|e1.symm.trans eo;subst this;have I3:=I2.kept (t':=s1.toks) (h':=s1.heap.push {cls:= .type "dict_items",data:= .fields #[.ref d]}) λb u e=>Ag _ e;refine Y6 (s:={s1 with heap:=s1.heap.push {cls:= .type "dict_items",data:= .fields #[.ref d]}}) (d:=d) (es:=es) (ep:=ep) ⟨_,At _ rfl,rfl,rfl⟩ ⟨o,Ag _ e1,e2,e3⟩ ?_;refine⟨_,[(s1.heap.push {cls:= .type "dict_items",data:= .fields #[.ref d]}).objs.size],_,_,_,rfl,I3.kept (t':=s1.toks) λb u e=>Ag _ e,Zb d _ o es ep kvs e3,⟨_,_,At _ rfl⟩,λb hb=>?_,q o⟩;have e:b=(s1.heap.push {cls:= .type "dict_items",data:= .fields #[.ref d]}).objs.size:=by simpa using hb
 subst e;exact I3.iO (Al _)<|I3.aG.fresh<|Al _
end
section
variable{X:Cx}{tg:Expr}{ifs:List Expr}{inner:Sem Unit}{σ:St}{H:Hp}{d:Addr}{o:Obj}{kvs:List (List Key×V)}{after:St->Hp->Prop}
theorem N2(Pv:Nat->St->Hp->Prop)(h0:Pv 0 σ H)(hl:∀ i σ' H',i<=kvs.length->Pv i σ' H'->H' d=some (.bD o<|.dT kvs))
  (hs:∀ i k x b T σ' H',kvs[i]?=some (k,x)->Pv i σ' H'->H' b=some (.tup<|k.map kV)->H' T=none->Eg X tg (.ref T) σ' (upd H' T<|.tup [.ref b,x]) λσ2 H3=>Ei X ifs σ2 H3 λc H4=>if c=true then m7 X inner σ2 H4 (Pv<|i+1) else Pv (i+1) σ2 H4)
  (hd:∀ σ' H',Pv kvs.length σ' H'->after σ' H'):iV X tg ifs inner (Itm d o kvs) after σ H:=by
 refine⟨λi m σ' H'=>m=kvs.length - i/\i<=kvs.length/\Pv i σ' H',⟨_,rfl,Bx _,h0⟩,?_⟩;rintro i m σ' H' ⟨rfl,hi,p⟩;have q:=hl i σ' H' hi p
 by_cases a7:i < kvs.length
 ·refine .inr ⟨⟨q,a7⟩,Pv<|i+1,λσ' H' p'=>⟨kvs.length - (i+1),by omega,rfl,a7,p'⟩,λv H2 y=>?_⟩;obtain⟨T,b,k,x,hx,hb,hT,rfl,rfl⟩:=y;exact hs i k x b T σ' _ hx p hb hT
 ·have e:i=kvs.length:=by omega
  subst e;exact .inl ⟨⟨q,Al _⟩,hd σ' H' p⟩
end
open bM
def au{α:Type}:List α->List α
 | []=>[]
 | [a]=>[a]
 | a :: _ :: r=>a :: au r
theorem pE{α:Type}:∀(xs:List α) (k:Nat),(au xs)[k]?=xs[2 * k]?
 | [],k=>by simp [au]
 | [a],0=>rfl
 | [a],k+1=>by
  show([]:List α)[k]?=[a][2 * (k+1)]?;rw [Bd<|Bx _,Bd<|by show 1<=_;omega]
 | a :: b :: r,0=>rfl
 | a :: b :: r,k+1=>by
  show(au r)[k]?=(a :: b :: r)[2 * (k+1)]?;rw [pE r k,show 2 * (k+1)=2 * k+1+1 by omega];rfl
theorem tZ{α:Type}:∀(xs:List α),(au xs).length=(xs.length+1) / 2
 | []=>by
  show 0=(0+1) / 2;omega
 | [a]=>by
  show 1=(1+1) / 2;omega
 | a :: b :: r=>by
  show(au r).length+1=(r.length+1+1+1) / 2;rw [tZ r];omega
theorem Zf{α:Type}(xs:List α):(au xs).length<=xs.length:=by
 rw [tZ];omega
theorem N3:∀{xs:List V} {us:List Value},az xs us->az (au xs) (au us)
 | [],us,r=>by
  have:=r.zero;subst this;exact .nil
 | [a],us,r=>by
  obtain⟨u,rfl,ru⟩:=r.one;exact .cons ru .nil
 | a :: b :: r,us,h=>by
  cases h with
  | cons h1 h2=>
   cases h2 with
   | cons h3 h4=>exact .cons h1<|N3 h4
theorem N4{α:Type}(g:Nat->Option α):∀(c:Nat),(∀ k,k < c->∃ v,g k=some v)->((List.range c).filterMap g).length=c/\∀ k,k < c->((List.range c).filterMap g)[k]?=g k
 | 0,_=>⟨rfl,λk h=>absurd h<|Dy _⟩
 | c+1,h=>by
  obtain⟨h1,h2⟩:=N4 g c λk hk=>h k (by omega);obtain⟨v,hv⟩:=h c (by omega);have e:(List.range<|c+1).filterMap g=(List.range c).filterMap g++[v]:=by
   rw [Do,List.filterMap_append,Dz,hv];rfl
  rw [e];refine⟨by rw [Af,h1];rfl,λk hk=>?_⟩
  by_cases lJ:k < c
  ·rw [As<|by omega];exact h2 k lJ
  ·have:k=c:=by omega
   subst this;rw [Az (by omega),h1,VG,hv];rfl
theorem Zg(its:List Value):slicePick its.toArray none none (some 2)=(au its).toArray:=by
 unfold slicePick;have hb:sliceBounds none none (some 2) its.toArray.size=(0,(its.length:Int),2):=rfl;rw [hb]
 congr 1
 show((sliceRange 0 (its.length:Int) 2).filterMap (its.toArray[·]?))=au its;have hr:sliceRange 0 (its.length:Int) 2=(List.range<|(its.length+1) / 2).map λk=>2 * k:=by
  unfold sliceRange;have e1:(if(2:Int) > 0 then(if(0:Int) < (its.length:Int) then((its.length:Int) - 0+2 - 1) / 2 else 0) else(if(0:Int) > (its.length:Int) then(0 - (its.length:Int) - 2 - 1) / (-2) else 0)).toNat=(its.length+1) / 2:=by
   rw [BP<|by decide]
   split <;> omega
  show(List.range _).map _=_;rw [e1];exact Ao λk _=>by omega
 rw [hr,List.filterMap_map];obtain⟨h1,h2⟩:=N4 (λk=>its.toArray[2 * k]?) ((its.length+1) / 2) λk hk=>⟨its[2 * k]'(by omega),by rw [<- Bq];exact Ab (l:=its)<|by omega⟩;apply Du;intro k;show((List.range<|(its.length+1) / 2).filterMap λk=>its.toArray[2 * k]?)[k]?=_
 by_cases hk:k < (its.length+1) / 2
 ·rw [h2 k hk,pE,<- Bq]
 ·rw [Bd (by omega),Bd<|by rw [tZ];omega]
section
variable{X:Cx}{σ:St}{H:Hp}{Q:VK}
theorem Zh{e:Expr}{j:Nat}{p1 p2 pos:Pos} (h:Ev X e σ H λx H1=>∃ a xs,x = .ref a/\aq X.K H1 a xs/\∀ p,H1 p=none->Q (.ref p) (upd H1 p<|.lst<|au xs)) :
  Ev X (.Subscript e (.Slice none none (some<|.Constant (.int 2) j p1) p2) pos) σ H Q:=by
 refine⟨λpins s I=>Subscript_<|aQ (h.run pins s I) λv s1 ⟨x,H1,I1,r1,a,xs,ex,hx,q⟩=>?_⟩;subst ex;cases (show v=Value.ref a from r1);refine wpAny_Slice ?_;rw [evalPart_none];refine BK<|BK ?_;rw [evalPart_some];refine aQ ((aC (X:=X) (i:=2) (j:=j) (p:=p1) (σ:=σ) (H:=H1) (Q:=λy H2=>y = .int 2/\H2=H1) ⟨rfl,rfl⟩).run pins s1 I1) λv2 s2 ⟨y,H2,I2,r2,ey,eh⟩=>?_;subst ey eh;obtain⟨t,rfl⟩:=r2;obtain⟨its,r,pl,hz⟩:=I2.list hx;have hlen:=r.length;have I3:Inv X pins σ H2 {s2 with heap:=s2.heap.push {cls:= .type "slice",data:= .fields #[.none,.none,.int 2 t]}}:=I2.kept (t':=s2.toks) λb ob q=>Ag _ q;have N5:=pl.isList.push {cls:= .type "slice",data:= .fields #[.none,.none,.int 2 t]};show wpAny (model X.prog X.w) X.A (subscriptTail e _ (.ref a)<|.ref s2.heap.objs.size) (EP X pins σ Q) X.xe {s2 with heap:=s2.heap.push {cls:= .type "slice",data:= .fields #[.none,.none,.int 2 t]}};refine tail_any (ops:=[.ref a,.ref s2.heap.objs.size]) (T:= "list") (Heap.IsList.typeIs (s:={s2 with heap:=s2.heap.push {cls:= .type "slice",data:= .fields #[.none,.none,.int 2 t]}}) N5) slot_list_getitem.lookup ?_ (by with_unfolding_all rfl);refine wpAny_getItem_list_slice (s:={s2 with heap:=s2.heap.push {cls:= .type "slice",data:= .fields #[.none,.none,.int 2 t]}}) N5 (Heap.IsSliceOf.new ..) .none .none (.int 2 t) (by decide) ?_ (by rw [Au];omega);rw [Zg];exact⟨.ref _,_,I3.sV (t':=s2.toks) (N3 r)<|Bs (Zf _) hz,rfl,q _ I3.fresh⟩
end
section
variable{prog:Program}{w:World}{A:Around}{E:Value->Shared->Prop}{s:Shared}
theorem Zi{Q:Value->Shared->Prop}(k:Q (.ref s.heap.objs.size) {s with heap:=s.heap.push (gS w)}):codeAny (model prog w) A (.call (.builtin "set.__new__") ⟨[.type "set"],[]⟩) (wants Q E) s:=by
 refine JZ ?_;show wpAny _ A.in1 (checkBuiltinCall "set.__new__" ⟨[.type "set"],[]⟩ >>= λ_=>again<|.builtin "set.__new__" ⟨[.type "set"],[]⟩) _ _ s;refine BJ<|JG PySem.F.newCall_set_0<|BK ⟨JB UJ _,FJ PySem.F.entry_set_new ?_⟩;rw [EY UJ _];unfold Builtin.«set.__new__» Builtin.Frozenset.newClass
 dsimp only
 refine BJ<|BJ<|JG (show isType (.type "set")=pure true from rfl)<|BK ?_;simp only [Dw,Bb,CV];unfold newSet;refine BJ<|BJ<|wp_text ?_
 dsimp only
 simp only [newObj];exact BJ<|SQ<|BK<|BK k
theorem Zj{Q:Value->Shared->Prop}(k:Q (.ref s.heap.objs.size) {s with heap:=s.heap.push (gS w)}):wpAny (model prog w) A (call (.type "set") []) Q E s:=by
 obtain⟨c,tl,B1⟩:=PySem.F.called_set.mro;have tE:=PySem.F.called_set.made;have lS:=PySem.F.called_set.sub;refine wpAny_call<|JZ ?_;show wpAny _ _ (callAny (.type "set") _) _ _ _;refine BK ⟨Code.quiet_builtin _ (by decide +kernel),FJ PySem.F.entry_type_call ?_⟩;rw [Around.under_plain (weight_type_call_type "set" [] []) rfl];have h1:=PySem.F.called_set.notType;have h2:=PySem.F.called_set.canCreate;have h3:=PySem.F.typeCall_set_0
 repeat (any_goals (first | assumption | wp_step))
 refine JL (Zi (E:=E) (Q:=λv u=>v = .ref s.heap.objs.size/\u={s with heap:=s.heap.push (gS w)}) ⟨rfl,rfl⟩) λr u hr=>?_;cases r with
 | error e=>exact hr
 | ok fl=>
  cases fl with
  | ret v=>
   obtain⟨rfl,rfl⟩:=hr;have hT:Shared.TypeIs {s with heap:=s.heap.push (gS w)} (.ref s.heap.objs.size) "set":=⟨_,At _ rfl,rfl⟩;have qU:=PySem.F.called_set.init.lookup;have B2:=PySem.F.called_set.init.bind<|.ref s.heap.objs.size
   repeat (any_goals (first | assumption | wp_step))
   refine JL (codeAny_call_builtin (R:=wants (λr u=>r = .none/\Q (.ref s.heap.objs.size) u) E) PySem.F.called_set.init.plain PySem.F.entry_set_init<|check_set_init hT ?_) λr2 u2 oZ=>?_
   ·unfold Builtin.«set.__init__» noKeywords
    wp_walk
    exact⟨rfl,k⟩
   ·cases r2 with
    | error e=>exact oZ
    | ok f2=>
     cases f2 with
     | ret r=>
      obtain⟨rfl,hq⟩:=oZ
      repeat (any_goals (first | assumption | wp_step))
     | _=>exact oZ.elim
  | _=>exact hr.elim
theorem Zk{a:Addr}{zs:List Str}{z:Str}{tk:Tok}{Q:Value->Shared->Prop}(S:aA prog w s.heap a zs) (h:Q (.bool<|decide (z∉zs)) {s with toks:=s.toks+1}):wpAny (model prog w) A (compareOp .NotIn (.str z tk)<|.ref a) Q E s:=by
 have hT:=S.typeIs;show wpAny _ _ (do return .bool (!(<- contains (.ref a)<|.str z tk))) Q E s;refine BJ ?_;unfold contains
 try with_reducible refine CJ ?_
 refine BJ<|RX hT PySem.F.slot_set_contains.lookup ?_;show wpAny _ _ (if(some (Value.builtin "set.__contains__") == some Value.none)=true then _ else _) _ E s;rw [BL<|by rw [beq_builtin_none];exact Av];refine BJ<|wpAny_callSpecialUnlessNone?_slot (name:=Str.ofString "__contains__") hT QX<|DG QX hT entry_set_contains ?_<|PySem.F.args_set_contains_2 _ _;unfold Builtin.«frozenset.__contains__» Builtin.Frozenset.oneOther;simp only [Gf,bind_assoc];unfold Builtin.Frozenset.addrOf Builtin.Frozenset.withSetAsKey setContains;refine BJ<|BK ?_
 try dsimp only
 refine BJ<|BK ?_
 try dsimp only
 refine BJ<|wpAny_tryCatch<|CJ ?_;refine BJ<|(strKind prog w).pyHash (k:=z) (NZ _ _ _ _) ?_;obtain⟨o,es,ep,t,ho,hx,hd,T⟩:=S;refine BJ<|Ml (s:={s with toks:=s.toks+1}) ho hd T (λhz=>?_) λj hj e=>?_
 ·refine BK ?_;show wpAny _ _ (ret<|Value.bool false) _ _ _;rw [BW hz] at h;exact BK ⟨_,rfl,FQ<|BK h⟩
 ·refine BK ?_;show wpAny _ _ (ret<|Value.bool true) _ _ _;have hz:z∈zs:=T.keys.mem_iff.mp (by rw [<- e];exact An.mpr ⟨_,Bt hj,rfl⟩);rw [BR<|not_not_intro hz] at h;exact BK ⟨_,rfl,FQ<|BK h⟩
end
section
variable{X:Cx}{σ:St}{H:Hp}{Q:VK}
theorem Zm{p pos:Pos}(hm:X.mg "set" = none)(h:∀ D,H D=none->Q (.ref D) (upd H D<|bA X.prog X.w D []))(hg:Gl X "set":=by rfl):Ev X (.Call (.Name "set" p) [] [] pos) σ H Q:=by
 refine⟨λpins s I=>Call_<|oi I hg hm MJ<|PyProof.Rows.callWith_type0<|Zj ?_⟩;exact⟨.ref s.heap.objs.size,_,I.laid (t':=s.toks) (λb o e=>Ag _ e) (Al _)<|w8<|Mw<|At _ rfl,rfl,h _ I.fresh⟩
theorem Zn:cK X (compareOp .NotIn) (λx y H Q=>∃ z a zs,x = .str z/\y = .ref a/\H a=some (bA X.prog X.w a zs)/\Q (.bl<|decide (z∉zs)) H):=by
 intro pins s σ H x y v u Q I rx ry h;obtain⟨z,a,zs,rfl,rfl,hA,q⟩:=h;obtain⟨t,rfl⟩:=rx;cases (show u=Value.ref a from ry);exact Zk (I.set hA) ⟨.bl _,H,I.tok _,rfl,q⟩
theorem Zo{o e:Expr}{ap cp:Pos} (h:Ev X o σ H λx H1=>∃ a,x = .ref a/\(∃ zs,H1 a=some (bA X.prog X.w a zs))/\Ev X e σ H1 λy H2=>∃ z zs,y = .str z/\H2 a=some (bA X.prog X.w a zs)/\zs.length+1 < 1000/\Q .non (upd H2 a<|bA X.prog X.w a<|added zs z))
  (bL:attributeBase o "add" X.env (eval o X.env)=eval o X.env:=by rfl)
  (eW:((backTo cp<|starEach [e] X.env).all (λx=>!x.1) && (backToKw cp<|keywordEach [] X.env).all (λx=>x.1.isSome) && decide ([e].length+([]:List Keyword).length+(if([]:List Keyword).isEmpty then 0 else 1) < 30))=true:=by rfl)
  (hline:(ap.endLine == cp.line)=true:=by rfl) (hs:starEach [e] X.env=(false,eval e X.env) :: starEach [] X.env:=by rfl) (c9:isStar e=false:=by rfl):Ev X (.Call (.Attribute o "add" ap) [e] [] cp) σ H Q:=by
 refine⟨λpins s I=>wpAny_Call_method_late bL eW hline rfl (aQ (h.run pins s I) λv s1 ⟨x,H1,I1,r1,a,ex,⟨zs,hA⟩,h2⟩=>?_)⟩;subst ex;cases (show v=Value.ref a from r1);have S:=I1.set hA;refine⟨"set","set.add",PySem.F.plainAttrs_set,PySem.F.slot_set_add,PySem.F.type_set_add,S.typeIs,λb eb=>?_,?_⟩
 ·cases eb;obtain⟨o,_,_,_,ho,hx,_⟩:=S;exact⟨o,ho,hx.2.1⟩
 have hE:Ea X [e] σ H1 (λys H2=>∃ z zs,ys=[.str z]/\H2 a=some (bA X.prog X.w a zs)/\zs.length+1 < 1000/\Q .non (upd H2 a<|bA X.prog X.w a<|added zs z)):=ah (h2.mono λy H2 ⟨z,zs,ey,q⟩=>ay ⟨z,zs,by rw [ey],q⟩) c9;have N6:=hE.run cp pins s1 I1;rw [hs] at N6 ⊢;refine HN rfl (NK ?_);refine aQ N6 λus s2 ⟨vs,H2,I2,r2,z,ys,ev,N7,hl,q⟩=>?_;subst ev;obtain⟨u,rfl,ru⟩:=vals1 r2;obtain⟨tk,rfl⟩:=ru;refine Y4 (I2.set N7) hl λh' sb S'=>⟨.non,_,mW (t':=s2.toks+1) I2 (by rw [N7];exact True.intro) sb ?_<|w8 S',rfl,q⟩;obtain⟨o,_,_,_,ho,_⟩:=S';exact⟨o,ho⟩
end
end L2
namespace Nt
open PySem L2
def dH(c:Int)(n:Net)(e:End):End:=(e.1,(((e.2:Int)+c) % ((row n e.1).length:Int)).toNat)
theorem rq{c:Int}{n:Net}{e:End}(h:e∈ends n):(((dH c n e).2:Nat):Int)=((e.2:Int)+c) % ((row n e.1).length:Int):=by
 obtain⟨z,hz⟩:=af.mp h;have:=f9 hz;exact Int.toNat_of_nonneg<|Bw _<|by omega
theorem N8{c:Int}{n:Net}{e:End}(h:e∈ends n):dH c n e∈ends n:=by
 obtain⟨z,hz⟩:=af.mp h;have h1:=f9 hz;have h2:=rq (c:=c) h;have h3:((e.2:Int)+c) % ((row n e.1).length:Int) < ((row n e.1).length:Int):=Cc _ (by omega);exact af.mpr<|xg (e:=dH c n e)<|by show(dH c n e).2 < (row n e.1).length;omega
theorem pF{c:Int}{n:Net}{e:End}(h:e∈ends n):dH (-c) n (dH c n e)=e:=by
 have h2:=rq (c:=c) h;have h3:=rq (c:=-c)<|N8 (c:=c) h;obtain⟨z,hz⟩:=af.mp h;have h1:=f9 hz;have hr:(dH c n e).1=e.1:=rfl;rw [hr,h2] at h3;have e1:(((e.2:Int)+c) % ((row n e.1).length:Int)+-c) % ((row n e.1).length:Int)=(e.2:Int):=by
  have:(((e.2:Int)+c) % ((row n e.1).length:Int)+-c) % ((row n e.1).length:Int)=((e.2:Int)+c+-c) % ((row n e.1).length:Int):=by
   rw [Int.add_emod,Int.emod_emod,<- Int.add_emod]
  rw [this,show(e.2:Int)+c+-c=(e.2:Int) by omega];exact Int.emod_eq_of_lt (by omega)<|by omega
 rw [e1] at h3;have h4:(dH (-c) n<|dH c n e).2=e.2:=by omega
 exact GX rfl h4
theorem N9{c:Int}{n:Net}{a b:End}(ha:a∈ends n)(hb:b∈ends n)(h:dH c n a=dH c n b):a=b:=by
 rw [<- pF (c:=c) ha,<- pF (c:=c) hb,h]
theorem Oa{n:Net}{e:End}(h:e∈ends n):left n e=dH 1 n e:=by
 have h2:=rq (c:=1) h;refine GX rfl ?_;show(e.2+1) % (row n e.1).length=(dH 1 n e).2;have:(((e.2+1) % (row n e.1).length:Nat):Int)=((e.2:Int)+1) % ((row n e.1).length:Int):=by simp
 omega
def go(c:Int)(n:Net)(e:End):End:=dH c n<|other n e
theorem gk{c:Int}{n:Net}(T:ax n){e:End}(h:e∈ends n):go c n e∈ends n:=N8<|cZ T h
theorem go_inj{c:Int}{n:Net}(T:ax n){a b:End}(ha:a∈ends n)(hb:b∈ends n)(h:go c n a=go c n b):a=b:=M7 T ha hb<|N9 (cZ T ha) (cZ T hb) h
theorem Ob{n:Net}(T:ax n){e:End}(h:e∈ends n):step n e=go 1 n e:=Oa<|cZ T h
def two(n:Net)(e:End):End:=go (-1) n<|go 1 n e
theorem lZ{n:Net}(T:ax n){e:End}(h:e∈ends n):two n e∈ends n:=gk T<|gk T h
theorem t6{n:Net}(T:ax n){a b:End}(ha:a∈ends n)(hb:b∈ends n)(h:two n a=two n b):a=b:=go_inj T ha hb<|go_inj T (gk T ha) (gk T hb) h
def wk(n:Net)(e:End):Nat->List End
 | 0=>[]
 | k+1=>wk n e k++[it (two n) k e,go 1 n<|it (two n) k e]
theorem pG(n:Net)(e:End):∀ k,(wk n e k).length=2 * k
 | 0=>rfl
 | k+1=>by
  show(wk n e k++_).length=_;rw [Af,pG n e k];show 2 * k+2=_;omega
theorem pH(n:Net)(e:End):∀(k i:Nat),i < k->(wk n e k)[2 * i]?=some (it (two n) i e)
 | 0,i,h=>absurd h<|Dy _
 | k+1,i,h=>by
  show(wk n e k++[it (two n) k e,go 1 n<|it (two n) k e])[2 * i]?=_;have l:=pG n e k
  by_cases hk:i < k
  ·rw [As<|by omega];exact pH n e k i hk
  ·have:i=k:=by omega
   subst this;rw [Az (by omega),l,VG];rfl
theorem xO(n:Net)(e:End):∀(k i:Nat),i < k->(wk n e k)[2 * i+1]?=some (go 1 n<|it (two n) i e)
 | 0,i,h=>absurd h<|Dy _
 | k+1,i,h=>by
  show(wk n e k++[it (two n) k e,go 1 n<|it (two n) k e])[2 * i+1]?=_;have l:=pG n e k
  by_cases hk:i < k
  ·rw [As<|by omega];exact xO n e k i hk
  ·have:i=k:=by omega
   subst this;rw [Az (by omega),l,show 2 * i+1 - 2 * i=1 by omega];rfl
theorem Zq(n:Net)(e:End)(k:Nat):au (wk n e k)=(List.range k).map λi=>it (two n) i e:=by
 apply Du;intro i;rw [pE,Ah]
 by_cases h:i < k
 ·rw [pH n e k i h,Eb h];rfl
 ·rw [Bd (by rw [pG];omega),Bd<|by rw [El];omega];rfl
theorem EC{n:Net}(T:ax n){e:End}(h:e∈ends n):∀ k,∀ c∈wk n e k,c∈ends n
 | 0,c,hc=>by cases hc
 | k+1,c,hc=>by
  have hk:it (two n) k e∈ends n:=jT (λa ha=>lZ T ha) h k
  rcases Am.mp hc with hc | hc
  ·exact EC T h k c hc
  ·rcases Ak.mp hc with rfl | hc
   ·exact hk
   ·rw [Ad.mp hc];exact gk T hk
structure i0(n:Net)(e:End)(k:Nat):Prop where
 pos:0 < k
 back:it (two n) k e=e
 first:∀ i,0 < i->i < k->it (two n) i e≠e
theorem i0.unique{n:Net}{e:End}{k l:Nat}(a:i0 n e k)(b:i0 n e l):k=l:=by
 rcases QV k l with h | h | h
 ·exact absurd a.back<|b.first k a.pos h
 ·exact h
 ·exact absurd b.back<|a.first l b.pos h
noncomputable def t7(n:Net)(e:End):Nat:=by classical exact if h:∃ k,i0 n e k then h.choose else 0
theorem t8{n:Net}{e:End}{k:Nat}(h:i0 n e k):t7 n e=k:=by
 have hx:∃ k,i0 n e k:=⟨k,h⟩;unfold t7;rw [dif_pos hx];exact hx.choose_spec.unique h
noncomputable def walker(n:Net)(e:End):List End:=wk n e<|t7 n e
structure jX(n:Net)(ws:List End):Prop where
 ends:∀ c∈ws,c∈Nt.ends n
 ne0:0 < ws.length
 even:ws.length % 2=0
 few:ws.length<=2 * (Nt.ends n).length
 at':∀ k,k < ws.length->∃ c,ws[k]?=some c/\ws[(k+1) % ws.length]?=some (go (1 - 2 * ((k:Int) % 2)) n c)
theorem Zr{n:Net}(T:ax n){e:End}(h:e∈Nt.ends n){k:Nat}(p:i0 n e k)(hk:k<=(Nt.ends n).length):jX n (wk n e k):=by
 have l:=pG n e k;have p0:=p.pos;refine⟨EC T h k,by omega,by omega,by omega,λj hj=>?_⟩;rw [l] at hj ⊢
 rcases QK j with h2 | h2
 ·obtain⟨i,rfl⟩:∃ i,j=2 * i:=⟨j / 2,by omega⟩;refine⟨_,pH n e k i (by omega),?_⟩;rw [Cb (by omega),xO n e k i<|by omega];have:(1:Int) - 2 * (((2 * i:Nat):Int) % 2)=1:=by omega
  rw [this]
 ·obtain⟨i,rfl⟩:∃ i,j=2 * i+1:=⟨j / 2,by omega⟩;refine⟨_,xO n e k i (by omega),?_⟩;have e1:(1:Int) - 2 * (((2 * i+1:Nat):Int) % 2)=-1:=by omega
  rw [e1];show _=some (two n<|it (two n) i e)
  by_cases hl:i+1 < k
  ·rw [Cb (by omega),show 2 * i+1+1=2 * (i+1) by omega];exact pH n e k (i+1) hl
  ·have:i+1=k:=by omega
   rw [show 2 * i+1+1=2 * k by omega,Ed];have e2:two n (it (two n) i e)=it (two n) k e:=by rw [<- this];rfl
   rw [e2,p.back];exact pH n e k 0<|by omega
def aE(n:Net)(e:End):Str:=(aK n e).getD ⟨#[]⟩
theorem fk{n:Net}{e:End}{z:Str}(h:aK n e=some z):aE n e=z:=by unfold aE;rw [h];rfl
noncomputable def dI(n:Net):List End->List Str->List (List End)
 | [],_=>[]
 | e :: r,told=>if aE n e∈told then dI n r told else walker n e :: dI n r (told++(au<|walker n e).map (aE n))
theorem rA{n:Net}(T:ax n){e:End}(h:e∈ends n):∃ k,i0 n e k/\k<=(ends n).length:=by
 obtain⟨k,k0,k1,k2⟩:=CH (f:=two n) (S:=ends n) (λa ha=>lZ T ha) (λa ha b hb=>t6 T ha hb) h;have aux:∀ m,∀ k,k<=m->0 < k->it (two n) k e=e->∃ j,j<=k/\i0 n e j:=by
  intro m
  induction m with
  | zero=>intro k h1 h2;omega
  | succ m ih=>
   intro k h1 h2 h3
   by_cases c:∃ i,0 < i/\i < k/\it (two n) i e=e
   ·obtain⟨i,i1,i2,i3⟩:=c;obtain⟨j,j1,j2⟩:=ih i (by omega) i1 i3;exact⟨j,by omega,j2⟩
   ·exact⟨k,Al _,h2,h3,λi i1 i2 i3=>c ⟨i,i1,i2,i3⟩⟩
 obtain⟨j,j1,j2⟩:=aux k k (Al _) k0 k2;exact⟨j,j2,by omega⟩
theorem Zt{n:Net}(T:ax n){e:End}(h:e∈ends n):jX n (walker n e):=by
 obtain⟨k,p,hk⟩:=rA T h;unfold walker;rw [t8 p];exact Zr T h p hk
theorem nA{n:Net}(T:ax n):∀(es:List End) (told:List Str),(∀ e∈es,e∈ends n)->∀ w∈dI n es told,jX n w
 | [],_,_,w,hw=>by cases hw
 | e :: r,told,h,w,hw=>by
  unfold dI at hw
  split at hw
  ·exact nA T r told (λa ha=>h a<|Ai _ ha) w hw
  ·rcases Ak.mp hw with rfl | hw
   ·exact Zt T<|h e<|Ae ..
   ·exact nA T r _ (λa ha=>h a<|Ai _ ha) w hw
theorem xP(n:Net):∀(es:List End) (told:List Str),(dI n es told).length<=es.length
 | [],_=>Al _
 | e :: r,told=>by
  unfold dI
  split
  ·have:=xP n r told;show _<=r.length+1;omega
  ·have:=xP n r<|told++(au<|walker n e).map (aE n);show _+1<=r.length+1;omega
end Nt
namespace Nt
variable{α β:Type}
def gH(f:α->α):List α->α->α->Prop
 | [],a,b=>a=b
 | x :: l,a,b=>x=a/\gH f l (f x) b
theorem bZ{f:α->α}:∀{l k:List α} {a b:α},gH f (l++k) a b↔∃ c,gH f l a c/\gH f k c b
 | [],k,a,b=>⟨λh=>⟨a,rfl,h⟩,λ⟨c,e,h⟩=>by cases e;exact h⟩
 | x :: l,k,a,b=>by
  show(x=a/\gH f (l++k) (f x) b)↔∃ c,(x=a/\gH f l (f x) c)/\gH f k c b;rw [bZ];exact⟨λ⟨e,c,h1,h2⟩=>⟨c,⟨e,h1⟩,h2⟩,λ⟨c,⟨e,h1⟩,h2⟩=>⟨e,c,h1,h2⟩⟩
theorem ED{f:α->α}{f':β->β}{g:α->β}:∀{l:List α} {a b:α},(∀ x∈l,f' (g x)=g (f x))->gH f l a b->gH f' (l.map g) (g a) (g b)
 | [],_,_,_,h=>BZ g h
 | x :: l,a,b,hg,h=>⟨BZ g h.1,by rw [hg x Ae];exact ED (λy hy=>hg y<|Ai _ hy) h.2⟩
theorem xQ{f:α->α}:∀{l:List α} {x a b y:α},gH f (x :: l) a b->y∈x :: l->f y∈l\/f y=b
 | [],x,a,b,y,h,hy=>by
  rw [Ad] at hy;subst hy;exact .inr h.2
 | z :: l,x,a,b,y,h,hy=>by
  rcases Ak.mp hy with rfl | hy
  ·exact .inl<|by rw [<- h.2.1];exact Ae
  ·rcases xQ h.2 hy with q | q
   ·exact .inl<|Ai _ q
   ·exact .inr q
theorem EE{f:α->α}{l:List α}{a y:α}(h:gH f l a a)(ha:a∈l)(hy:y∈l):f y∈l:=by
 cases l with
 | nil=>cases hy
 | cons x l=>
  rcases xQ h hy with q | q
  ·exact Ai _ q
  ·rw [q];exact ha
theorem xR{f:α->α}{f':β->β}{g:α->β}{c:α}{h:β}:∀{l:List α} {x:α},(∀ y∈x :: l,f y=c->f' (g y)=h)->(∀ y∈x :: l,f y≠c->f' (g y)=g (f y))->c∉l->gH f (x :: l) x c->gH f' ((x :: l).map g) (g x) h
 | [],x,h1,_,_,p=>⟨rfl,h1 x Ae p.2⟩
 | y :: l,x,h1,h2,hc,p=>by
  have e:y=f x:=p.2.1;have ne:f x≠c:=λq=>hc (by rw [<- q,<- e];exact Ae);refine⟨rfl,?_⟩;rw [h2 x Ae ne,<- e];refine xR (λz hz=>h1 z<|Ai _ hz) (λz hz=>h2 z<|Ai _ hz) (λq=>hc<|Ai _ q) ?_;exact⟨rfl,p.2.2⟩
structure Dec(f:α->α)(D:List α)(Ls:List<|List α):Prop where
 jY:∀ l∈Ls,∃ a,a∈l/\gH f l a a
 all:Ls.flatten.Perm D
 nd:D.Nodup
theorem Dec.sub{f:α->α}{D:List α}{Ls:List (List α)}(d:Dec f D Ls){l:List α}(hl:l∈Ls){x:α}(hx:x∈l):x∈D:=
 d.all.mem_iff.mp (Fn.mpr ⟨l,hl,hx⟩)
theorem Dec.pick{f:α->α}{D:List α}{Ls:List (List α)}(d:Dec f D Ls){c:α}(hc:c∈D):∃ l Ms,Ls.length=Ms.length+1/\Dec f D ((c :: l) :: Ms):=by
 obtain⟨l,hl,iX⟩:=Fn.mp<|d.all.mem_iff.mpr hc;obtain⟨A,B,rfl⟩:=Fv hl;obtain⟨p,q,rfl⟩:=Fv iX;obtain⟨a,ha,h⟩:=d.jY _ hl;obtain⟨m,h1,h2⟩:=bZ.mp h;have e:c=m:=h2.1;subst e;refine⟨q++p,A++B,by simp [Nat.add_assoc],λk hk=>?_,?_,d.nd⟩
 ·rcases Ak.mp hk with rfl | hk
  ·exact⟨c,Ae,bZ (l:=c :: q).mpr ⟨a,h2,h1⟩⟩
  ·refine d.jY k ?_
   rcases Am.mp hk with q | q
   ·exact Ba _ q
   ·exact Ax _<|Ai _ q
 ·refine List.Perm.trans ?_ d.all;simp only [Dc,Fp,Fm];have e1:(c :: (q++p)).Perm (p++c :: q):=by
   rw [<- Fm];exact Cf
  refine((e1.append_right _).trans ?_);rw [<- Ar,<- Ar];exact(Cf).append_right _
theorem Dec.apart{f:α->α}{D:List α}{l:List α}{Ms:List (List α)}(d:Dec f D<|l :: Ms):l.Nodup/\∀ m∈Ms,∀ x∈l,x∉m:=by
 have h:=d.all.nodup_iff.mpr d.nd;rw [Dc,Ci] at h;exact⟨h.1,λm hm x hx EF=>h.2.2 x hx x (Fn.mpr ⟨m,hm,EF⟩) rfl⟩
theorem xS{g:α->β}:∀(Ls:List<|List α),(Ls.map<|List.map g).flatten=Ls.flatten.map g
 | []=>rfl
 | l :: Ls=>by rw [Bj,Dc,xS Ls,Dc,Aj]
theorem Dec.rest{f:α->α}{f':β->β}{g:α->β}{D:List α}{l:List α}{Ms:List (List α)}(d:Dec f D<|l :: Ms)(ho:∀ x∈D,f x∉l->f' (g x)=g (f x)):∀ m∈Ms.map (List.map g),∃ a,a∈m/\gH f' m a a:=by
 intro m hm;obtain⟨k,hk,rfl⟩:=An.mp hm;obtain⟨a,ha,p⟩:=d.jY k<|Ai _ hk;refine⟨g a,An.mpr ⟨a,ha,rfl⟩,ED (λx hx=>ho x (d.sub (Ai _ hk) hx) λq=>?_) p⟩;exact d.apart.2 k hk _ q<|EE p ha hx
theorem Dec.grow{f:α->α}{f':β->β}{g:α->β}{D:List α}{c:α}{l:List α}{Ms:List (List α)}(d:Dec f D<|(c :: l) :: Ms){new:List β}{h:β}(hn:gH f' new h<|g c)(hh:∀ x∈D,f x=c->f' (g x)=h)(ho:∀ x∈D,f x≠c->f' (g x)=g (f x))(nd:(D.map g++new).Nodup) :
  Dec f' (D.map g++new) (((c :: l).map g++new) :: Ms.map (List.map g)):=by
 have ap:=d.apart;have iX:c∉l:=(Be.mp ap.1).1;refine⟨λk hk=>?_,?_,nd⟩
 ·rcases Ak.mp hk with rfl | hk
  ·obtain⟨a,ha,p⟩:=d.jY _ Ae;have e:c=a:=p.1;subst e;exact⟨g c,Ba _ Ae,bZ.mpr ⟨h,xR (λy hy=>hh y<|d.sub Ae hy) (λy hy=>ho y<|d.sub Ae hy) iX p,hn⟩⟩
  ·exact d.rest (λx hx q=>ho x hx λe=>q<|by rw [e];exact Ae) k hk
 ·rw [Dc,xS];have:=d.all.map g;rw [Dc,Aj] at this;refine List.Perm.trans ?_<|this.append_right new;rw [Ar,Ar];exact(Cf).append_left _
theorem Dec.split{f:α->α}{f':β->β}{g:α->β}{D:List α}{c d0:α}{l:List α}{Ms:List (List α)}(d:Dec f D<|(c :: l) :: Ms)(hd:d0∈l){e1 e2:β}(h1:f' e1=g d0)(h2:f' e2=g c)(hc:∀ x∈D,f x=c->f' (g x)=e1)(Zu:∀ x∈D,f x=d0->f' (g x)=e2)(ho:∀ x∈D,f x≠c->f x≠d0->f' (g x)=g (f x))(nd:(D.map g++[e1,e2]).Nodup) :
  ∃ Ls,Ls.length=Ms.length+2/\Dec f' (D.map g++[e1,e2]) Ls/\∃ l∈Ls,e2∈l/\e1∉l:=by
 have ap:=d.apart;obtain⟨p,q,rfl⟩:=Fv hd;have EG:=Be.mp ap.1;have Oc:=Ci.mp EG.2;have Zv:=Be.mp Oc.2.1;have Zw:d0∉p:=λx=>Oc.2.2 d0 x d0 Ae rfl;have Zx:c∉p:=λx=>EG.1<|Ba _ x;have Zy:c∉q:=λx=>EG.1<|Ax _<|Ai _ x;obtain⟨a,ha,pp⟩:=d.jY _ Ae;have e:c=a:=pp.1;subst e;obtain⟨m,p1,p2⟩:=(bZ (l:=c :: p)).mp pp;have e:d0=m:=p2.1;subst e;have inD:∀ y∈c :: p,y∈D:=λy hy=>d.sub Ae (by
  rcases Ak.mp hy with rfl | hy
  ·exact Ae
  ·exact Ai _<|Ba _ hy)
 have t9:∀ y∈d0 :: q,y∈D:=λy hy=>d.sub Ae<|Ai _<|Ax _ hy;have EH:=Ci.mp nd;have Zz:e1≠e2:=λe=>by
  have:=EH.2.1;rw [e] at this;simp at this
 refine⟨((c :: p).map g++[e2]) :: ((d0 :: q).map g++[e1]) :: Ms.map (List.map g),by simp,⟨λk hk=>?_,?_,nd⟩,_,Ae,Ax _<|Ad.mpr rfl,λh=>?_⟩
 ·rcases Ak.mp hk with rfl | hk
  ·refine⟨g c,Ba _ Ae,bZ.mpr ⟨e2,xR (λy hy=>Zu y<|inD y hy) (λy hy ne=>ho y (inD y hy) (λec=>?_) ne) Zw p1,rfl,h2⟩⟩
   rcases xQ p1 hy with z | z
   ·exact Zx<|by rw [<- ec];exact z
   ·exact ne z
  ·rcases Ak.mp hk with rfl | hk
   ·refine⟨g d0,Ba _ Ae,bZ.mpr ⟨e1,xR (λy hy=>hc y<|t9 y hy) (λy hy ne=>ho y (t9 y hy) ne λec=>?_) Zy p2,rfl,h1⟩⟩
    rcases xQ p2 hy with z | z
    ·exact Zv.1<|by rw [<- ec];exact z
    ·exact ne z
   ·exact d.rest (λx hx q=>ho x hx (λe=>q<|by rw [e];exact Ae) λe=>q<|by rw [e];exact Ai _<|Ax _ Ae) k hk
 ·simp only [Dc,xS];have:=d.all.map g;rw [Dc,Aj,<- Fm,Aj] at this;refine List.Perm.trans ?_<|this.append_right [e1,e2];generalize (c :: p).map g=A;generalize (d0 :: q).map g=B;generalize Ms.flatten.map g=C
  letI:DecidableEq β:=λa b=>Classical.propDecidable<|a=b
  rw [List.perm_iff_count];intro z;simp only [Dk,Da,List.count_nil];omega
 ·rcases Am.mp h with h | h
  ·obtain⟨y,hy,e⟩:=An.mp h;exact EH.2.2 e1 (An.mpr ⟨y,inD y hy,e⟩) e1 Ae rfl
  ·exact Zz<|Ad.mp h
theorem Dec.more{f:β->β}{D:List β}{Ls:List (List β)}(d:Dec f D Ls){b:β}(hb:f b=b)(nd:(D++[b]).Nodup):Dec f (D++[b]) (Ls++[[b]]):=by
 refine⟨λl hl=>?_,?_,nd⟩
 ·rcases Am.mp hl with h | h
  ·exact d.jY l h
  ·rw [Ad] at h;subst h;exact⟨b,Ae,rfl,hb⟩
 ·rw [Fp];exact d.all.append_right _
theorem Dec.carry{f:α->α}{f':β->β}{g:α->β}{D:List α}{D':List β}{Ls:List (List α)}(d:Dec f D Ls)(ho:∀ x∈D,f' (g x)=g (f x))(hD:(D.map g).Perm D')(nd:D'.Nodup):Dec f' D' (Ls.map<|List.map g):=by
 refine⟨λm hm=>?_,?_,nd⟩
 ·obtain⟨k,hk,rfl⟩:=An.mp hm;obtain⟨a,ha,p⟩:=d.jY k hk;exact⟨g a,An.mpr ⟨a,ha,rfl⟩,ED (λx hx=>ho x<|d.sub hk hx) p⟩
 ·rw [xS];exact(d.all.map g).trans hD
open PySem
theorem ua{α:Type} [DecidableEq α]:∀{a b:List α},a.Nodup->(∀ z∈a,z∈b)->b.length<=a.length->a.Perm b
 | [],b,_,_,hl=>by
  have:b=[]:=Bk.mp<|Nat.le_zero.mp hl;rw [this]
 | x :: a,b,nd,sub,hl=>by
  have rB:=Be.mp nd;have hx:=sub x Ae;have pb:=List.perm_cons_erase hx;refine List.Perm.trans ((ua rB.2 (λz hz=>?_) ?_).cons x) pb.symm
  ·exact(Ff λe=>rB.1<|by rw [<- e];exact hz).mpr<|sub z<|Ai _ hz
  ·have:=pb.length_eq;rw [Aq] at this hl;omega
theorem jZ{n:Net}(T:ax n){a b:End}{z:Str}(ha:aK n a=some z)(hb:aK n b=some z)(ne:a≠b):other n a=b:=by
 obtain⟨h1,_,h3⟩:=dG T ha;obtain⟨p,q,e,_,_⟩:=pc T ha;have m1:=aM.mpr ha;have m2:=aM.mpr hb;have m3:=aM.mpr h1;rw [e] at m1 m2 m3;simp only [Ak,Cj,GZ] at m1 m2 m3
 rcases m1 with rfl | rfl <;> rcases m2 with rfl | rfl <;> rcases m3 with m3 | m3 <;> first | exact m3 | exact absurd rfl ne | exact absurd m3 h3
def sh(c e:End):End:=if e.1=c.1/\c.2<=e.2 then(e.1,e.2+1) else e
theorem l7(c e:End):(sh c e).1=e.1:=by unfold sh;split <;> rfl
theorem nB{c a b:End}(h:sh c a=sh c b):a=b:=by
 have h1:a.1=b.1:=by rw [<- l7 c a,h,l7]
 have h2:=BZ Prod.snd h;unfold sh at h2;refine GX h1 ?_
 by_cases x:a.1=c.1/\c.2<=a.2
 ·rw [BP x] at h2
  by_cases y:b.1=c.1/\c.2<=b.2
  ·rw [BP y] at h2;exact Nat.succ.inj h2
  ·rw [BL y] at h2;have h2:a.2+1=b.2:=h2;exact absurd ⟨h1 ▸ x.1,by omega⟩ y
 ·rw [BL x] at h2
  by_cases y:b.1=c.1/\c.2<=b.2
  ·rw [BP y] at h2;have h2:a.2=b.2+1:=h2;exact absurd ⟨h1 ▸ y.1,by omega⟩ x
  ·rw [BL y] at h2;exact h2
theorem nC(c e:End):sh c e≠c:=by
 intro h;have h1:e.1=c.1:=by rw [<- l7 c e,h]
 have h2:=BZ Prod.snd h;unfold sh at h2
 by_cases x:e.1=c.1/\c.2<=e.2
 ·rw [BP x] at h2;have h2:e.2+1=c.2:=h2;omega
 ·rw [BL x] at h2;exact x ⟨h1,by omega⟩
section
variable{n:Net}{c:End}{z:Str}
theorem rC(hc:c.1 < n.length)(hp:c.2<=(row n c.1).length)(i:Nat):(row (ins n c z) i).length=if c.1=i then(row n i).length+1 else(row n i).length:=by
 rw [ri n c z i hc]
 by_cases h:c.1=i
 ·subst h;rw [BP rfl,BP rfl,Af,Aq,Bf,Db];omega
 ·rw [BL h,BL h]
theorem EI(hc:c.1 < n.length)(hp:c.2<=(row n c.1).length):aK (ins n c z) c=some z:=by
 unfold aK;rw [ri n c z c.1 hc,BP rfl,Az (by rw [Bf];omega),Bf,show c.2 - min c.2 (row n c.1).length=0 by omega];rfl
theorem rD(hc:c.1 < n.length)(hp:c.2<=(row n c.1).length)(e:End):aK (ins n c z) (sh c e)=aK n e:=by
 unfold aK;rw [l7,ri n c z e.1 hc];unfold sh
 by_cases h:c.1=e.1
 ·rw [BP h]
  by_cases k:c.2<=e.2
  ·rw [BP ⟨h.symm,k⟩,Az (by rw [Bf];show _<=e.2+1;omega),Bf];show(z :: (row n e.1).drop c.2)[e.2+1 - min c.2 (row n e.1).length]?=_;rw [<- h,show e.2+1 - min c.2 (row n c.1).length=(e.2 - c.2)+1 by omega,Fx,QG,show c.2+(e.2 - c.2)=e.2 by omega]
  ·rw [BL λq=>k q.2,As (by rw [Bf,<- h];omega),Dm<|by omega]
 ·rw [BL h,BL λq=>h q.1.symm]
theorem nF(hc:c.1 < n.length)(hp:c.2 < (row n c.1).length):left (ins n c z) c=sh c c:=by
 unfold left sh;rw [rC hc<|Co hp,BP rfl,BP ⟨rfl,Al _⟩,Cb<|by omega]
theorem iC(hc:c.1 < n.length)(hp:c.2 < (row n c.1).length){e:End}(he:e.2 < (row n e.1).length):left (ins n c z) (sh c e)=if left n e=c then c else sh c (left n e):=by
 by_cases h:c.1=e.1
 ·have e1:(left n e).1=e.1:=rfl;have e2:(left n e).2=(e.2+1) % (row n e.1).length:=rfl;have q:(left n e=c)↔(e.2+1) % (row n e.1).length=c.2:=⟨λx=>by rw [<- e2,x],λx=>GX h.symm x⟩;have L:(left (ins n c z) (sh c e))=(e.1,((sh c e).2+1) % ((row n e.1).length+1)):=by
   unfold left;rw [l7,rC hc<|Co hp,BP h]
  rw [L];rw [h] at hp;have S:(sh c e).2=if c.2<=e.2 then e.2+1 else e.2:=by
   unfold sh
   by_cases k:c.2<=e.2
   ·rw [BP ⟨h.symm,k⟩,BP k]
   ·rw [BL λq=>k q.2,BL k]
  have S2:sh c (left n e)=(e.1,if c.2<=(e.2+1) % (row n e.1).length then(e.2+1) % (row n e.1).length+1 else(e.2+1) % (row n e.1).length):=by
   unfold sh
   by_cases k:c.2<=(e.2+1) % (row n e.1).length
   ·rw [BP ⟨h.symm,k⟩,BP k];rfl
   ·rw [BL λq=>k q.2,BL k];rfl
  rw [S,S2];generalize (row n e.1).length=m at *
  by_cases k:e.2+1 < m
  ·rw [Cb k] at q ⊢
   by_cases j:e.2+1=c.2
   ·rw [BP<|q.mpr j,BL (by omega),Cb<|by omega];exact GX h.symm j
   ·rw [BL λx=>j<|q.mp x]
    by_cases i:c.2<=e.2
    ·rw [BP i,BP (by omega),Cb<|by omega]
    ·rw [BL i,BL (by omega),Cb<|by omega]
  ·have em:e.2+1=m:=by omega
   rw [em,Ed] at q ⊢;rw [BP (by omega),Ed]
   by_cases j:0=c.2
   ·rw [BP<|q.mpr j];exact GX h.symm j
   ·rw [BL λx=>j<|q.mp x,BL<|by omega]
 ·have ne:left n e≠c:=λx=>h (by rw [<- x];rfl);rw [BL ne];have s1:sh c e=e:=by unfold sh;rw [BL λq=>h q.1.symm]
  have s2:sh c (left n e)=left n e:=by unfold sh;rw [BL λq=>h q.1.symm]
  rw [s1,s2];unfold left;rw [rC hc<|Co hp,BL h]
end
def Pl(n:Net):Prop:=(ag n=[]/\n.length=1)\/∃ Ls,Dec (step n) (ends n) Ls/\2 * (n.length+Ls.length)=(ag n).length+4
structure dP(n m:Net)(g:End->End)(e1 e2:End)(z:Str):Prop where
 c6:∀ e∈ends n,aK m (g e)=aK n e
 t1:aK m e1=some z
 t2:aK m e2=some z
 inj:∀ a b,g a=g b->a=b
 n1:∀ a∈ends n,g a≠e1
 n2:∀ a∈ends n,g a≠e2
 ne:e1≠e2
 len:(ag m).length=(ag n).length+2
section
variable{n m:Net}{g:End->End}{e1 e2:End}{z:Str}
theorem dP.nd(p:dP n m g e1 e2 z):((ends n).map g++[e1,e2]).Nodup:=by
 rw [Ci];refine⟨?_,?_,?_⟩
 ·exact(Dx.mpr<|(ra n).imp λ{a b} h e=>h<|p.inj a b e)
 ·simp [p.ne]
 ·rintro a ha b hb rfl;obtain⟨x,hx,rfl⟩:=An.mp ha;simp only [Ak,Cj,GZ] at hb
  rcases hb with h | h
  ·exact p.n1 x hx h
  ·exact p.n2 x hx h
theorem dP.perm(p:dP n m g e1 e2 z):((ends n).map g++[e1,e2]).Perm (ends m):=by
 refine ua p.nd (λa ha=>?_)<|by rw [jt,p.len,Af,Aa,jt];exact Al _
 rcases Am.mp ha with h | h
 ·obtain⟨x,hx,rfl⟩:=An.mp h;obtain⟨y,hy⟩:=af.mp hx;exact af.mpr ⟨y,by rw [p.c6 x hx];exact hy⟩
 ·simp only [Ak,Cj,GZ] at h
  rcases h with rfl | rfl
  ·exact af.mpr ⟨z,p.t1⟩
  ·exact af.mpr ⟨z,p.t2⟩
theorem dP.gT(p:dP n m g e1 e2 z)(T:ax n)(T':ax m){e:End}(he:e∈ends n):other m (g e)=g (other n e):=by
 obtain⟨y,hy⟩:=af.mp he;obtain⟨h1,_,h3⟩:=dG T hy;exact jZ T' (by rw [p.c6 e he];exact hy) (by rw [p.c6 _<|af.mpr ⟨y,h1⟩];exact h1) λh=>h3 (p.inj _ _ h).symm
theorem dP.o1(p:dP n m g e1 e2 z)(T':ax m):other m e1=e2:=jZ T' p.t1 p.t2 p.ne
theorem dP.o2(p:dP n m g e1 e2 z)(T':ax m):other m e2=e1:=jZ T' p.t2 p.t1 p.ne.symm
theorem Dec.perm{α:Type}{f:α->α}{D D':List α}{Ls:List (List α)}(d:Dec f D Ls)(h:D.Perm D'):Dec f D' Ls:=⟨d.jY,d.all.trans h,h.nodup_iff.mp d.nd⟩
theorem Od{α:Type}{f:α->α}{l:List α}(h:∀ x∈l,f x∈l){a:α}(ha:a∈l):∀ k,it f k a∈l:=λk=>jT h ha k
theorem Dec.one{α:Type}{f:α->α}{D:List α}{a b:α}{l:List α}{Ms:List (List α)}(d:Dec f D<|(a :: l) :: Ms)(hb:b∈D)(h:(∃ k,it f k a=b)\/∃ k,it f k b=a)(ne:b≠a):b∈l:=by
 have cl:∀ k∈(a :: l) :: Ms,∀ x∈k,f x∈k:=λk hk x hx=>by
  obtain⟨c,hc,p⟩:=d.jY k hk;exact EE p hc hx
 have hm:b∈a :: l:=by
  rcases h with ⟨k,rfl⟩ | ⟨k,e⟩
  ·exact Od (cl _ Ae) Ae k
  ·obtain⟨j,hj,Oe⟩:=Fn.mp<|d.all.mem_iff.mpr hb
   rcases Ak.mp hj with rfl | oU
   ·exact Oe
   ·have:=Od (cl j hj) Oe k;rw [e] at this;exact absurd this<|d.apart.2 j oU a Ae
 rcases Ak.mp hm with h | h
 ·exact absurd h ne
 ·exact h
theorem ZA(p:dP n m g e1 e2 z)(T:ax n)(T':ax m)(hl:m.length=n.length){k1 k2:End}(h1:k1∈ends n)(h2:k2∈ends n)(ne:k2≠k1)(same:(∃ k,it (step n) k k1=k2)\/∃ k,it (step n) k k2=k1)
  (l1:left m e1=g k1) (l2:left m e2=g k2) (lf:∀ e∈ends n,left m (g e)=if left n e=k1 then e1 else if left n e=k2 then e2 else g (left n e)) (P:Pl n):Pl m:=by
 have st:∀ x∈ends n,step m (g x)=if step n x=k1 then e1 else if step n x=k2 then e2 else g (step n x):=λx hx=>by
  unfold step;rw [p.gT T T' hx];exact lf _<|cZ T hx
 rcases P with ⟨e,_⟩ | ⟨Ls,d,eu⟩
 ·obtain⟨y,hy⟩:=af.mp h1;have:=dZ hy;rw [e] at this;cases this
 ·obtain⟨l,Ms,hL,d⟩:=d.pick h1;have hk:=d.one h2 same ne;obtain⟨Og,ZC,d',_⟩:=d.split (f':=step m) (g:=g) hk (e1:=e1) (e2:=e2) (by unfold step;rw [p.o1 T'];exact l2) (by unfold step;rw [p.o2 T'];exact l1)
   (λx hx e=>by rw [st x hx,BP e]) (λx hx e=>by rw [st x hx,BL (by rw [e];exact ne),BP e]) (λx hx a b=>by rw [st x hx,BL a,BL b]) p.nd
  refine .inr ⟨Og,d'.perm p.perm,?_⟩;have:=p.len;omega
theorem ZD(p:dP n m g e1 e2 z)(T:ax n)(T':ax m)(hl:m.length=n.length){c:End}(h1:c∈ends n)
  (l1:left m e1=g c) (l2:left m e2=e1) (lf:∀ e∈ends n,left m (g e)=if left n e=c then e2 else g (left n e)) (P:Pl n):Pl m:=by
 have st:∀ x∈ends n,step m (g x)=if step n x=c then e2 else g (step n x):=λx hx=>by
  unfold step;rw [p.gT T T' hx];exact lf _<|cZ T hx
 rcases P with ⟨e,_⟩ | ⟨Ls,d,eu⟩
 ·obtain⟨y,hy⟩:=af.mp h1;have:=dZ hy;rw [e] at this;cases this
 ·obtain⟨l,Ms,hL,d⟩:=d.pick h1;have nd:=p.nd;have nG:((ends n).map g++[e2]++[e1]).Nodup:=by
   rw [Ar];exact((List.Perm.swap e1 e2 []).append_left _).nodup_iff.mpr nd
  have d1:=d.grow (f':=step m) (g:=g) (new:=[e2]) (h:=e2) ⟨rfl,by unfold step;rw [p.o2 T'];exact l1⟩ (λx hx e=>by rw [st x hx,BP e]) (λx hx e=>by rw [st x hx,BL e]) (Ci.mp nG).1;have d2:=d1.more (b:=e1) (by unfold step;rw [p.o1 T'];exact l2) nG;have pm:((ends n).map g++[e2]++[e1]).Perm (ends m):=by
   refine List.Perm.trans ?_ p.perm;rw [Ar];exact(List.Perm.swap e1 e2 []).append_left _
  refine .inr ⟨_,d2.perm pm,?_⟩;have:=p.len;simp only [Af,Aq,Aa,Fb];omega
theorem ZE(p:dP n m g e1 e2 z)(T:ax n)(T':ax m)(hl:m.length=n.length+1){c:End}(h1:c∈ends n)
  (l1:left m e1=g c) (l2:left m e2=e2) (lf:∀ e∈ends n,left m (g e)=if left n e=c then e1 else g (left n e)) (P:Pl n):Pl m:=by
 have st:∀ x∈ends n,step m (g x)=if step n x=c then e1 else g (step n x):=λx hx=>by
  unfold step;rw [p.gT T T' hx];exact lf _<|cZ T hx
 rcases P with ⟨e,_⟩ | ⟨Ls,d,eu⟩
 ·obtain⟨y,hy⟩:=af.mp h1;have:=dZ hy;rw [e] at this;cases this
 ·obtain⟨l,Ms,hL,d⟩:=d.pick h1;have s1:step m e1=e2:=by unfold step;rw [p.o1 T'];exact l2
  have s2:step m e2=g c:=by unfold step;rw [p.o2 T'];exact l1
  have d1:=d.grow (f':=step m) (g:=g) (new:=[e1,e2]) (h:=e1) ⟨rfl,by rw [s1];exact⟨rfl,s2⟩⟩ (λx hx e=>by rw [st x hx,BP e]) (λx hx e=>by rw [st x hx,BL e]) p.nd;refine .inr ⟨_,d1.perm p.perm,?_⟩;have:=p.len;simp only [Aq,Aa];omega
end
theorem eJ{n:Net}{e:End}(h:e∈ends n):e.1 < n.length/\e.2 < (row n e.1).length:=by
 obtain⟨z,hz⟩:=af.mp h;exact⟨cN hz,f9 hz⟩
section
variable{n:Net}{z:Str}
theorem Oh{k1 k2:End}(h1:k1.1 < n.length/\k1.2<=(row n k1.1).length)(h2:k2.1 < n.length/\k2.2<=(row n k2.1).length):dP n (ins (ins n k1 z) k2 z) (λe=>sh k2<|sh k1 e) (sh k2 k1) k2 z:=by
 have c2:k2.1 < (ins n k1 z).length:=by rw [gF];exact h2.1
 have p2:k2.2<=(row (ins n k1 z) k2.1).length:=by
  rw [rC h1.1 h1.2]
  split
  ·have:=h2.2;omega
  ·exact h2.2
 refine⟨λe _=>?_,?_,EI c2 p2,λa b h=>nB<|nB h,λa _ h=>nC k1 a<|nB h,λa _=>nC k2 _,nC k2 k1,?_⟩
 ·show aK _ (sh k2<|sh k1 e)=_;rw [rD c2 p2,rD h1.1 h1.2]
 ·rw [rD c2 p2];exact EI h1.1 h1.2
 ·rw [(kL _ k2 z c2).length_eq,Aq,(kL _ k1 z h1.1).length_eq,Aq]
theorem ZF{k1 k2:End}(T:ax n)(T':ax<|ins (ins n k1 z) k2 z)(h1:k1∈ends n)(h2:k2∈ends n)(ord:k2=k1\/sh k1 k2=k2)(same:(∃ k,it (step n) k k1=k2)\/∃ k,it (step n) k k2=k1)(P:Pl n):Pl (ins (ins n k1 z) k2 z):=by
 have r1:=eJ h1;have r2:=eJ h2;have p:=Oh (z:=z) (k1:=k1) (k2:=k2) ⟨r1.1,Co r1.2⟩ ⟨r2.1,Co r2.2⟩;have c2:k2.1 < (ins n k1 z).length:=by rw [gF];exact r2.1
 have rl:∀ i,(row n i).length<=(row (ins n k1 z) i).length:=λi=>by
  rw [rC r1.1<|Co r1.2]
  split <;> omega
 have p2:k2.2 < (row (ins n k1 z) k2.1).length:=Bg r2.2<|rl _;have p1:k1.2 < (row (ins n k1 z) k1.1).length:=Bg r1.2<|rl _;have hl:(ins (ins n k1 z) k2 z).length=n.length:=by rw [gF,gF]
 have sl:∀ e∈ends n,(sh k1 e).2 < (row (ins n k1 z) (sh k1 e).1).length:=λe he=>by
  obtain⟨y,hy⟩:=af.mp he;exact f9 (z:=y)<|by rw [rD r1.1<|Co r1.2];exact hy
 have l0:left (ins n k1 z) k1=sh k1 k1:=nF r1.1 r1.2
 by_cases e:k2=k1
 ·subst e;refine ZD p T T' hl h1 ?_ (nF c2 p2) (λe he=>?_) P
  ·rw [iC c2 p2 p1,l0,BL<|nC _ _]
  ·show left _ (sh k2<|sh k2 e)=_;rw [iC c2 p2<|sl e he,iC r1.1 r1.2 (eJ he).2]
   by_cases q:left n e=k2
   ·rw [BP q,BP rfl,BP q]
   ·rw [BL q,BL<|nC _ _,BL q]
 ·have hs:sh k1 k2=k2:=ord.resolve_left e;refine ZA p T T' hl h1 h2 e same ?_ ?_ (λe' he=>?_) P
  ·rw [iC c2 p2 p1,l0,BL λq=>e<|nB (c:=k1)<|by rw [hs,q]]
  ·show left _ k2=sh k2 (sh k1 k2);rw [hs];exact nF c2 p2
  ·show left _ (sh k2<|sh k1 e')=if left n e'=k1 then sh k2 k1 else if left n e'=k2 then k2 else sh k2 (sh k1<|left n e');rw [iC c2 p2<|sl e' he,iC r1.1 r1.2 (eJ he).2]
   by_cases q:left n e'=k1
   ·rw [BP q,BP q,BL λx=>e x.symm]
   ·rw [BL q,BL q]
    by_cases q2:left n e'=k2
    ·rw [BP q2,q2,hs,BP rfl]
    ·rw [BL q2,BL λx=>q2<|nB (c:=k1)<|by rw [x,hs]]
theorem nH{a b:Net}{i:Nat}(h:i < a.length):row (a++b) i=row a i:=by
 unfold row;rw [As h]
theorem xT{a:Net}{x:Str×List Str}:row (a++[x]) a.length=x.2:=by
 unfold row;rw [Az<|Al _];simp
theorem Oi{c:End}{pt:Str}(h1:c.1 < n.length/\c.2<=(row n c.1).length):dP n (ins n c z++[(pt,[z])]) (sh c) c (n.length,0) z:=by
 have la:∀ e:End,e.1 < n.length->aK (ins n c z++[(pt,[z])]) e=aK (ins n c z) e:=λe he=>by
  unfold aK;rw [nH<|by rw [gF];exact he]
 refine⟨λe he=>?_,?_,?_,λa b h=>nB h,λa _=>nC c a,λa ha h=>?_,λh=>?_,?_⟩
 ·rw [la _ (by rw [l7];exact(eJ he).1),rD h1.1 h1.2]
 ·rw [la _ h1.1,EI h1.1 h1.2]
 ·unfold aK;have:=xT (a:=ins n c z) (x:=(pt,[z]));rw [gF] at this;show(row _ n.length)[0]?=_;rw [this];rfl
 ·have:=(eJ ha).1;rw [<- l7 c a,h] at this;exact absurd this<|Ds _
 ·have:=h1.1;rw [h] at this;exact absurd this<|Ds _
 ·unfold ag;rw [Er,Af];have:=(kL _ c z h1.1).length_eq;unfold ag at this;rw [this];rfl
theorem ZG{c:End}{pt:Str}(T:ax n)(T':ax<|ins n c z++[(pt,[z])])(h1:c∈ends n)(P:Pl n):Pl (ins n c z++[(pt,[z])]):=by
 have r1:=eJ h1;have p:=Oi (z:=z) (c:=c) (pt:=pt) ⟨r1.1,Co r1.2⟩;have la:∀ e:End,e.1 < n.length->left (ins n c z++[(pt,[z])]) e=left (ins n c z) e:=λe he=>by
  unfold left;rw [nH<|by rw [gF];exact he]
 refine ZE p T T' (by rw [Af,gF];rfl) h1 ?_ ?_ (λe he=>?_) P
 ·rw [la _ r1.1];exact nF r1.1 r1.2
 ·unfold left;have:=xT (a:=ins n c z) (x:=(pt,[z]));rw [gF] at this;show(n.length,(0+1) % (row _ n.length).length)=_;rw [this];exact BZ (Prod.mk _)<|Ed 1
 ·rw [la _<|by rw [l7];exact(eJ he).1];exact iC r1.1 r1.2 (eJ he).2
end
theorem Oj{m:Net}{z:Str}{e1 e2:End}(T':ax m)(hE:ends m=[e1,e2])(t1:aK m e1=some z)(t2:aK m e2=some z)(ne:e1≠e2)
  (h:(m.length=2/\left m e1=e1/\left m e2=e2)\/(m.length=1/\left m e1=e2/\left m e2=e1)):Pl m:=by
 have o1:=jZ T' t1 t2 ne;have o2:=jZ T' t2 t1 ne.symm;have hl:(ag m).length=2:=by rw [<- jt,hE];rfl
 have nd:[e1,e2].Nodup:=by simp [ne]
 rcases h with ⟨hm,l1,l2⟩ | ⟨hm,l1,l2⟩
 ·refine .inr ⟨[[e1,e2]],?_,by rw [hm,hl];rfl⟩;rw [hE];refine⟨λl hl=>?_,List.Perm.refl _,nd⟩;rw [Ad] at hl;subst hl;refine⟨e1,Ae,rfl,?_⟩;unfold step;rw [o1,l2];exact⟨rfl,by show left m (other m e2)=e1;rw [o2,l1]⟩
 ·refine .inr ⟨[[e1],[e2]],?_,by rw [hm,hl];rfl⟩;rw [hE];refine⟨λl hl=>?_,List.Perm.refl _,nd⟩;simp only [Ak,Cj,GZ] at hl
  rcases hl with rfl | rfl
  ·exact⟨e1,Ae,rfl,by show left m (other m e1)=e1;rw [o1,l2]⟩
  ·exact⟨e2,Ae,rfl,by show left m (other m e2)=e2;rw [o2,l1]⟩
theorem ZH{nm pt z:Str}(T':ax [(nm,[z]),(pt,[z])]):Pl [(nm,[z]),(pt,[z])]:=
 Oj (e1:=(0,0)) (e2:=(1,0)) (z:=z) T' rfl rfl rfl (by decide) (.inl ⟨rfl,by simp [left,row],by simp [left,row]⟩)
theorem ZI{nm z:Str}(T':ax [(nm,[z,z])]):Pl [(nm,[z,z])]:=
 Oj (e1:=(0,0)) (e2:=(0,1)) (z:=z) T' rfl rfl rfl (by decide) (.inr ⟨rfl,by simp [left,row],by simp [left,row]⟩)
theorem ZJ{n m:Net}{g:End->End}(T:ax n)(T':ax m)(hl:m.length=n.length)(ht:(ag m).length=(ag n).length)(c6:∀ e∈ends n,aK m (g e)=aK n e)(inj:∀ a∈ends n,∀ b∈ends n,g a=g b->a=b)
  (lf:∀ e∈ends n,left m (g e)=g (left n e)) (P:Pl n):Pl m:=by
 rcases P with ⟨e,h⟩ | ⟨Ls,d,eu⟩
 ·exact .inl ⟨Bk.mp (by rw [ht,e];rfl),by rw [hl,h]⟩
 ·have nd:((ends n).map g).Nodup:=by
   have:∀(l:List End),(∀ x∈l,x∈ends n)->l.Nodup->(l.map g).Nodup:=by
    intro l
    induction l with
    | nil=>intro _ _;exact Ch
    | cons x l ih=>
     intro hs h;have h:=Be.mp h;rw [Bj];refine Be.mpr ⟨λhx=>?_,ih (λy hy=>hs y<|Ai _ hy) h.2⟩;obtain⟨y,hy,e⟩:=An.mp hx;have:=inj y (hs y<|Ai _ hy) x (hs x Ae) e;exact h.1<|this ▸ hy
   exact this _ (λx hx=>hx)<|ra n
  have pm:((ends n).map g).Perm (ends m):=by
   refine ua nd (λa ha=>?_) (by rw [Aa,jt,jt,ht];exact Al _);obtain⟨x,hx,rfl⟩:=An.mp ha;obtain⟨y,hy⟩:=af.mp hx;exact af.mpr ⟨y,by rw [c6 x hx];exact hy⟩
  refine .inr ⟨_,d.carry (f':=step m) (g:=g) (λx hx=>?_) pm<|ra m,by rw [Aa,hl,ht];exact eu⟩;obtain⟨y,hy⟩:=af.mp hx;obtain⟨h1,_,h3⟩:=dG T hy;have ho:other n x∈ends n:=af.mpr ⟨y,h1⟩;have:other m (g x)=g (other n x):=jZ T' (by rw [c6 x hx];exact hy) (by rw [c6 _ ho];exact h1) λh=>h3 (inj _ hx _ ho h).symm;unfold step;rw [this];exact lf _ ho
def nI(i len q:Nat):Nat:=if i<=q then q - i else q+len - i
def dJ(N j i len:Nat)(e:End):End:=if e.1 < j then e else if e.1=j then(N - 1,nI i len e.2) else(e.1 - 1,e.2)
theorem Ol{a:Net}{j:Nat}{x:Str×List Str}(hj:j < a.length)(r:Nat)(hr:r < a.length):row (a.eraseIdx j++[x]) (if r < j then r else if r=j then a.length - 1 else r - 1)=if r=j then x.2 else row a r:=by
 have le:(a.eraseIdx j).length=a.length - 1:=by rw [Cu,BP hj]
 by_cases h1:r < j
 ·rw [BP h1,BL (by omega),nH<|by rw [le];omega];unfold row;rw [Fz,BP h1]
 ·rw [BL h1]
  by_cases h2:r=j
  ·rw [BP h2,BP h2,<- le,xT]
  ·rw [BL h2,BL h2,nH<|by rw [le];omega];unfold row;rw [Fz,BL (by omega),show r - 1+1=r by omega]
theorem ZK{i len q:Nat}(hi:i < len)(hq:q < len):(nI i len q+1) % len=nI i len ((q+1) % len):=by
 unfold nI
 by_cases k:q+1 < len
 ·rw [Cb k]
  by_cases h:i<=q
  ·rw [BP h,BP (by omega),Cb<|by omega];omega
  ·rw [BL h]
   by_cases h2:q+1=i
   ·rw [BP (by omega),show q+len - i+1=len by omega,Ed];omega
   ·rw [BL (by omega),Cb<|by omega];omega
 ·have e:q+1=len:=by omega
  rw [e,Ed,BP<|by omega]
  by_cases h:i=0
  ·rw [BP (by omega),show q - i+1=len by omega,Ed];omega
  ·rw [BL (by omega),Cb<|by omega];omega
theorem ZL{l:List Str}{i q:Nat}(hi:i < l.length)(hq:q < l.length):(l.drop i++l.take i)[nI i l.length q]?=l[q]?:=by
 unfold nI
 by_cases h:i<=q
 ·rw [BP h,As (by rw [Db];omega),QG,show i+(q - i)=q by omega]
 ·rw [BL h,Az (by rw [Db];omega),Db,Dm (by omega),show q+l.length - i - (l.length - i)=q by omega]
theorem Om{a:Net}{j i:Nat}{x:Str}(hj:j < a.length)(hi:i < max 1 (row a j).length):∃ g:End->End,(∀ e∈ends a,aK (a.eraseIdx j++[(x,(row a j).drop i++(row a j).take i)]) (g e)=aK a e)/\(∀ b∈ends a,∀ c∈ends a,g b=g c->b=c) /\
  ∀ e∈ends a,left (a.eraseIdx j++[(x,(row a j).drop i++(row a j).take i)]) (g e)=g (left a e):=by
 have fst:∀ e:End,(dJ a.length j i (row a j).length e).1=if e.1 < j then e.1 else if e.1=j then a.length - 1 else e.1 - 1:=λe=>by
  unfold dJ
  by_cases h:e.1 < j
  ·rw [BP h,BP h]
  ·rw [BL h,BL h]
   by_cases h2:e.1=j
   ·rw [BP h2,BP h2]
   ·rw [BL h2,BL h2]
 have snd:∀ e:End,(dJ a.length j i (row a j).length e).2=if e.1=j then nI i (row a j).length e.2 else e.2:=λe=>by
  unfold dJ
  by_cases h:e.1 < j
  ·rw [BP h,BL<|by omega]
  ·rw [BL h]
   by_cases h2:e.1=j
   ·rw [BP h2,BP h2]
   ·rw [BL h2,BL h2]
 have Oo:∀ e:End,e.1 < a.length->row (a.eraseIdx j++[(x,(row a j).drop i++(row a j).take i)]) (dJ a.length j i (row a j).length e).1=if e.1=j then(row a j).drop i++(row a j).take i else row a e.1:=λe he=>by
  rw [fst,Ol hj e.1 he]
 refine⟨dJ a.length j i (row a j).length,λe he=>?_,λb hb c hc h=>?_,λe he=>?_⟩
 ·have r:=eJ he;unfold aK;rw [Oo e r.1,snd]
  by_cases h:e.1=j
  ·rw [BP h,BP h,<- h,ZL (by have:=hi;rw [<- h] at this;omega) r.2]
  ·rw [BL h,BL h]
 ·have rb:=eJ hb;have rc:=eJ hc;have h1:=BZ Prod.fst h;have h2:=BZ Prod.snd h;rw [fst,fst] at h1;rw [snd,snd] at h2
  by_cases p:b.1=j
  ·by_cases q:c.1=j
   ·rw [BP p,BP q] at h2;refine GX (by rw [p,q]) ?_;have rb:=rb.2;have rc:=rc.2;rw [p] at rb;rw [q] at rc;unfold nI at h2
    by_cases u:i<=b.2
    ·rw [BP u] at h2
     by_cases v:i<=c.2
     ·rw [BP v] at h2;omega
     ·rw [BL v] at h2;omega
    ·rw [BL u] at h2
     by_cases v:i<=c.2
     ·rw [BP v] at h2;omega
     ·rw [BL v] at h2;omega
   ·exfalso
    rw [BL (by omega),BP p] at h1;have:=rc.1
    by_cases u:c.1 < j
    ·rw [BP u] at h1;omega
    ·rw [BL u,BL q] at h1;omega
  ·by_cases q:c.1=j
   ·exfalso
    have:=rb.1;rw [BL (show ¬ c.1 < j by omega),BP q] at h1
    by_cases u:b.1 < j
    ·rw [BP u] at h1;omega
    ·rw [BL u,BL p] at h1;omega
   ·rw [BL p,BL q] at h2;refine GX ?_ h2;rw [BL p,BL q] at h1
    by_cases u:b.1 < j
    ·rw [BP u] at h1
     by_cases v:c.1 < j
     ·rw [BP v] at h1;exact h1
     ·rw [BL v] at h1;omega
    ·rw [BL u] at h1
     by_cases v:c.1 < j
     ·rw [BP v] at h1;omega
     ·rw [BL v] at h1;omega
 ·have r:=eJ he;have L1:(left a e).1=e.1:=rfl;have L2:(left a e).2=(e.2+1) % (row a e.1).length:=rfl;refine GX ?_ ?_
  ·show(dJ a.length j i (row a j).length e).1=(dJ a.length j i (row a j).length<|left a e).1;rw [fst,fst,L1]
  ·show((dJ a.length j i (row a j).length e).2+1) % (row _ (dJ a.length j i (row a j).length e).1).length=(dJ a.length j i (row a j).length<|left a e).2;rw [Oo e r.1,snd,snd,L1,L2]
   by_cases h:e.1=j
   ·rw [BP h,BP h,BP h,Af,Db,Bf];have r2:=r.2;rw [h] at r2 ⊢;rw [show(row a j).length - i+min i (row a j).length=(row a j).length by omega];exact ZK (by omega) r2
   ·rw [BL h,BL h,BL h]
theorem ZM{a:Net}{j i:Nat}{x:Str}(hj:j < a.length)(hi:i < max 1 (row a j).length)(T:ax a) (T':ax<|a.eraseIdx j++[(x,(row a j).drop i++(row a j).take i)])
  (ht:(ag<|a.eraseIdx j++[(x,(row a j).drop i++(row a j).take i)]).length=(ag a).length) (P:Pl a):Pl (a.eraseIdx j++[(x,(row a j).drop i++(row a j).take i)]):=by
 obtain⟨g,h1,h2,h3⟩:=Om (x:=x) hj hi;exact ZJ (g:=g) T T' (by rw [Af,Cu,BP hj,Cs];omega) ht h1 h2 h3 P
theorem xU{n m:Net}{z:Str}(hp:(ag m).Perm<|z :: z :: ag n)(T:ax n)(hz:z∉ag n):ax m:=by
 intro y hy;rw [hp.count_eq,Da,Da]
 by_cases e:z=y
 ·subst e;rw [List.count_eq_zero.mpr hz];simp
 ·have hy:=hp.mem_iff.mp hy
  rcases Ak.mp hy with h | hy
  ·exact absurd h.symm e
  ·rcases Ak.mp hy with h | hy
   ·exact absurd h.symm e
   ·rw [T y hy];have:(z == y)=false:=by simpa using e
    rw [this];rfl
theorem rE{nm:Str}{c:End}(h:d6 [(nm,[])] c):c=(0,0):=by
 obtain⟨h1,h2⟩:=h;have h1:c.1 < 1:=h1;have e:c.1=0:=by omega
 have h2:c.2 < max 1 (row [(nm,[])] c.1).length:=h2;rw [e] at h2;have h2:c.2 < 1:=h2;exact GX e<|by show c.2=0;omega
theorem xV{n:Net}(F:Full n):(∃ nm,n=[(nm,[])])\/row n 0≠[]:=by
 rcases F with h | ⟨h1,h2⟩
 ·exact .inl h
 ·exact .inr<|h2 0<|Dj.mpr h1
theorem ZN{n:Net}{c:End}{z pt:Str}(T:ax n)(F:Full n)(hz:z∉ag n)(hc:d6 n c) (hp:(ag<|ins n c z++[(pt,[z])]).Perm<|z :: z :: ag n) (P:Pl n):Pl (ins n c z++[(pt,[z])]):=by
 have T':=xU hp T hz
 rcases xV F with ⟨nm,rfl⟩ | h0
 ·have:=rE hc;subst this;exact ZH T'
 ·exact ZG T T' (F.cF h0 hc) P
theorem ZO{n:Net}{k1 k2:End}{z:Str}(T:ax n)(F:Full n)(hz:z∉ag n)(h1:d6 n k1)(h2:d6 n k2) (hp:(ag<|ins (ins n k1 z) k2 z).Perm<|z :: z :: ag n) (ord:k2=k1\/sh k1 k2=k2) (same:(∃ k,it (step n) k k1=k2)\/∃ k,it (step n) k k2=k1) (P:Pl n):Pl (ins (ins n k1 z) k2 z):=by
 have T':=xU hp T hz
 rcases xV F with ⟨nm,rfl⟩ | h0
 ·have:=rE h1;subst this;have:=rE h2;subst this;exact ZI T'
 ·exact ZF T T' (F.cF h0 h1) (F.cF h0 h2) ord same P
theorem ZP{a b:End}(h:bN.lexLt ((a.1:Int),(a.2:Int)) ((b.1:Int),(b.2:Int))=true):sh b a=a:=by
 unfold bN.lexLt at h;unfold sh;refine BL λq=>?_;rw [BP<|by rw [q.1]] at h;have:=BX h;have q2:=q.2;omega
theorem ZQ{a b:End}(h:bN.lexLt ((a.1:Int),(a.2:Int)) ((b.1:Int),(b.2:Int))=false):b=a\/sh a b=b:=by
 unfold bN.lexLt at h
 by_cases e:(a.1:Int)=(b.1:Int)
 ·rw [BP e] at h;have h:=HX h
  by_cases e2:a.2=b.2
  ·exact .inl<|GX (by omega) e2.symm
  ·refine .inr<|BL λq=>?_;have q2:=q.2;have h:¬((a.2:Int) < (b.2:Int)):=h;omega
 ·exact .inr<|BL λq=>e<|by rw [q.1]
theorem Oq(a b:Net):ag (a++b)=ag a++ag b:=by
 unfold ag;rw [Er]
theorem ZR{n n2 n0:Net}{j i:Nat}{x:Str}(hj:j < n.length)(hi:i < max 1 (row n j).length)(T0:ax n0)(pt:(ag n++ag n2).Perm<|ag n0)
  (gl:(ag (n.eraseIdx j)++ag (n2++[(x,(row n j).drop i++(row n j).take i)])).Perm<|ag n0) (P:Pl<|n++n2):Pl (n.eraseIdx j++(n2++[(x,(row n j).drop i++(row n j).take i)])):=by
 have tw:∀ m:Net,(ag m).Perm (ag n0)->ax m:=λm p y hy=>by rw [p.count_eq];exact T0 y<|p.mem_iff.mp hy
 rw [<- Oq] at pt gl;have er:row (n++n2) j=row n j:=nH hj;have ee:n.eraseIdx j++(n2++[(x,(row n j).drop i++(row n j).take i)])=(n++n2).eraseIdx j++[(x,(row (n++n2) j).drop i++(row (n++n2) j).take i)]:=by
  rw [KY hj,Ar,er]
 rw [ee] at gl ⊢;exact ZM (by rw [Af];omega) (by rw [er];exact hi) (tw _ pt) (tw _ gl) (by rw [gl.length_eq,pt.length_eq]) P
end Nt
namespace Nt
theorem ZS{n:Net}{e c:End}{fs:List End}(f:fh n e fs)(h:c∈fs):∃ k,it (step n) k e=c:=by
 obtain⟨i,hi,e1⟩:=Cv.mp h;have:=f.at' i hi;rw [Ab hi,e1] at this;exact⟨i,(Option.some.inj this).symm⟩
open PySem
def ao:List Bool->Bool
 | []=>false
 | b :: l=>b ^^ ao l
theorem l9:∀(a b:List Bool),ao (a++b)=(ao a ^^ ao b)
 | [],b=>by simp [ao]
 | x :: a,b=>by
  show(x ^^ ao (a++b))=((x ^^ ao a) ^^ ao b);rw [l9 a b,Bool.xor_assoc]
theorem Ot{a b:List Bool}(h:a.Perm b):ao a=ao b:=by
 induction h with
 | nil=>rfl
 | cons x _ ih=>show(x ^^ _)=(x ^^ _);rw [ih]
 | swap x y l=>show(y ^^ (x ^^ ao l))=(x ^^ (y ^^ ao l));cases x <;> cases y <;> simp
 | trans _ _ h1 h2=>exact h1.trans h2
theorem gY{α:Type}(f g:α->Bool):∀ l:List α,ao (l.map λx=>f x ^^ g x)=(ao (l.map f) ^^ ao (l.map g))
 | []=>rfl
 | x :: l=>by
  show((f x ^^ g x) ^^ ao (l.map λx=>f x ^^ g x))=((f x ^^ ao (l.map f)) ^^ (g x ^^ ao (l.map g)));rw [gY f g l];cases f x <;> cases g x <;> cases ao (l.map f) <;> cases ao (l.map g) <;> rfl
def dQ(n:Net)(s:Str->Bool):Prop:=∀ r,ao ((row n r).map s)=false
structure a9(n:Net)(s:Str->Bool)(χ:End->Bool):Prop where
 go:∀ e∈ends n,χ (step n e)=χ e
 c6:∀ e z,aK n e=some z->s z=(χ e ^^ χ (other n e))
def RS(n:Net):Prop:=∀ s:Str->Bool,dQ n s->∃ χ,a9 n s χ
theorem Ou(n:Net)(r:Nat)(s:Str->Bool)(g:End->Bool)(h:∀ p z,(row n r)[p]?=some z->s z=g (r,p)):(row n r).map s=(List.range (row n r).length).map λp=>g (r,p):=by
 apply Du;intro p;rw [Ah,Ah]
 by_cases hp:p < (row n r).length
 ·rw [Ab hp,Eb hp];exact BZ some<|h p _<|Ab hp
 ·rw [Bd (by omega),Bd<|by simp;omega];rfl
theorem EJ(f:Nat->Bool)(m:Nat):ao ((List.range m).map λp=>f<|(p+1) % m)=ao ((List.range m).map f):=by
 cases m with
 | zero=>rfl
 | succ k=>
  have e:(List.range<|k+1).map (λp=>f<|(p+1) % (k+1))=((List.range k).map λp=>f<|p+1)++[f 0]:=by
   rw [Do,Aj]
   congr 1
   ·refine Ao λp hp=>?_;have:=Br.mp hp;show f ((p+1) % (k+1))=f (p+1);rw [Cb<|by omega]
   ·simp
  rw [e,List.range_succ_eq_map,Bj,Ca,l9];show _=(f 0 ^^ ao ((List.range k).map<|f ∘ Nat.succ));show(ao ((List.range k).map λp=>f<|p+1) ^^ (f 0 ^^ false))=(f 0 ^^ ao ((List.range k).map λp=>f<|p+1));cases f 0 <;> cases ao ((List.range k).map λp=>f<|p+1) <;> rfl
theorem a9.even{n:Net}(T:ax n){s:Str->Bool}{χ:End->Bool}(h:a9 n s χ):dQ n s:=by
 intro r;rw [Ou n r s (λe=>χ e ^^ χ (other n e)) λp z hz=>h.c6 (r,p) z hz];rw [gY (λp=>χ (r,p)) λp=>χ<|other n (r,p)];have e:((List.range (row n r).length).map λp=>χ<|other n (r,p))=(List.range (row n r).length).map λp=>χ (r,(p+1) % (row n r).length):=by
  refine Ao λp hp=>?_;have hp:=Br.mp hp;obtain⟨z,hz⟩:=xg (n:=n) (e:=(r,p)) hp;obtain⟨h1,h2,_⟩:=dG T hz;have:=h.go (other n (r,p))<|af.mpr ⟨z,h1⟩;rw [<- this];show χ (left n (other n<|other n (r,p)))=_;rw [h2];rfl
 rw [e,EJ λp=>χ (r,p)];cases ao ((List.range (row n r).length).map λp=>χ (r,p)) <;> rfl
theorem a9.xor{n:Net}{s t:Str->Bool}{χ ψ:End->Bool}(h:a9 n s χ)(g:a9 n t ψ):a9 n (λz=>s z ^^ t z) (λe=>χ e ^^ ψ e):=by
 refine⟨λe he=>?_,λe z hz=>?_⟩
 ·rw [h.go e he,g.go e he]
 ·show(s z ^^ t z)=((χ e ^^ ψ e) ^^ (χ (other n e) ^^ ψ (other n e)));rw [h.c6 e z hz,g.c6 e z hz];cases χ e <;> cases ψ e <;> cases χ (other n e) <;> cases ψ (other n e) <;> rfl
theorem dQ.xor{n:Net}{s t:Str->Bool}(h:dQ n s)(g:dQ n t):dQ n (λz=>s z ^^ t z):=λr=>by
 rw [gY s t,h r,g r];rfl
section
variable{n m:Net}{g:End->End}{e1 e2:End}{z:Str}
theorem dP.mark(p:dP n m g e1 e2 z)(χ:End->Bool)(a:Bool):∃ χ':End->Bool,(∀ e∈ends n,χ' (g e)=χ e)/\χ' e1=a/\χ' e2=a:=by
 refine⟨λx=>if x=e1 then a else if x=e2 then a else match (ends n).find? (λe=>decide (g e=x)) with | some e=>χ e | none=>false,λe he=>?_,?_,?_⟩
 ·show(if g e=e1 then a else if g e=e2 then a else match (ends n).find? (λe'=>decide (g e'=g e)) with | some e=>χ e | none=>false)=χ e;rw [BL<|p.n1 e he,BL<|p.n2 e he];cases hf:(ends n).find? (λe'=>decide (g e'=g e)) with
  | none=>exact absurd (BW (rfl:g e=g e))<|by simpa using Fu.mp hf e he
  | some e'=>
   have h5:=Gn hf;have h5:g e'=g e:=BX h5;rw [p.inj _ _ h5]
 ·simp
 ·simp
theorem dP.j3(p:dP n m g e1 e2 z)(T:ax n)(T':ax m){s:Str->Bool}{χ:End->Bool}(h:a9 n s χ)(hz:s z=false){a:Bool}
  (st:∀ x∈ends n,step m (g x)=g (step n x)\/((step m (g x)=e1\/step m (g x)=e2)/\χ (step n x)=a))
  (s1:step m e1=e1\/step m e1=e2\/∃ k∈ends n,step m e1=g k/\χ k=a) (s2:step m e2=e1\/step m e2=e2\/∃ k∈ends n,step m e2=g k/\χ k=a):∃ χ',a9 m s χ':=by
 obtain⟨χ',h1,h2,h3⟩:=p.mark χ a;have j4:∀ x∈ends m,(∃ e∈ends n,x=g e)\/x=e1\/x=e2:=λx hx=>by
  have:=p.perm.mem_iff.mpr hx
  rcases Am.mp this with q | q
  ·obtain⟨e,he,rfl⟩:=An.mp q;exact .inl ⟨e,he,rfl⟩
  ·simp only [Ak,Cj,GZ] at q;exact .inr q
 refine⟨χ',λx hx=>?_,λx y hy=>?_⟩
 ·rcases j4 x hx with ⟨e,he,rfl⟩ | rfl | rfl
  ·rw [h1 e he]
   rcases st e he with q | ⟨q,qa⟩
   ·rw [q,h1 _<|rg T he,h.go e he]
   ·rw [h.go e he] at qa
    rcases q with q | q
    ·rw [q,h2,qa]
    ·rw [q,h3,qa]
  ·rcases s1 with q | q | ⟨k,hk,q,qa⟩
   ·rw [q]
   ·rw [q,h2,h3]
   ·rw [q,h1 k hk,h2,qa]
  ·rcases s2 with q | q | ⟨k,hk,q,qa⟩
   ·rw [q,h2,h3]
   ·rw [q]
   ·rw [q,h1 k hk,h3,qa]
 ·rcases j4 x (af.mpr ⟨y,hy⟩) with ⟨e,he,rfl⟩ | rfl | rfl
  ·rw [p.c6 e he] at hy;obtain⟨o1,_,_⟩:=dG T hy;rw [p.gT T T' he,h1 e he,h1 _<|af.mpr ⟨y,o1⟩];exact h.c6 e y hy
  ·rw [p.t1] at hy;cases hy;rw [p.o1 T',h2,h3,hz];cases a <;> rfl
  ·rw [p.t2] at hy;cases hy;rw [p.o2 T',h2,h3,hz];cases a <;> rfl
theorem Ov(T':ax m){ψ:End->Bool}(hψ:∀ e∈ends m,ψ (step m e)=ψ e)(t1:aK m e1=some z)(ho:other m e1=e2)(ne:ψ e1≠ψ e2)(h0:∀ s,dQ m s->s z=false->∃ χ,a9 m s χ):RS m:=by
 intro s hs
 by_cases hz:s z=false
 ·exact h0 s hs hz
 ·have hz:s z=true:=by cases h:s z with | true=>rfl | false=>exact absurd h hz
  let t:Str->Bool:=λy=>match (ends m).find? (λe=>decide (aK m e=some y)) with | some e=>ψ e ^^ ψ (other m e) | none=>false
  have ht:a9 m t ψ:=by
   refine⟨hψ,λe y hy=>?_⟩;show(match (ends m).find? (λe=>decide (aK m e=some y)) with | some e=>ψ e ^^ ψ (other m e) | none=>false)=_;cases hf:(ends m).find? (λe=>decide (aK m e=some y)) with
   | none=>exact absurd (BW hy)<|by simpa using Fu.mp hf e (af.mpr ⟨y,hy⟩)
   | some e'=>
    have h5:=Gn hf;have h':aK m e'=some y:=BX h5
    by_cases q:e'=e
    ·rw [q]
    ·have o1:=jZ T' h' hy q;have o2:=jZ T' hy h'<|CG q;show(ψ e' ^^ ψ (other m e'))=_;rw [o1,o2];cases ψ e <;> cases ψ e' <;> rfl
  have tz:t z=true:=by
   rw [ht.c6 e1 z t1,ho];cases h1:ψ e1 <;> cases h2:ψ e2 <;> simp_all
  obtain⟨χ,hχ⟩:=h0 (λy=>s y ^^ t y) (hs.xor<|ht.even T') (by show(s z ^^ t z)=false;rw [hz,tz];rfl);have:=hχ.xor ht;refine⟨λe=>χ e ^^ ψ e,this.go,λe y hy=>?_⟩;rw [<- this.c6 e y hy];show s y=((s y ^^ t y) ^^ t y);cases s y <;> cases t y <;> rfl
theorem EK{n:Net}{c:End}{z:Str}(hc:c.1 < n.length){s:Str->Bool}(hz:s z=false)(r:Nat):ao ((row (ins n c z) r).map s)=ao ((row n r).map s):=by
 rw [ri n c z r hc]
 by_cases h:c.1=r
 ·rw [BP h,Aj,Bj,l9];show(ao (((row n r).take c.2).map s) ^^ (s z ^^ ao (((row n r).drop c.2).map s)))=_;rw [hz,Fi,<- l9,<- Aj,Dl]
 ·rw [BL h]
theorem Dec.mark{α:Type} [DecidableEq α] {f:α->α} {D:List α} {Ls:List (List α)} (d:Dec f D Ls) {l:List α} (hl:l∈Ls):∀ x∈D,(f x∈l↔x∈l):=by
 intro x hx;obtain⟨A,B,rfl⟩:=Fv hl;have d':Dec f D (l :: (A++B)):=⟨λk hk=>d.jY k (by
  rcases Ak.mp hk with rfl | hk
  ·exact hl
  ·rcases Am.mp hk with q | q
   ·exact Ba _ q
   ·exact Ax _<|Ai _ q),by
  refine List.Perm.trans ?_ d.all;rw [Dc,Fp,Fp,Dc,<- Ar,<- Ar];exact(Cf).append_right _,d.nd⟩
 have cl:∀ k∈l :: (A++B),∀ x∈k,f x∈k:=λk hk x hx=>by
  obtain⟨c,hc,p⟩:=d'.jY k hk;exact EE p hc hx
 by_cases h:x∈l
 ·exact⟨λ_=>h,λ_=>cl l Ae x h⟩
 ·refine⟨λq=>?_,λq=>absurd q h⟩
  exfalso
  obtain⟨k,hk,Ow⟩:=Fn.mp<|d'.all.mem_iff.mpr hx
  rcases Ak.mp hk with rfl | lJ
  ·exact h Ow
  ·exact d'.apart.2 k lJ _ q<|cl k hk x Ow
theorem EL{s:Str->Bool}{χ:End->Bool}(T:ax n)(h:a9 n s χ){a:End}(ha:a∈ends n):∀ k,χ (it (step n) k a)=χ a
 | 0=>rfl
 | k+1=>by
  show χ (step n<|it (step n) k a)=_;rw [h.go _<|jT (λx hx=>rg T hx) ha k,EL T h ha k]
theorem ZT(p:dP n m g e1 e2 z)(T:ax n)(T':ax m){k1 k2:End}(h1:k1∈ends n)(h2:k2∈ends n)(ne:k2≠k1)(same:(∃ k,it (step n) k k1=k2)\/∃ k,it (step n) k k2=k1)
  (l1:left m e1=g k1) (l2:left m e2=g k2) (lf:∀ e∈ends n,left m (g e)=if left n e=k1 then e1 else if left n e=k2 then e2 else g (left n e))
  {Ls:List (List End)} (d:Dec (step n) (ends n) Ls) (ev:∀ s,dQ m s->s z=false->dQ n s) (R:RS n):RS m:=by
 have st:∀ x∈ends n,step m (g x)=if step n x=k1 then e1 else if step n x=k2 then e2 else g (step n x):=λx hx=>by
  unfold step;rw [p.gT T T' hx];exact lf _<|cZ T hx
 have s1:step m e1=g k2:=by unfold step;rw [p.o1 T'];exact l2
 have s2:step m e2=g k1:=by unfold step;rw [p.o2 T'];exact l1
 obtain⟨l,Ms,hL,d⟩:=d.pick h1;have hk:=d.one h2 same ne;obtain⟨Og,ZC,d',w,hw,w2,w1⟩:=d.split (f':=step m) (g:=g) hk (e1:=e1) (e2:=e2) s1 s2
  (λx hx e=>by rw [st x hx,BP e]) (λx hx e=>by rw [st x hx,BL (by rw [e];exact ne),BP e]) (λx hx a b=>by rw [st x hx,BL a,BL b]) p.nd
 have dm:=d'.perm p.perm;refine Ov T' (ψ:=λx=>decide (x∈w)) (λx hx=>decide_eq_decide.mpr<|dm.mark hw x hx) p.t1 (p.o1 T') (by show decide (e1∈w)≠decide (e2∈w);rw [BR w1,BW w2];decide) λs hs hz=>?_;obtain⟨χ,hχ⟩:=R s<|ev s hs hz;have ek:χ k2=χ k1:=by
  rcases same with ⟨k,e⟩ | ⟨k,e⟩
  ·rw [<- e];exact EL T hχ h1 k
  ·rw [<- e];exact(EL T hχ h2 k).symm
 refine p.j3 T T' hχ hz (a:=χ k1) (λx hx=>?_) (.inr<|.inr ⟨k2,h2,s1,ek⟩)<|.inr<|.inr ⟨k1,h1,s2,rfl⟩;rw [st x hx]
 by_cases c1:step n x=k1
 ·rw [BP c1];exact .inr ⟨.inl rfl,by rw [c1]⟩
 ·rw [BL c1]
  by_cases c2:step n x=k2
  ·rw [BP c2];exact .inr ⟨.inr rfl,by rw [c2,ek]⟩
  ·rw [BL c2];exact .inl rfl
theorem ZU(p:dP n m g e1 e2 z)(T:ax n)(T':ax m){c:End}(h1:c∈ends n)(l1:left m e1=g c)(l2:left m e2=e1)(lf:∀ e∈ends n,left m (g e)=if left n e=c then e2 else g (left n e))
  (ev:∀ s,dQ m s->s z=false->dQ n s) (R:RS n):RS m:=by
 have st:∀ x∈ends n,step m (g x)=if step n x=c then e2 else g (step n x):=λx hx=>by
  unfold step;rw [p.gT T T' hx];exact lf _<|cZ T hx
 have s1:step m e1=e1:=by unfold step;rw [p.o1 T'];exact l2
 have s2:step m e2=g c:=by unfold step;rw [p.o2 T'];exact l1
 have xW:e1∈ends m:=af.mpr ⟨z,p.t1⟩;refine Ov T' (ψ:=λx=>decide (x=e1)) (λx hx=>?_) p.t1 (p.o1 T') (by show decide (e1=e1)≠decide (e2=e1);rw [BW rfl,BR p.ne.symm];decide) λs hs hz=>?_
 ·by_cases q:x=e1
  ·rw [q,s1]
  ·show decide (step m x=e1)=decide (x=e1);rw [BR q];exact BR λe=>q<|M8 T' hx xW<|by rw [e,s1]
 obtain⟨χ,hχ⟩:=R s<|ev s hs hz;refine p.j3 T T' hχ hz (a:=χ c) (λx hx=>?_) (.inl s1)<|.inr<|.inr ⟨c,h1,s2,rfl⟩;rw [st x hx]
 by_cases c1:step n x=c
 ·rw [BP c1];exact .inr ⟨.inr rfl,by rw [c1]⟩
 ·rw [BL c1];exact .inl rfl
theorem ZV(p:dP n m g e1 e2 z)(T:ax n)(T':ax m){c:End}(h1:c∈ends n)(l1:left m e1=g c)(l2:left m e2=e2)(lf:∀ e∈ends n,left m (g e)=if left n e=c then e1 else g (left n e))
  (hz:∀ s,dQ m s->s z=false) (ev:∀ s,dQ m s->s z=false->dQ n s) (R:RS n):RS m:=by
 have st:∀ x∈ends n,step m (g x)=if step n x=c then e1 else g (step n x):=λx hx=>by
  unfold step;rw [p.gT T T' hx];exact lf _<|cZ T hx
 have s1:step m e1=e2:=by unfold step;rw [p.o1 T'];exact l2
 have s2:step m e2=g c:=by unfold step;rw [p.o2 T'];exact l1
 intro s hs;have hz:=hz s hs;obtain⟨χ,hχ⟩:=R s<|ev s hs hz;refine p.j3 T T' hχ hz (a:=χ c) (λx hx=>?_) (.inr<|.inl s1)<|.inr<|.inr ⟨c,h1,s2,rfl⟩;rw [st x hx]
 by_cases c1:step n x=c
 ·rw [BP c1];exact .inr ⟨.inl rfl,by rw [c1]⟩
 ·rw [BL c1];exact .inl rfl
end
section
variable{n:Net}{z:Str}
theorem ZW{k1 k2:End}(T:ax n)(T':ax<|ins (ins n k1 z) k2 z)(h1:k1∈ends n)(h2:k2∈ends n)(ord:k2=k1\/sh k1 k2=k2)(same:(∃ k,it (step n) k k1=k2)\/∃ k,it (step n) k k2=k1)(P:Pl n)(R:RS n):RS (ins (ins n k1 z) k2 z):=by
 have r1:=eJ h1;have r2:=eJ h2;have p:=Oh (z:=z) (k1:=k1) (k2:=k2) ⟨r1.1,Co r1.2⟩ ⟨r2.1,Co r2.2⟩;have c2:k2.1 < (ins n k1 z).length:=by rw [gF];exact r2.1
 have rl:∀ i,(row n i).length<=(row (ins n k1 z) i).length:=λi=>by
  rw [rC r1.1<|Co r1.2]
  split <;> omega
 have p2:k2.2 < (row (ins n k1 z) k2.1).length:=Bg r2.2<|rl _;have p1:k1.2 < (row (ins n k1 z) k1.1).length:=Bg r1.2<|rl _;have sl:∀ e∈ends n,(sh k1 e).2 < (row (ins n k1 z) (sh k1 e).1).length:=λe he=>by
  obtain⟨y,hy⟩:=af.mp he;exact f9 (z:=y)<|by rw [rD r1.1<|Co r1.2];exact hy
 have l0:left (ins n k1 z) k1=sh k1 k1:=nF r1.1 r1.2;have ev:∀ s,dQ (ins (ins n k1 z) k2 z) s->s z=false->dQ n s:=λs hs hz r=>by
  rw [<- EK r1.1 hz r,<- EK c2 hz r];exact hs r
 by_cases e:k2=k1
 ·subst e;refine ZU p T T' h1 ?_ (nF c2 p2) (λe he=>?_) ev R
  ·rw [iC c2 p2 p1,l0,BL<|nC _ _]
  ·show left _ (sh k2<|sh k2 e)=_;rw [iC c2 p2<|sl e he,iC r1.1 r1.2 (eJ he).2]
   by_cases q:left n e=k2
   ·rw [BP q,BP rfl,BP q]
   ·rw [BL q,BL<|nC _ _,BL q]
 ·have hs:sh k1 k2=k2:=ord.resolve_left e
  rcases P with ⟨t0,_⟩ | ⟨Ls,d,_⟩
  ·obtain⟨y,hy⟩:=af.mp h1;have:=dZ hy;rw [t0] at this;cases this
  refine ZT p T T' h1 h2 e same ?_ ?_ (λe' he=>?_) d ev R
  ·rw [iC c2 p2 p1,l0,BL λq=>e<|nB (c:=k1)<|by rw [hs,q]]
  ·show left _ k2=sh k2 (sh k1 k2);rw [hs];exact nF c2 p2
  ·show left _ (sh k2<|sh k1 e')=if left n e'=k1 then sh k2 k1 else if left n e'=k2 then k2 else sh k2 (sh k1<|left n e');rw [iC c2 p2<|sl e' he,iC r1.1 r1.2 (eJ he).2]
   by_cases q:left n e'=k1
   ·rw [BP q,BP q,BL λx=>e x.symm]
   ·rw [BL q,BL q]
    by_cases q2:left n e'=k2
    ·rw [BP q2,q2,hs,BP rfl]
    ·rw [BL q2,BL λx=>q2<|nB (c:=k1)<|by rw [x,hs]]
theorem ZX{c:End}{pt:Str}(T:ax n)(T':ax<|ins n c z++[(pt,[z])])(h1:c∈ends n)(R:RS n):RS (ins n c z++[(pt,[z])]):=by
 have r1:=eJ h1;have p:=Oi (z:=z) (c:=c) (pt:=pt) ⟨r1.1,Co r1.2⟩;have la:∀ e:End,e.1 < n.length->left (ins n c z++[(pt,[z])]) e=left (ins n c z) e:=λe he=>by
  unfold left;rw [nH<|by rw [gF];exact he]
 have j5:=xT (a:=ins n c z) (x:=(pt,[z]));rw [gF] at j5;refine ZV p T T' h1 ?_ ?_ (λe he=>?_) (λs hs=>?_) (λs hs hz r=>?_) R
 ·rw [la _ r1.1];exact nF r1.1 r1.2
 ·unfold left;show(n.length,(0+1) % (row _ n.length).length)=_;rw [j5];exact BZ (Prod.mk _)<|Ed 1
 ·rw [la _<|by rw [l7];exact(eJ he).1];exact iC r1.1 r1.2 (eJ he).2
 ·have:=hs n.length;rw [j5] at this;have:(s z ^^ false)=false:=this
  simpa using this
 ·by_cases h:r < n.length
  ·have:=hs r;rw [nH (by rw [gF];exact h),EK r1.1 hz r] at this;exact this
  ·have:row n r=[]:=by
    unfold row;rw [Bd<|by omega];rfl
   rw [this];rfl
end
theorem ZY{nm:Str}:RS [(nm,[])]:=λs _=>⟨λ_=>false,λe he=>rfl,λe y hy=>by
 have:=dZ hy;cases this⟩
theorem ZZ{nm pt z:Str}(T':ax [(nm,[z]),(pt,[z])]):RS [(nm,[z]),(pt,[z])]:=λs hs=>⟨λ_=>false,λe he=>rfl,λe y hy=>by
 have h:=dZ hy;have:y=z:=by simpa [ag] using h
 rw [this];have:=hs 0;have:(s z ^^ false)=false:=this
 simpa using this⟩
theorem Z3{nm z:Str}(T':ax [(nm,[z,z])]):RS [(nm,[z,z])]:=λs _=>by
 have t1:aK [(nm,[z,z])] (0,0)=some z:=rfl;have t2:aK [(nm,[z,z])] (0,1)=some z:=rfl;have o1:=jZ T' t1 t2 (by decide);have o2:=jZ T' t2 t1 (by decide);have hE:ends [(nm,[z,z])]=[(0,0),(0,1)]:=rfl;refine⟨λe=>decide (e=(0,0)) && s z,λe he=>?_,λe y hy=>?_⟩
 ·rw [hE] at he;simp only [Ak,Cj,GZ] at he
  rcases he with rfl | rfl
  ·show(decide (left [(nm,[z,z])] (other [(nm,[z,z])] (0,0))=(0,0)) && s z)=_;rw [o1];simp [left,row]
  ·show(decide (left [(nm,[z,z])] (other [(nm,[z,z])] (0,1))=(0,0)) && s z)=_;rw [o2];simp [left,row]
 ·have h:=dZ hy;have e1:y=z:=by simpa [ag] using h
  have he:=af.mpr ⟨y,hy⟩;rw [hE] at he;simp only [Ak,Cj,GZ] at he;rw [e1]
  rcases he with rfl | rfl
  ·rw [o1];simp
  ·rw [o2];simp
def Fl(n:Net):Prop:=Pl n/\RS n
theorem Z4{nm:Str}:Fl [(nm,[])]:=⟨.inl ⟨rfl,rfl⟩,ZY⟩
theorem Z5{n:Net}{c:End}{z pt:Str}(T:ax n)(F:Full n)(hz:z∉ag n)(hc:d6 n c) (hp:(ag<|ins n c z++[(pt,[z])]).Perm<|z :: z :: ag n) (P:Fl n):Fl (ins n c z++[(pt,[z])]):=by
 refine⟨ZN T F hz hc hp P.1,?_⟩;have T':=xU hp T hz
 rcases xV F with ⟨nm,rfl⟩ | h0
 ·have:=rE hc;subst this;exact ZZ T'
 ·exact ZX T T' (F.cF h0 hc) P.2
theorem Z6{n:Net}{k1 k2:End}{z:Str}(T:ax n)(F:Full n)(hz:z∉ag n)(h1:d6 n k1)(h2:d6 n k2) (hp:(ag<|ins (ins n k1 z) k2 z).Perm<|z :: z :: ag n) (ord:k2=k1\/sh k1 k2=k2) (same:(∃ k,it (step n) k k1=k2)\/∃ k,it (step n) k k2=k1) (P:Fl n):Fl (ins (ins n k1 z) k2 z):=by
 refine⟨ZO T F hz h1 h2 hp ord same P.1,?_⟩;have T':=xU hp T hz
 rcases xV F with ⟨nm,rfl⟩ | h0
 ·have:=rE h1;subst this;have:=rE h2;subst this;exact Z3 T'
 ·exact ZW T T' (F.cF h0 h1) (F.cF h0 h2) ord same P.1 P.2
theorem Z7{n m:Net}{g:End->End}(T:ax n)(T':ax m)(ht:(ag m).length=(ag n).length)(c6:∀ e∈ends n,aK m (g e)=aK n e)(inj:∀ a∈ends n,∀ b∈ends n,g a=g b->a=b)
  (lf:∀ e∈ends n,left m (g e)=g (left n e)) (ev:∀ s,dQ m s->dQ n s) (R:RS n):RS m:=by
 have ub:∀ x∈ends m,∃ e∈ends n,x=g e:=by
  have nd:((ends n).map g).Nodup:=by
   have:∀(l:List End),(∀ x∈l,x∈ends n)->l.Nodup->(l.map g).Nodup:=by
    intro l
    induction l with
    | nil=>intro _ _;exact Ch
    | cons x l ih=>
     intro hs h;have h:=Be.mp h;rw [Bj];refine Be.mpr ⟨λhx=>?_,ih (λy hy=>hs y<|Ai _ hy) h.2⟩;obtain⟨y,hy,e⟩:=An.mp hx;have:=inj y (hs y<|Ai _ hy) x (hs x Ae) e;exact h.1<|this ▸ hy
   exact this _ (λx hx=>hx)<|ra n
  have pm:((ends n).map g).Perm (ends m):=by
   refine ua nd (λa ha=>?_) (by rw [Aa,jt,jt,ht];exact Al _);obtain⟨x,hx,rfl⟩:=An.mp ha;obtain⟨y,hy⟩:=af.mp hx;exact af.mpr ⟨y,by rw [c6 x hx];exact hy⟩
  intro x hx;obtain⟨e,he,q⟩:=An.mp<|pm.mem_iff.mpr hx;exact⟨e,he,q.symm⟩
 intro s hs;obtain⟨χ,hχ⟩:=R s<|ev s hs
 let χ':End->Bool:=λx=>match (ends n).find? (λe=>decide (g e=x)) with | some e=>χ e | none=>false
 have h1:∀ e∈ends n,χ' (g e)=χ e:=λe he=>by
  show(match (ends n).find? (λe'=>decide (g e'=g e)) with | some e=>χ e | none=>false)=χ e;cases hf:(ends n).find? (λe'=>decide (g e'=g e)) with
  | none=>exact absurd (BW (rfl:g e=g e))<|by simpa using Fu.mp hf e he
  | some e'=>
   have h5:=Gn hf;have h5:g e'=g e:=BX h5;rw [inj _ (List.mem_of_find?_eq_some hf) _ he h5]
 have gT:∀ e∈ends n,other m (g e)=g (other n e):=λe he=>by
  obtain⟨y,hy⟩:=af.mp he;obtain⟨h1,_,h3⟩:=dG T hy;have ho:other n e∈ends n:=af.mpr ⟨y,h1⟩;exact jZ T' (by rw [c6 e he];exact hy) (by rw [c6 _ ho];exact h1) λh=>h3 (inj _ he _ ho h).symm
 refine⟨χ',λx hx=>?_,λx y hy=>?_⟩
 ·obtain⟨e,he,rfl⟩:=ub x hx;have:step m (g e)=g (step n e):=by
   unfold step;rw [gT e he];exact lf _<|cZ T he
  rw [this,h1 _<|rg T he,h1 e he,hχ.go e he]
 ·obtain⟨e,he,rfl⟩:=ub x<|af.mpr ⟨y,hy⟩;rw [c6 e he] at hy;rw [gT e he,h1 e he,h1 _<|cZ T he];exact hχ.c6 e y hy
theorem Z8{a:Net}{j i:Nat}{x:Str}(hj:j < a.length)(hi:i < max 1 (row a j).length)(T:ax a) (T':ax<|a.eraseIdx j++[(x,(row a j).drop i++(row a j).take i)])
  (ht:(ag<|a.eraseIdx j++[(x,(row a j).drop i++(row a j).take i)]).length=(ag a).length) (R:RS a):RS (a.eraseIdx j++[(x,(row a j).drop i++(row a j).take i)]):=by
 obtain⟨g,h1,h2,h3⟩:=Om (x:=x) hj hi;refine Z7 T T' ht h1 h2 h3 (λs hs r=>?_) R
 by_cases hr:r < a.length
 ·have:=hs (if r < j then r else if r=j then a.length - 1 else r - 1);rw [Ol hj r hr] at this
  by_cases e:r=j
  ·rw [BP e] at this;rw [<- this,e];refine Ot<|List.Perm.map s ?_;show(row a j).Perm ((row a j).drop i++(row a j).take i);refine List.Perm.trans ?_ Cf;rw [Dl]
  ·rw [BL e] at this;exact this
 ·have:row a r=[]:=by
   unfold row;rw [Bd<|by omega];rfl
  rw [this];rfl
theorem Z9{n n2 n0:Net}{j i:Nat}{x:Str}(hj:j < n.length)(hi:i < max 1 (row n j).length)(T0:ax n0)(pt:(ag n++ag n2).Perm<|ag n0)
  (gl:(ag (n.eraseIdx j)++ag (n2++[(x,(row n j).drop i++(row n j).take i)])).Perm<|ag n0) (P:Fl<|n++n2):Fl (n.eraseIdx j++(n2++[(x,(row n j).drop i++(row n j).take i)])):=by
 refine⟨ZR hj hi T0 pt gl P.1,?_⟩;have tw:∀ m:Net,(ag m).Perm (ag n0)->ax m:=λm p y hy=>by rw [p.count_eq];exact T0 y<|p.mem_iff.mp hy
 rw [<- Oq] at pt gl;have er:row (n++n2) j=row n j:=nH hj;have ee:n.eraseIdx j++(n2++[(x,(row n j).drop i++(row n j).take i)])=(n++n2).eraseIdx j++[(x,(row (n++n2) j).drop i++(row (n++n2) j).take i)]:=by
  rw [KY hj,Ar,er]
 rw [ee] at gl ⊢;exact Z8 (by rw [Af];omega) (by rw [er];exact hi) (tw _ pt) (tw _ gl) (by rw [gl.length_eq,pt.length_eq]) P.2
open L2
def aF(n:Net)(r:Nat):Str:=((n[r]?).map (·.1)).getD ⟨#[]⟩
theorem i4{n:Net}{r:Nat}(h:r < n.length):aF n r=n[r].1:=by unfold aF;rw [Ab h];rfl
abbrev Lk:=Str×Str×Str
def nJ(n:Net)(x:Lk):Prop:=∃ a b,pos n x.1=[a,b]/\x.2.1=aF n a.1/\x.2.2=aF n b.1
structure iD(n:Net)(done:List<|Str×End)(kM:List<|Key×V)(ls:List Lk):Prop where
 m0:∀ z,bG done z=[]->aB kM (Sum.inr z)=none
 m1:∀ z a rest,bG done z=a :: rest->aB kM (Sum.inr z)=some (.str<|aF n a.1)
 mem:∀ x:Lk,x∈ls↔∃ a b rest,bG done x.1=a :: b :: rest/\x.2.1=aF n a.1/\x.2.2=aF n b.1
 gI:(ls.map (·.1)).Nodup
 dL:kM.length<=done.length
 me:ls.length<=done.length
theorem iD.start(n:Net):iD n [] [] []:=⟨λ_ _=>rfl,λz a rest h=>(by cases h),λx=>⟨λh=>(by cases h),λ⟨a,b,rest,h,_⟩=>(by cases h)⟩,Ch,Al _,Al _⟩
theorem iD.new{n:Net}{done:List (Str×End)}{kM:List (Key×V)}{ls:List Lk}(I:iD n done kM ls){z:Str}{e:End}(h0:bG done z=[]):iD n (done++[(z,e)]) (putK kM (Sum.inr z)<|.str<|aF n e.1) ls:=by
 refine⟨λy hy=>?_,λy a rest hy=>?_,λx=>?_,I.gI,?_,?_⟩
 ·rw [de] at hy;obtain⟨h1,h2⟩:=Ez.mp hy;have bw:¬ z=y:=λq=>by rw [BP q] at h2;cases h2
  rw [db,BL λq=>bw (Sum.inr.inj q).symm];exact I.m0 y h1
 ·rw [de] at hy
  by_cases q:z=y
  ·subst q;rw [h0,BP rfl] at hy;cases hy;rw [db,BP rfl]
  ·rw [BL q,Bi] at hy;rw [db,BL λp=>q (Sum.inr.inj p).symm];exact I.m1 y a rest hy
 ·rw [I.mem x]
  by_cases q:z=x.1
  ·constructor
   ·rintro ⟨a,b,rest,h,_⟩;rw [<- q,h0] at h;cases h
   ·rintro ⟨a,b,rest,h,_⟩;rw [de,<- q,h0,BP rfl] at h;cases h
  ·constructor
   ·rintro ⟨a,b,rest,h,r⟩;exact⟨a,b,rest,by rw [de,BL q,Bi];exact h,r⟩
   ·rintro ⟨a,b,rest,h,r⟩;rw [de,BL q,Bi] at h;exact⟨a,b,rest,h,r⟩
 ·have:=ik kM (Sum.inr z)<|.str<|aF n e.1;have:=I.dL;rw [Af,Cs];omega
 ·have:=I.me;rw [Af,Cs];omega
theorem iD.old{n:Net}{done:List (Str×End)}{kM:List (Key×V)}{ls:List Lk}(I:iD n done kM ls){z:Str}{a e:End}(h1:bG done z=[a]):iD n (done++[(z,e)]) kM (ls++[(z,aF n a.1,aF n e.1)]):=by
 have hz:bG (done++[(z,e)]) z=[a,e]:=by rw [de,h1,BP rfl];rfl
 have Z':z∉ls.map (·.1):=λh=>by
  obtain⟨x,hx,ex⟩:=An.mp h;obtain⟨b,c,rest,hp,_⟩:=(I.mem x).mp hx;have ex:x.1=z:=ex;rw [ex,h1] at hp;cases hp
 refine⟨λy hy=>?_,λy b rest hy=>?_,λx=>?_,?_,?_,?_⟩
 ·rw [de] at hy;exact I.m0 y (Ez.mp hy).1
 ·by_cases q:z=y
  ·subst q;rw [hz] at hy;cases hy;exact I.m1 z a [] h1
  ·rw [de,BL q,Bi] at hy;exact I.m1 y b rest hy
 ·rw [Am,Ad,I.mem x]
  by_cases q:z=x.1
  ·constructor
   ·rintro (⟨b,c,rest,h,_⟩ | h)
    ·rw [<- q,h1] at h;cases h
    ·subst h;exact⟨a,e,[],hz,rfl,rfl⟩
   ·rintro ⟨b,c,rest,h,r1,r2⟩;rw [<- q,hz] at h;cases h;obtain⟨x1,x2,x3⟩:=x;have q:z=x1:=q;have r1:x2=aF n a.1:=r1;have r2:x3=aF n e.1:=r2;subst q r1 r2;exact .inr rfl
  ·constructor
   ·rintro (⟨b,c,rest,h,r⟩ | h)
    ·exact⟨b,c,rest,by rw [de,BL q,Bi];exact h,r⟩
    ·subst h;exact absurd rfl q
   ·rintro ⟨b,c,rest,h,r⟩;rw [de,BL q,Bi] at h;exact .inl ⟨b,c,rest,h,r⟩
 ·rw [Aj];exact mX I.gI Z'
 ·have:=I.dL;rw [Af,Cs];omega
 ·have:=I.me;rw [Af,Af];show _+1<=_+1;omega
theorem iD.whole{n:Net}(T:ax n){kM:List (Key×V)}{ls:List Lk}(I:iD n (bo n) kM ls)(x:Lk):x∈ls↔nJ n x:=by
 rw [I.mem x]
 constructor
 ·rintro ⟨a,b,rest,h,r⟩;have hp:pos n x.1=a :: b :: rest:=h;have ha:aK n a=some x.1:=aM.mp (by rw [hp];exact Ae ..);have hl:=o9 n x.1;rw [hp,T x.1<|dZ ha] at hl;have:rest=[]:=by
   have:rest.length+1+1=2:=hl;exact Bk.mp<|by omega
  rw [this] at hp;exact⟨a,b,hp,r⟩
 ·rintro ⟨a,b,h,r⟩;exact⟨a,b,[],h,r⟩
inductive Way (ls:List<|Str×Str×Bool) (f:Str):Str->Bool->Prop where
 | here:Way ls f f false
 | there {x y:Str} {b o:Bool}:Way ls f x b->(x,y,o)∈ls->Way ls f y (b != o)
 | back {x y:Str} {b o:Bool}:Way ls f x b->(y,x,o)∈ls->Way ls f y (b != o)
def fm(n:Net)(ss:List Str):Bool:=n.all λr=>(r.2.filter λz=>ss.contains z).length % 2 == 0
theorem kP{n:Net}(T:ax n){e x:End}{z:Str}(h:aK n e=some z):aK n x=some z↔x=e\/x=other n e:=by
 obtain⟨o1,o2,o3⟩:=dG T h;refine⟨λhx=>?_,λhx=>?_⟩
 ·obtain⟨a,b,hp,fY,he⟩:=pc T h;have mx:x∈pos n z:=aM.mpr hx;have mo:other n e∈pos n z:=aM.mpr o1;rw [hp] at mx mo;simp only [Ak,Cj,GZ] at mx mo
  rcases he with he | he
  ·rcases mx with m | m
   ·exact .inl<|m.trans he.symm
   ·rcases mo with m2 | m2
    ·exact absurd (m2.trans he.symm) o3
    ·exact .inr<|m.trans m2.symm
  ·rcases mx with m | m
   ·rcases mo with m2 | m2
    ·exact .inr<|m.trans m2.symm
    ·exact absurd (m2.trans he.symm) o3
   ·exact .inl<|m.trans he.symm
 ·rcases hx with rfl | rfl
  ·exact h
  ·exact o1
structure cP(L:List Str)(kvs:List<|Key×V)(ks:List Str):Prop where
 keys:kvs.map (·.1)=ks.map Sum.inr
 nodup:ks.Nodup
 mem:∀ z,z∈ks↔z∈L
 val:∀ z,aB kvs (Sum.inr z)=if z∈L then some (.int<|L.count z) else none
theorem cP.start:cP [] [] []:=⟨rfl,Ch,λ_=>Iff.rfl,λ_=>rfl⟩
theorem cP.len{L:List Str}{kvs:List (Key×V)}{ks:List Str}(C:cP L kvs ks):kvs.length<=L.length:=by
 have e:=BZ List.length C.keys;rw [Aa,Aa] at e;rw [e];exact aX C.nodup λz hz=>(C.mem z).mp hz
theorem cP.put{L:List Str}{kvs:List (Key×V)}{ks:List Str}(C:cP L kvs ks)(z:Str):∃ ER,cP (L++[z]) (putK kvs (Sum.inr z)<|.int<|(L.count z:Int)+1) ER:=by
 have hv:∀ y,aB (putK kvs (Sum.inr z)<|.int<|(L.count z:Int)+1) (Sum.inr y)=if y∈L++[z] then some (.int<|(L++[z]).count y) else none:=λy=>by
  rw [db]
  by_cases e:y=z
  ·subst e;rw [BP rfl,BP (by simp),Dk];simp
  ·have e':¬(Sum.inr y:Key)=Sum.inr z:=λq=>e<|Sum.inr.inj q;have e2:¬ z=y:=λq=>e q.symm;rw [BL e',C.val y,Dk]
   by_cases hy:y∈L
   ·rw [BP hy,BP<|by simp [hy]];simp [e2]
   ·rw [BL hy,BL<|by simp [hy,e]]
 by_cases hz:z∈L
 ·have h1:(kvs.any λkv=>decide (kv.1=(Sum.inr z:Key)))=true:=by
   rw [oH,C.val z,BP hz];rfl
  refine⟨ks,?_,C.nodup,λy=>?_,hv⟩
  ·rw [<- C.keys];unfold putK;rw [BP h1,Ca];refine Ao λp _=>?_;show(if p.1=Sum.inr z then(p.1,V.int<|(L.count z:Int)+1) else p).1=p.1
   split <;> rfl
  ·rw [C.mem y,Am];refine⟨.inl,λh=>h.elim id λh=>?_⟩;rw [Ad.mp h];exact hz
 ·have h1:aB kvs (Sum.inr z)=none:=by rw [C.val z,BL hz]
  refine⟨ks++[z],?_,mX C.nodup λh=>hz<|(C.mem z).mp h,λy=>?_,hv⟩
  ·rw [zY _ h1,Aj,C.keys,Aj];rfl
  ·rw [Am,Am,C.mem y]
abbrev Bl:=Str×Str×Bool
def q9a(ls:List Bl)(x y:Str)(o:Bool):Prop:=(x,y,o)∈ls\/(y,x,o)∈ls
theorem EV{κ:Type} [DecidableEq κ] (kvs:List<|κ×V) (k:κ) (v:V):(putK kvs k v).map (·.1)=if k∈kvs.map (·.1) then kvs.map (·.1) else kvs.map (·.1)++[k]:=by
 have e:(kvs.any λkv=>decide (kv.1=k))=decide (k∈kvs.map (·.1)):=by
  rw [Cm,List.any_eq_true,CK,An];exact⟨λ⟨p,h1,h2⟩=>⟨p,h1,BX h2⟩,λ⟨p,h1,h2⟩=>⟨p,h1,BW h2⟩⟩
 unfold putK;rw [e]
 by_cases h:k∈kvs.map (·.1)
 ·rw [BP<|BW h,BP h,Ca];refine Ao λp _=>?_;show(if p.1=k then(p.1,v) else p).1=p.1
  split <;> rfl
 ·rw [BL (by simpa using h),BL h,Aj];rfl
open PyProof.Rows (sortedS)
def dk(n:Net):Prop:=∀ P:Str->Prop,(∃ r∈n,P r.1)->(∀ r∈n,∀ s∈n,∀ t,t∈r.2->t∈s.2->P r.1->P s.1)->∀ r∈n,P r.1
theorem Ox{n m:Net}(h1:∀ r∈n,∃ s∈m,s.1=r.1/\∀ t∈r.2,t∈s.2)(h2:∀ s∈m,∃ r∈n,r.1=s.1)(h:dk n):dk m:=by
 rintro P ⟨s,hs,ps⟩ cl s' iW;obtain⟨r,hr,er⟩:=h2 s hs;obtain⟨r',pI,er'⟩:=h2 s' iW;rw [<- er'];refine h P ⟨r,hr,by rw [er];exact ps⟩ (λa ha b hb t ta tb pa=>?_) r' pI;obtain⟨a',xX,ea,sa⟩:=h1 a ha;obtain⟨b',iB,eb,sb⟩:=h1 b hb;rw [<- eb];exact cl a' xX b' iB t (sa t ta) (sb t tb)<|by rw [ea];exact pa
theorem q1z(r:Str×List Str):dk [r]:=by
 rintro P ⟨s,hs,ps⟩ _ x hx;rw [Ad] at hs hx;rw [hx,<- hs];exact ps
theorem EW(n:Net)(c:End)(z:Str)(i:Nat):(ins n c z)[i]?=(n[i]?).map λr=>if c.1=i then(r.1,r.2.take c.2++z :: r.2.drop c.2) else r:=by
 unfold ins;rw [Fh]
 by_cases h:c.1=i
 ·simp [h]
 ·simp [h]
theorem EX{n:Net}{c:End}{z:Str}(h:dk n):dk (ins n c z):=by
 refine Ox (λr hr=>?_) (λs hs=>?_) h
 ·obtain⟨i,hi⟩:=Bp hr;have e:=EW n c z i;rw [hi] at e;refine⟨_,Ap e,?_,λt ht=>?_⟩
  ·split <;> rfl
  ·split
   ·show t∈r.2.take c.2++z :: r.2.drop c.2;rw [<- Dl c.2 r.2] at ht
    rcases Am.mp ht with q | q
    ·exact Ba _ q
    ·exact Ax _<|Ai _ q
   ·exact ht
 ·obtain⟨i,hi⟩:=Bp hs;rw [EW,Aw] at hi;obtain⟨r,hr,e⟩:=hi;refine⟨r,Ap hr,?_⟩;rw [<- e]
  split <;> rfl
theorem q4r{n:Net}{c:End}{z:Str}(hc:c.1 < n.length):∃ r∈ins n c z,z∈r.2:=by
 have e:=EW n c z c.1;rw [Ab hc] at e;refine⟨_,Ap e,?_⟩;show z∈(if c.1=c.1 then((n[c.1].1,n[c.1].2.take c.2++z :: n[c.1].2.drop c.2):Str×List Str) else n[c.1]).2;rw [BP rfl];exact Ax _<|Ae ..
theorem k8v{n:Net}{z pt:Str}(h:dk n)(hz:∃ r∈n,z∈r.2):dk (n++[(pt,[z])]):=by
 obtain⟨r,hr,zr⟩:=hz;rintro P ⟨s,hs,ps⟩ cl x hx;have mn:((pt,[z]):Str×List Str)∈n++[(pt,[z])]:=Ax _<|Ad.mpr rfl;have ml:∀{y},y∈n->y∈n++[(pt,[z])]:=λhy=>Ba _ hy;have all:∀ y∈n,P y.1:=by
  refine h P ?_ λa ha b hb t ta tb pa=>cl a (ml ha) b (ml hb) t ta tb pa
  rcases Am.mp hs with q | q
  ·exact⟨s,q,ps⟩
  ·rw [Ad] at q;subst q;exact⟨r,hr,cl _ mn r (ml hr) z (Ad.mpr rfl) zr ps⟩
 rcases Am.mp hx with q | q
 ·exact all x q
 ·rw [Ad] at q;subst q;exact cl r (ml hr) _ mn z zr (Ad.mpr rfl)<|all r hr
def cj(zs:List Str):Prop:=zs.Pairwise λa b=>a.cps.toList < b.cps.toList
theorem rF:∀{zs:List Str},sortedS zs=true->zs.Nodup->cj zs
 | [],_,_=>List.Pairwise.nil
 | z :: r,h,hn=>by
  rw [Be] at hn;refine List.Pairwise.cons (λx hx=>?_)<|rF (bM.dY h) hn.2;have h1:=bM.dF r z h x hx
  rcases Gj.mp h1 with q | q
  ·exact q
  ·exact absurd hx<|by rw [<- bM.fb q];exact hn.1
theorem eQ{zs:List Str}(h:cj zs):zs.Nodup:=h.imp λq e=>by rw [e] at q;exact Ga _ q
theorem Oy:∀{a b:List Str},cj a->cj b->(∀ x,x∈a↔x∈b)->a=b
 | [],[],_,_,_=>rfl
 | [],y :: b,_,_,h=>by have:=(h y).mpr<|Ae ..;cases this
 | x :: a,[],_,_,h=>by have:=(h x).mp<|Ae ..;cases this
 | x :: a,y :: b,ha,hb,h=>by
  unfold cj at ha hb;rw [Cr] at ha hb;have exy:x=y:=by
   rcases Ak.mp ((h x).mp<|Ae ..) with e | e
   ·exact e
   ·rcases Ak.mp ((h y).mpr<|Ae ..) with e2 | e2
    ·exact e2.symm
    ·exact absurd (Gh (ha.1 y e2)<|hb.1 x e)<|Ga _
  subst exy;have nx:∀(l:List Str),(∀ z∈l,x.cps.toList < z.cps.toList)->x∉l:=λl hl hm=>Ga _<|hl x hm;have:a=b:=Oy ha.2 hb.2 λz=>by
   constructor
   ·intro hz
    rcases Ak.mp ((h z).mp<|Ai _ hz) with e | e
    ·exact absurd (e ▸ hz)<|nx a ha.1
    ·exact e
   ·intro hz
    rcases Ak.mp ((h z).mpr<|Ai _ hz) with e | e
    ·exact absurd (e ▸ hz)<|nx b hb.1
    ·exact e
  rw [this]
def dv(n:Net)(ps:List Str)(z:Str):Prop:=∃ e,aK n e=some z/\aF n e.1∈ps/\aF n (other n e).1∉ps
theorem xY{n:Net}{ps:List Str}{z:Str}(h:dv n ps z):z∈ag n:=by
 obtain⟨e,he,_⟩:=h;exact dZ he
theorem mh{n:Net}(T:ax n){ps:List Str}{z:Str}{e:End}(he:aK n e=some z):dv n ps z↔(decide (aF n e.1∈ps) != decide (aF n (other n e).1∈ps))=true:=by
 have o:=dG T he
 constructor
 ·rintro ⟨x,hx,h1,h2⟩
  rcases (kP T he).mp hx with q | q
  ·subst q;simp [h1,h2]
  ·subst q;rw [o.2.1] at h2;simp [h1,h2]
 ·intro h
  by_cases h1:aF n e.1∈ps
  ·by_cases h2:aF n (other n e).1∈ps
   ·simp [h1,h2] at h
   ·exact⟨e,he,h1,h2⟩
  ·by_cases h2:aF n (other n e).1∈ps
   ·exact⟨other n e,o.1,h2,by rw [o.2.1];exact h1⟩
   ·simp [h1,h2] at h
theorem k9s{n:Net}(T:ax n){x:Lk}(h:nJ n x):∃ e,aK n e=some x.1/\x.2.1=aF n e.1/\x.2.2=aF n (other n e).1:=by
 obtain⟨a,b,hp,h1,h2⟩:=h;have ha:aK n a=some x.1:=aM.mp (by rw [hp];exact Ae ..);have hb:aK n b=some x.1:=aM.mp (by rw [hp];simp);have pJ:=M6 n x.1;rw [hp] at pJ;have fY:b≠a:=λq=>by rw [q] at pJ;simp at pJ
 rcases (kP T ha).mp hb with q | q
 ·exact absurd q fY
 ·exact⟨a,ha,h1,by rw [h2,q]⟩
theorem k9a{n:Net}(T:ax n){e:End}{z:Str}(h:aK n e=some z):nJ n (z,aF n e.1,aF n (other n e).1)\/nJ n (z,aF n (other n e).1,aF n e.1):=by
 obtain⟨a,b,hp,fY,hh⟩:=pc T h;have ha:aK n a=some z:=aM.mp (by rw [hp];exact Ae ..);have hb:aK n b=some z:=aM.mp<|by rw [hp];simp
 rcases hh with q | q
 ·subst q;refine .inl ⟨e,b,hp,rfl,?_⟩
  rcases (kP T h).mp hb with q | q
  ·exact absurd q.symm fY
  ·show aF n (other n e).1=aF n b.1;rw [q]
 ·subst q;refine .inr ⟨a,e,hp,?_,rfl⟩
  rcases (kP T h).mp ha with q | q
  ·exact absurd q fY
  ·show aF n (other n e).1=aF n a.1;rw [q]
theorem xZ{n:Net}(T:ax n){ps:List Str}{x:Lk}(h:nJ n x):dv n ps x.1↔(decide (x.2.1∈ps) != decide (x.2.2∈ps))=true:=by
 obtain⟨e,he,h1,h2⟩:=k9s T h;rw [h1,h2];exact mh T he
def bI(n:Net):Str:=aF n 0
structure bC(n:Net)(ss sd:List Str):Prop where
 nK:cj sd
 mem:∀ x∈sd,x∈n.map (·.1)
 fst:bI n∉sd
 cut:∀ z,z∈ss↔dv n sd z
structure Tells(n:Net)(ss:List Str)(ls:List Bl):Prop where
 to:∀ e z,aK n e=some z->q9a ls (aF n e.1) (aF n (other n e).1) (decide (z∈ss))
 Oz:∀ l∈ls,∃ e z,aK n e=some z/\l=(aF n e.1,aF n (other n e).1,decide (z∈ss))
theorem OA{n:Net}(T:ax n){ss sd:List Str}{ls:List Bl}(t:Tells n ss ls)(hc:∀ z,z∈ss↔dv n sd z){f x:Str}{b:Bool}(w:Way ls f x b):decide (x∈sd)=(decide (f∈sd) != b):=by
 have step:∀{x y:Str} {o:Bool},(x,y,o)∈ls->o=(decide (x∈sd) != decide (y∈sd)):=λ{x y o} h=>by
  obtain⟨e,z,he,hl⟩:=t.Oz _ h;have h1:x=aF n e.1:=BZ (·.1) hl;have h2:y=aF n (other n e).1:=BZ (·.2.1) hl;have h3:o=decide (z∈ss):=BZ (·.2.2) hl;rw [h1,h2,h3,Cm,CK,hc z];exact mh T he
 induction w with
 | here=>simp
 | @there x y b o w h ih=>
  rw [step h,ih];cases decide (f∈sd) <;> cases b <;> cases decide (y∈sd) <;> rfl
 | @back x y b o w h ih=>
  rw [step h,ih];cases decide (f∈sd) <;> cases b <;> cases decide (y∈sd) <;> rfl
theorem OB{n:Net}(T:ax n){ss sd:List Str}{ls:List Bl}(t:Tells n ss ls)(h:bC n ss sd){x:Str}{b:Bool}(w:Way ls (bI n) x b):decide (x∈sd)=b:=by
 rw [OA T t h.cut w,BR h.fst];simp
theorem ju{n:Net}{i:Nat}(h:i < n.length):aF n i∈n.map (·.1):=by
 rw [i4 h];exact An.mpr ⟨_,Bt h,rfl⟩
noncomputable def c7(n:Net)(ss:List Str):List Bl:=(ends n).map λe=>(aF n e.1,aF n (other n e).1,decide ((aK n e).getD ⟨#[]⟩∈ss))
theorem rG{n:Net}{ss:List Str}:Tells n ss (c7 n ss):=by
 refine⟨λe z h=> .inl (An.mpr ⟨e,af.mpr ⟨z,h⟩,by rw [h];rfl⟩),λl hl=>?_⟩;obtain⟨e,he,q⟩:=An.mp hl;obtain⟨z,hz⟩:=af.mp he;exact⟨e,z,hz,by rw [<- q,hz];rfl⟩
theorem j9u{n:Net}(T:ax n){ss sd:List Str}{ls:List Bl}(t:Tells n ss ls)(hs:cj sd)(hm:∀ x∈sd,x∈n.map (·.1))(hc:∀ z,z∈ss↔dv n sd z){b:Bool}(w:Way ls (bI n) (bI n) b)(hb:bI n∈sd↔b=true):bC n ss sd:=by
 refine⟨hs,hm,λhf=>?_,hc⟩;have e:=OA T t hc w;rw [hb.mp hf,BW hf] at e;cases e
theorem pK{n:Net}(T:ax n){e:End}{z:Str}(h:aK n e=some z):(other n e).1 < n.length:=cN (dG T h).1
theorem k57{n:Net}(T:ax n){ps qs:List Str}(h:∀ x∈n.map (·.1),x∈qs↔x∉ps)(z:Str):dv n ps z↔dv n qs z:=by
 have k:∀{e:End},aK n e=some z->(dv n ps z↔dv n qs z):=λ{e} he=>by
  rw [mh T he,mh T he];have a1:=h _<|ju<|cN he;have a2:=h _<|ju<|pK T he
  by_cases h1:aF n e.1∈ps <;> by_cases h2:aF n (other n e).1∈ps <;> simp [a1,a2,h1,h2]
 constructor
 ·intro hc;obtain⟨e,he,_⟩:=hc;exact(k he).mp ⟨e,he,by assumption⟩
 ·intro hc;obtain⟨e,he,_⟩:=hc;exact(k he).mpr ⟨e,he,by assumption⟩
open PyProof.Rows (sortedS)
abbrev c8(kvs:List<|Key×V)(r:Nat)(b:Bool):Prop:=aB kvs (Sum.inl (r:Int))=some (.bl b)
structure cT(n:Net)(ss:List Str)(hr:Option<|Nat×Nat)(kvs:List<|Key×V)(lf:List Nat):Prop where
 gI:(kvs.map (·.1)).Nodup
 num:∀ k∈kvs.map (·.1),∃ r:Nat,k=Sum.inl (r:Int)/\r < n.length
 val:∀(r:Nat) v,aB kvs (Sum.inl (r:Int))=some v->∃ b,v = .bl b/\Way (c7 n ss) (bI n) (aF n r) b
 fst:∃ b,c8 kvs 0 b
 uc:∀ r∈lf,∃ b,c8 kvs r b
 x4:∀ x p,hr=some (x,p)->∃ b,c8 kvs x b
 cls:∀ r b,c8 kvs r b->r∈lf\/(∃ p,hr=some (r,p))\/∀ p z,aK n (r,p)=some z->c8 kvs (other n (r,p)).1 (b != decide (z∈ss))
 EZ:∀ x p,hr=some (x,p)->∀ b,c8 kvs x b->∀ p',p' < p->∀ z,aK n (x,p')=some z->c8 kvs (other n (x,p')).1 (b != decide (z∈ss))
theorem OC{kvs:List (Key×V)}{k:Key}(hg:aB kvs k=none):k∉kvs.map (·.1):=by
 induction kvs with
 | nil=>intro h;cases h
 | cons c r ih=>
  intro h
  by_cases hc:c.1=k
  ·rw [gQ hc] at hg;cases hg
  ·rw [gB hc] at hg
   rcases Ak.mp h with q | q
   ·exact hc q.symm
   ·exact ih hg q
theorem k9t{kvs:List (Key×V)}{k:Key}{v:V}(hg:aB kvs k=some v):k∈kvs.map (·.1):=by
 refine DQ λhn=>?_
 induction kvs with
 | nil=>cases hg
 | cons c r ih=>
  rw [Bj,Ak] at hn;rw [gB λq=>hn<|.inl q.symm] at hg;exact ih hg λq=>hn<|.inr q
theorem cT.lt{n:Net}{ss:List Str}{hr:Option (Nat×Nat)}{kvs:List (Key×V)}{lf:List Nat}(I:cT n ss hr kvs lf){r:Nat}{b:Bool}(h:c8 kvs r b):r < n.length:=by
 obtain⟨r',e,h'⟩:=I.num _<|k9t h;have:=Sum.inl.inj e;omega
theorem cT.len{n:Net}{ss:List Str}{hr:Option (Nat×Nat)}{kvs:List (Key×V)}{lf:List Nat}(I:cT n ss hr kvs lf):kvs.length<=n.length:=by
 have:=aX I.gI (b:=(List.range n.length).map λr=>Sum.inl ((r:Nat):Int)) λk hk=>by
  obtain⟨r,e,h⟩:=I.num k hk;exact An.mpr ⟨r,Br.mpr h,e.symm⟩
 rw [Aa,Aa,El] at this;exact this
theorem OG{a b:Nat}(h:a≠b):¬(Sum.inl (a:Int):Key)=Sum.inl (b:Int):=λq=>h<|by have:=Sum.inl.inj q;omega
theorem cT.start{n:Net}{ss:List Str}(h0:0 < n.length):cT n ss none (putK [] (Sum.inl 0)<|.bl false) [0]:=by
 have hv:∀ r:Nat,aB (putK ([]:List<|Key×V) (Sum.inl 0)<|.bl false) (Sum.inl (r:Int))=if r=0 then some (.bl false) else none:=λr=>by
  rw [db]
  by_cases h:r=0
  ·subst h;rfl
  ·rw [BL h,BL λq=>h<|by have:=Sum.inl.inj q;omega];rfl
 have OH:c8 (putK ([]:List<|Key×V) (Sum.inl 0)<|.bl false) 0 false:=by
  show aB _ _=_;rw [hv,BP rfl]
 refine⟨by show([Sum.inl 0]:List Key).Nodup;simp,λk hk=>⟨0,by simpa [putK] using hk,h0⟩,λr v h=>?_,⟨false,OH⟩,λr hr=>⟨false,by rw [Ad.mp hr];exact OH⟩,λx p h=>(by cases h),λr b h=>?_,λx p h=>(by cases h)⟩
 ·rw [hv] at h
  by_cases c:r=0
  ·rw [BP c] at h;cases h;subst c;exact⟨false,rfl,.here⟩
  ·rw [BL c] at h;cases h
 ·have h:aB _ _=_:=h;rw [hv] at h
  by_cases c:r=0
  ·exact .inl<|Ad.mpr c
  ·rw [BL c] at h;cases h
theorem cT.pop{n:Net}{ss:List Str}{kvs:List (Key×V)}{lf:List Nat}{h:Nat}(I:cT n ss none kvs<|lf++[h]):cT n ss (some (h,0)) kvs lf:=by
 refine⟨I.gI,I.num,I.val,I.fst,λr hr=>I.uc r<|Ba _ hr,λx p e=>?_,λr b hb=>?_,λx p e b hb p' gJ=>?_⟩
 ·cases e;exact I.uc h<|Ax _<|Ad.mpr rfl
 ·rcases I.cls r b hb with c | c | c
  ·rcases Am.mp c with c | c
   ·exact .inl c
   ·exact .inr<|.inl ⟨0,by rw [Ad.mp c]⟩
  ·obtain⟨p,e⟩:=c;cases e
  ·exact .inr<|.inr c
 ·cases e;exact absurd gJ<|Dy _
theorem cT.close{n:Net}{ss:List Str}{kvs:List (Key×V)}{lf:List Nat}{h p:Nat}(I:cT n ss (some (h,p)) kvs lf)(hp:(row n h).length<=p):cT n ss none kvs lf:=by
 refine⟨I.gI,I.num,I.val,I.fst,I.uc,λx p e=>(by cases e),λr b hb=>?_,λx p e=>(by cases e)⟩
 rcases I.cls r b hb with c | c | c
 ·exact .inl c
 ·obtain⟨p',e⟩:=c;cases e;exact .inr<|.inr λp' z hz=>I.EZ h p rfl b hb p' (Bg (f9 hz) hp) z hz
 ·exact .inr<|.inr c
theorem cT.step{n:Net}{ss:List Str}{kvs:List (Key×V)}{lf:List Nat}{h p:Nat}(I:cT n ss (some (h,p)) kvs lf){z:Str}{b:Bool}(hz:aK n (h,p)=some z)(hb:c8 kvs h b)(ht:c8 kvs (other n (h,p)).1<|b != decide (z∈ss)):cT n ss (some (h,p+1)) kvs lf:=by
 refine⟨I.gI,I.num,I.val,I.fst,I.uc,λx q e=>?_,λr c hc=>?_,λx q e c hc p' gJ y hy=>?_⟩
 ·cases e;exact⟨b,hb⟩
 ·rcases I.cls r c hc with k | k | k
  ·exact .inl k
  ·obtain⟨q,e⟩:=k;cases e;exact .inr<|.inl ⟨_,rfl⟩
  ·exact .inr<|.inr k
 ·cases e
  by_cases k:p' < p
  ·exact I.EZ h p rfl c hc p' k y hy
  ·have:p'=p:=by omega
   subst this;rw [hz] at hy;cases hy;have hc:aB _ _=_:=hc;rw [hb] at hc;cases hc;exact ht
theorem cT.way{n:Net}{ss:List Str}{kvs:List (Key×V)}{lf:List Nat}{hr:Option (Nat×Nat)}(I:cT n ss hr kvs lf){r p:Nat}{z:Str}{b:Bool}(hz:aK n (r,p)=some z)(hb:c8 kvs r b):Way (c7 n ss) (bI n) (aF n (other n (r,p)).1) (b != decide (z∈ss)):=by
 obtain⟨b',e,w⟩:=I.val r _ hb;cases e
 rcases (rG (n:=n) (ss:=ss)).to (r,p) z hz with t | t
 ·exact .there w t
 ·exact .back w t
theorem cT.new{n:Net}(T:ax n){ss:List Str}{kvs:List (Key×V)}{lf:List Nat}{h p:Nat}(I:cT n ss (some (h,p)) kvs lf){z:Str}{b:Bool}(hz:aK n (h,p)=some z)(hb:c8 kvs h b) (hn:aB kvs (Sum.inl ((other n (h,p)).1:Int))=none) :
  cT n ss (some (h,p+1)) (putK kvs (Sum.inl ((other n (h,p)).1:Int))<|.bl<|b != decide (z∈ss)) (lf++[(other n (h,p)).1]):=by
 have w:=I.way hz hb;have a7:=pK T hz;have E1:=OC hn;have dW:c8 (putK kvs (Sum.inl ((other n (h,p)).1:Int))<|.bl<|b != decide (z∈ss)) (other n (h,p)).1 (b != decide (z∈ss)):=by
  show aB _ _=_;rw [db,BP rfl]
 have up:∀{r:Nat} {c:Bool},c8 kvs r c->c8 (putK kvs (Sum.inl ((other n (h,p)).1:Int))<|.bl<|b != decide (z∈ss)) r c:=λ{r c} hc=>by
  show aB _ _=_;rw [db,BL λq=>?_]
  ·exact hc
  ·have hc:aB _ _=_:=hc;rw [q,hn] at hc;cases hc
 have dn:∀{r:Nat} {c:Bool},c8 (putK kvs (Sum.inl ((other n (h,p)).1:Int))<|.bl<|b != decide (z∈ss)) r c->r=(other n (h,p)).1\/c8 kvs r c:=λ{r c} hc=>by
  have hc:aB _ _=_:=hc;rw [db] at hc
  by_cases q:r=(other n (h,p)).1
  ·exact .inl q
  ·rw [BL<|OG q] at hc;exact .inr hc
 have I':cT n ss (some (h,p)) (putK kvs (Sum.inl ((other n (h,p)).1:Int))<|.bl<|b != decide (z∈ss)) (lf++[(other n (h,p)).1]):=by
  refine⟨?_,λk hk=>?_,λr v hv=>?_,?_,λr hr=>?_,λx q e=>?_,λr c hc=>?_,λx q e c hc p' gJ y hy=>?_⟩
  ·rw [EV,BL E1];exact mX I.gI E1
  ·rw [EV,BL E1] at hk
   rcases Am.mp hk with hk | hk
   ·exact I.num k hk
   ·exact⟨_,Ad.mp hk,a7⟩
  ·rw [db] at hv
   by_cases q:r=(other n (h,p)).1
   ·rw [BP<|by rw [q]] at hv;cases hv;exact⟨_,rfl,by rw [q];exact w⟩
   ·rw [BL<|OG q] at hv;exact I.val r v hv
  ·obtain⟨c,hc⟩:=I.fst;exact⟨c,up hc⟩
  ·rcases Am.mp hr with hr | hr
   ·obtain⟨c,hc⟩:=I.uc r hr;exact⟨c,up hc⟩
   ·rw [Ad.mp hr];exact⟨_,dW⟩
  ·obtain⟨c,hc⟩:=I.x4 x q e;exact⟨c,up hc⟩
  ·rcases dn hc with q | hc
   ·exact .inl<|Ax _<|by rw [q];exact Ad.mpr rfl
   ·rcases I.cls r c hc with k | k | k
    ·exact .inl<|Ba _ k
    ·exact .inr<|.inl k
    ·exact .inr<|.inr λp' y hy=>up<|k p' y hy
  ·rcases dn hc with q' | hc
   ·obtain⟨c',bP⟩:=I.x4 x q e;rw [q'] at bP;have:aB _ _=_:=bP;rw [hn] at this;cases this
   ·exact up<|I.EZ x q e c hc p' gJ y hy
 exact I'.step hz (up hb) dW
theorem cT.bad{n:Net}(T:ax n){ss:List Str}{kvs:List (Key×V)}{lf:List Nat}{hr:Option (Nat×Nat)}(I:cT n ss hr kvs lf){r p:Nat}{z:Str}{b c:Bool}(hz:aK n (r,p)=some z)(hb:c8 kvs r b)(hc:c8 kvs (other n (r,p)).1 c)(bw:c≠(b != decide (z∈ss))):∀ sd,¬ bC n ss sd:=λsd hs=>by
 obtain⟨c',e,w⟩:=I.val _ _ hc;cases e;have e1:=OB T rG hs w;have e2:=OB T rG hs<|I.way hz hb;exact bw<|by rw [<- e1,e2]
theorem rH{n:Net}(hn:(n.map (·.1)).Nodup){i j:Nat}(hi:i < n.length)(hj:j < n.length)(h:aF n i=aF n j):i=j:=by
 rw [i4 hi,i4 hj] at h;have:=(Ce.mp hn);rw [Bn] at this
 rcases QV i j with q | q | q
 ·exact absurd (by rw [Dq,Dq];exact h)<|this i j (by simpa using hi) (by simpa using hj) q
 ·exact q
 ·exact absurd (by rw [Dq,Dq];exact h.symm)<|this j i (by simpa using hj) (by simpa using hi) q
theorem cT.whole{n:Net}(T:ax n)(hg:dk n)(h0:0 < n.length)(hn:(n.map (·.1)).Nodup){ss sd:List Str}{kvs:List (Key×V)}(I:cT n ss none kvs [])(jv:∀ z∈ss,z∈ag n)(hs:cj sd)(hm:∀ x,x∈sd↔∃ r:Nat,c8 kvs r true/\x=aF n r):bC n ss sd:=by
 have ok:∀ r b,c8 kvs r b->∀ p z,aK n (r,p)=some z->c8 kvs (other n (r,p)).1 (b != decide (z∈ss)):=λr b hb=>by
  rcases I.cls r b hb with c | c | c
  ·cases c
  ·obtain⟨p,e⟩:=c;cases e
  ·exact c
 have all:∀ r,r < n.length->∃ b,c8 kvs r b:=λr hr=>by
  have:=hg (λx=>∃ i,i < n.length/\aF n i=x/\∃ b,c8 kvs i b) ⟨n[0],Bt h0,0,h0,i4 h0,I.fst⟩ (λr hr s hs t tr ts ⟨i,hi,e,b,hb⟩=>?_) n[r]<|Bt hr
  ·obtain⟨i,hi,e,hb⟩:=this;rw [<- i4 hr] at e;rw [<- rH hn hi hr e];exact hb
  ·obtain⟨k,hk,rfl⟩:=Cv.mp hr;obtain⟨j,hj,rfl⟩:=Cv.mp hs;rw [<- i4 hk] at e;have:=rH hn hi hk e;subst this;obtain⟨p,hp⟩:=Bp tr;obtain⟨q,hq⟩:=Bp ts;have h1:aK n (i,p)=some t:=by show(row n i)[p]?=_;rw [iZ hi];exact hp
   have h2:aK n (j,q)=some t:=by show(row n j)[q]?=_;rw [iZ hj];exact hq
   refine⟨j,hj,i4 hj,?_⟩
   rcases (kP T h1).mp h2 with e | e
   ·have:j=i:=BZ (·.1) e;subst this;exact⟨b,hb⟩
   ·have:=ok i b hb p t h1;rw [<- e] at this;exact⟨_,this⟩
 have pL:∀ r b,c8 kvs r b->decide (aF n r∈sd)=b:=λr b hb=>by
  rw [Cm,CK,hm]
  constructor
  ·rintro ⟨r',iB,e⟩;have:=rH hn (I.lt hb) (I.lt iB) e;subst this;have iB:aB _ _=_:=iB;rw [hb] at iB;cases iB;rfl
  ·rintro rfl;exact⟨r,hb,rfl⟩
 have hc:∀ z,z∈ss↔dv n sd z:=λz=>by
  have k:∀{e:End},aK n e=some z->(z∈ss↔dv n sd z):=λ{e} he=>by
   obtain⟨i,p⟩:=e;obtain⟨b,hb⟩:=all i<|cN he;rw [mh T he,pL i b hb,pL _ _<|ok i b hb p z he]
   by_cases h:z∈ss <;> cases b <;> simp [h]
  constructor
  ·intro h;obtain⟨e,he⟩:∃ e,e∈pos n z:=by
    cases hp:pos n z with
    | nil=>exact absurd hp<|cO.mp<|jv z h
    | cons a r=>exact⟨a,Ae ..⟩
   exact(k<|aM.mp he).mp h
  ·intro h;obtain⟨e,he,_⟩:=id h;exact(k he).mpr h
 obtain⟨b,hb⟩:=I.fst;obtain⟨b',e,w⟩:=I.val 0 _ hb;cases e;refine j9u T rG hs (λx hx=>?_) hc w ?_
 ·obtain⟨r,hr,e⟩:=(hm x).mp hx;rw [e];exact ju<|I.lt hr
 ·have:=pL 0 b hb;rw [<- this,CK];rfl
open PyProof.Rows (sortedS)
theorem k4r(a b c:List Str)(h:∀ z,z∈c↔(if z∈a then z∉b else z∈b)):∀ zs:List Str,(zs.filter λz=>c.contains z).length % 2=((zs.filter λz=>a.contains z).length+(zs.filter λz=>b.contains z).length) % 2
 | []=>rfl
 | z :: r=>by
  have ih:=k4r a b c h r;have hz:=h z;have ca:=λ(l:List Str)=>(Ck (as:=l) (a:=z));simp only [Dh]
  by_cases ha:z∈a <;> by_cases hb:z∈b
  ·have hc:z∉c:=λq=>by have:=hz.mp q;rw [BP ha] at this;exact this hb
   rw [BP<|(ca a).mpr ha,BP<|(ca b).mpr hb,BL λq=>hc<|(ca c).mp q,Aq,Aq];omega
  ·have hc:z∈c:=hz.mpr (by rw [BP ha];exact hb);rw [BP<|(ca a).mpr ha,BL λq=>hb<|(ca b).mp q,BP<|(ca c).mpr hc,Aq,Aq];omega
  ·have hc:z∈c:=hz.mpr (by rw [BL ha];exact hb);rw [BL λq=>ha<|(ca a).mp q,BP<|(ca b).mpr hb,BP<|(ca c).mpr hc,Aq,Aq];omega
  ·have hc:z∉c:=λq=>by have:=hz.mp q;rw [BL ha] at this;exact hb this
   rw [BL λq=>ha<|(ca a).mp q,BL λq=>hb<|(ca b).mp q,BL λq=>hc<|(ca c).mp q];exact ih
theorem gm{n:Net}{ss:List Str}:fm n ss=true↔∀ r∈n,(r.2.filter λz=>ss.contains z).length % 2=0:=by
 unfold fm;rw [Ee];exact⟨λh r hr=>by simpa using h r hr,λh r hr=>by simpa using h r hr⟩
theorem OI(k:Nat)(z:Str):∀(ts:List Str) (p:Nat),(bG (bu k ts p) z).length=ts.count z
 | [],p=>rfl
 | t :: r,p=>by
  have ih:=OI k z r<|p+1;have e:bu k (t :: r) p=(t,(k,p)) :: bu k r (p+1):=by unfold bu;rfl
  rw [e];unfold bG at ih ⊢;rw [Dh,Da]
  by_cases h:t=z
  ·rw [BP<|BW h,Bj,Aq,ih,BP<|by simpa using h]
  ·rw [BL λq=>h<|BX q,ih,BL<|by simpa using h];rfl
theorem k8y(a b:List<|Str×End)(z:Str):bG (a++b) z=bG a z++bG b z:=by
 unfold bG;rw [Cn,Aj]
theorem OL{k:Nat}{ts:List Str}{p:Nat}{z:Str}{e:End}(h:e∈bG (bu k ts p) z):e.1=k:=by
 unfold bG at h;obtain⟨x,hx,rfl⟩:=An.mp h;obtain⟨y,e⟩:=x;exact(bF.mp (Bh.mp hx).1).1
theorem OM(ps:List Str)(f:Nat->Str)(z:Str):∀(m:Net) (k:Nat),(∀(i:Nat) r,m[i]?=some r->f (k+i)=r.1)->((bG (fe k m) z).filter λe=>decide (f e.1∈ps)).length=(ag<|m.filter λr=>decide (r.1∈ps)).count z
 | [],k,_=>rfl
 | r :: m,k,h=>by
  have ih:=OM ps f z m (k+1) λi s hs=>by
   have:=h (i+1) s (by simpa using hs);rw [<- this]
   congr 1
   omega
  have e:fe k (r :: m)=bu k r.2 0++fe (k+1) m:=rfl;have hk:f k=r.1:=h 0 r rfl;rw [e,k8y,Cn,Af,ih,Dh]
  by_cases hr:r.1∈ps
  ·rw [BP<|BW hr];have:ag (r :: m.filter λr=>decide (r.1∈ps))=r.2++ag (m.filter λr=>decide (r.1∈ps)):=by unfold ag;rfl
   rw [this,Dk,List.filter_eq_self.mpr (λe he=>by rw [OL he,hk];exact BW hr),OI]
  ·rw [BL λq=>hr<|BX q];have:(bG (bu k r.2 0) z).filter (λe=>decide (f e.1∈ps))=[]:=Gb.mpr λe he q=>by
    rw [OL he,hk] at q;exact hr<|BX q
   rw [this];simp
theorem q5f{n:Net}(T:ax n)(ps:List Str)(z:Str):dv n ps z↔(ag<|n.filter λr=>decide (r.1∈ps)).count z % 2=1:=by
 have e:=OM ps (aF n) z n 0 λi r h=>by
  rw [Ex];unfold aF;rw [h];rfl
 rw [<- e];show dv n ps z↔((pos n z).filter λe=>decide (aF n e.1∈ps)).length % 2=1
 by_cases hz:z∈ag n
 ·obtain⟨a,ha⟩:∃ a,a∈pos n z:=by
   cases hp:pos n z with
   | nil=>exact absurd hp<|cO.mp hz
   | cons a r=>exact⟨a,Ae ..⟩
  obtain⟨x,y,hp,DL,hh⟩:=pc T<|aM.mp ha;have hl:nJ n (z,aF n x.1,aF n y.1):=⟨x,y,hp,rfl,rfl⟩;rw [show dv n ps z↔_ from xZ (ps:=ps) T hl,hp]
  by_cases h1:aF n x.1∈ps <;> by_cases h2:aF n y.1∈ps <;> simp [h1,h2]
 ·have hp:pos n z=[]:=DQ λh=>hz<|cO.mpr h;rw [hp];exact⟨λh=>absurd (xY h) hz,λh=>by cases h⟩
theorem OO{a:List Str}(hn:a.Nodup):∀ l:List Str,(l.filter λz=>a.contains z).length=(a.map λz=>l.count z).sum
 | []=>by
  have:∀ a:List Str,(a.map λz=>([]:List Str).count z).sum=0:=λa=>by
   induction a with
   | nil=>rfl
   | cons x r ih=>rw [Bj,Gi,ih];rfl
  rw [this];rfl
 | y :: l=>by
  have ih:=OO hn l;have key:∀ a:List Str,(a.map λz=>(y :: l).count z).sum=(a.map λz=>l.count z).sum+a.count y:=λa=>by
   induction a with
   | nil=>rfl
   | cons x r ih=>
    rw [Bj,Gi,ih,Bj,Gi,Da,Da]
    by_cases h:y=x
    ·rw [BP (by simp [h]),BP<|by simp [h]];omega
    ·rw [BL (by simpa using h),BL<|by simpa using λq=>h<|Eq.symm q];omega
  rw [key,Dh,<- ih,hn.count]
  by_cases h:y∈a
  ·rw [BP<|Ck.mpr h,BP h,Aq]
  ·rw [BL λq=>h<|Ck.mp q,BL h];rfl
theorem j6{n:Net}(T:ax n){ss:List Str}(hn:ss.Nodup)(hm:∀ z∈ss,z∈ag n):2 * ss.length<=(ag n).length:=by
 have h:=OO hn<|ag n;have e:∀ l:List Str,(∀ z∈l,z∈ag n)->(l.map λz=>(ag n).count z).sum=2 * l.length:=λl=>by
  induction l with
  | nil=>intro _;rfl
  | cons x r ih=>
   intro hl;rw [Bj,Gi,ih λz hz=>hl z<|Ai _ hz,T x<|hl x<|Ae ..,Aq];omega
 rw [e ss hm] at h;rw [<- h];exact Ct _ _
structure E3(n:Net)(cs:List Str):Prop where
 nK:cj cs
 cut:∃ ps,∀ z,z∈cs↔dv n ps z
theorem q78{x y:Str}(h:x≠y):x.cps.toList < y.cps.toList\/y.cps.toList < x.cps.toList:=by
 by_cases q:x.cps.toList < y.cps.toList
 ·exact .inl q
 ·rcases Gj.mp (List.not_lt.mp q) with q | q
  ·exact .inr q
  ·exact absurd (bM.fb q).symm h
theorem OQ(x:Str):∀ sd:List Str,cj sd->∃ g5,cj g5/\∀ y,y∈g5↔y=x\/y∈sd
 | [],_=>⟨[x],Eu _ _,λy=>by simp⟩
 | z :: r,h=>by
  have h:=Cr.mp h
  by_cases e:x=z
  ·subst e;exact⟨x :: r,Cr.mpr h,λy=>by simp⟩
  ·rcases q78 e with q | q
   ·refine⟨x :: z :: r,Cr.mpr ⟨λy hy=>?_,Cr.mpr h⟩,λy=>Ak⟩
    rcases Ak.mp hy with rfl | hy
    ·exact q
    ·exact Gh q<|h.1 y hy
   ·obtain⟨g5,hs,hm⟩:=OQ x r h.2;refine⟨z :: g5,Cr.mpr ⟨λy hy=>?_,hs⟩,λy=>?_⟩
    ·rcases (hm y).mp hy with rfl | hy
     ·exact q
     ·exact h.1 y hy
    ·rw [Ak,hm y,Ak];exact⟨λk=>by rcases k with k | k | k <;> simp [k],λk=>by rcases k with k | k | k <;> simp [k]⟩
theorem pM:∀ l:List Str,∃ sd,cj sd/\∀ x,x∈sd↔x∈l
 | []=>⟨[],List.Pairwise.nil,λ_=>Iff.rfl⟩
 | x :: r=>by
  obtain⟨sd,hs,hm⟩:=pM r;obtain⟨g5,iW,hm'⟩:=OQ x sd hs;exact⟨g5,iW,λy=>by rw [hm' y,hm y,Ak]⟩
theorem q1e{n:Net}(T:ax n)(h0:0 < n.length){cs:List Str}(h:E3 n cs):∃ sd,bC n cs sd:=by
 obtain⟨ps,hc⟩:=h.cut
 by_cases hf:bI n∈ps
 ·obtain⟨sd,hs,hm⟩:=pM ((n.map (·.1)).filter λx=>!decide (x∈ps));have hm:∀ x,x∈sd↔x∈n.map (·.1)/\x∉ps:=λx=>by
   rw [hm x,Bh,Bool.not_eq_true',IW]
  refine⟨sd,hs,λx hx=>((hm x).mp hx).1,λq=>((hm _).mp q).2 hf,λz=>(hc z).trans<|k57 T (λx hx=>?_) z⟩;rw [hm x];exact⟨λq=>q.2,λq=>⟨hx,q⟩⟩
 ·obtain⟨sd,hs,hm⟩:=pM ((n.map (·.1)).filter λx=>decide (x∈ps));have hm:∀ x,x∈sd↔x∈n.map (·.1)/\x∈ps:=λx=>by
   rw [hm x,Bh,CK]
  refine⟨sd,hs,λx hx=>((hm x).mp hx).1,λq=>hf ((hm _).mp q).2,λz=>(hc z).trans ?_⟩;have k:∀{e:End},aK n e=some z->(dv n ps z↔dv n sd z):=λ{e} he=>by
   rw [mh T he,mh T he];have a1:=hm<|aF n e.1;have a2:=hm<|aF n (other n e).1;have b1:=ju<|cN he;have b2:=ju<|pK T he;have c1:decide (aF n e.1∈sd)=decide (aF n e.1∈ps):=by rw [Cm,CK,CK,a1];exact⟨λq=>q.2,λq=>⟨b1,q⟩⟩
   have c2:decide (aF n (other n e).1∈sd)=decide (aF n (other n e).1∈ps):=by rw [Cm,CK,CK,a2];exact⟨λq=>q.2,λq=>⟨b2,q⟩⟩
   rw [c1,c2]
  constructor
  ·intro q;obtain⟨e,he,_⟩:=id q;exact(k he).mp q
  ·intro q;obtain⟨e,he,_⟩:=id q;exact(k he).mpr q
def HF(n:Net):Prop:=dk n/\Fl n
theorem q62{nm:Str}:HF [(nm,[])]:=⟨q1z _,Z4⟩
theorem k5q{n:Net}{c:End}{z pt:Str}(T:ax n)(F:Full n)(hz:z∉ag n)(hc:d6 n c) (hp:(ag<|ins n c z++[(pt,[z])]).Perm<|z :: z :: ag n) (P:HF n):HF (ins n c z++[(pt,[z])]):=
 ⟨k8v (EX P.1)<|q4r hc.1,Z5 T F hz hc hp P.2⟩
theorem q4a{n:Net}{k1 k2:End}{z:Str}(T:ax n)(F:Full n)(hz:z∉ag n)(h1:d6 n k1)(h2:d6 n k2) (hp:(ag<|ins (ins n k1 z) k2 z).Perm<|z :: z :: ag n) (ord:k2=k1\/sh k1 k2=k2) (same:(∃ k,it (step n) k k1=k2)\/∃ k,it (step n) k k2=k1) (P:HF n):HF (ins (ins n k1 z) k2 z):=
 ⟨EX<|EX P.1,Z6 T F hz h1 h2 hp ord same P.2⟩
theorem q5r{n n2 n0:Net}{j i:Nat}(hj:j < n.length)(hi:i < max 1 (row n j).length)(T0:ax n0)(pt:(ag n++ag n2).Perm<|ag n0)
  (gl:(ag (n.eraseIdx j)++ag (n2++[(n[j].1,(row n j).drop i++(row n j).take i)])).Perm<|ag n0) (P:HF<|n++n2):HF (n.eraseIdx j++(n2++[(n[j].1,(row n j).drop i++(row n j).take i)])):=by
 refine⟨Ox (λr hr=>?_) (λx hx=>?_) P.1,Z9 hj hi T0 pt gl P.2⟩
 ·rcases Am.mp hr with hx | hx
  ·rcases (bM.bK n j hj).symm.mem_iff.mp hx |> Ak.mp with q | q
   ·refine⟨(n[j].1,(row n j).drop i++(row n j).take i),Ax _<|Ax _<|Ad.mpr rfl,by rw [q],λt ht=>?_⟩;refine(DV (row n j) i).mem_iff.mpr ?_;rw [iZ hj,<- q];exact ht
   ·exact⟨r,Ba _ q,rfl,λt h=>h⟩
  ·exact⟨r,Ax _<|Ba _ hx,rfl,λt h=>h⟩
 ·rcases Am.mp hx with hx | hx
  ·exact⟨x,Ba _<|Ep hx,rfl⟩
  ·rcases Am.mp hx with hx | hx
   ·exact⟨x,Ax _ hx,rfl⟩
   ·rw [Ad] at hx;exact⟨n[j],Ba _<|Bt hj,by rw [hx]⟩
theorem ud(s:Str->Bool):∀ l:List Str,ao (l.map s)=decide ((l.filter s).length % 2=1)
 | []=>rfl
 | x :: l=>by
  show(s x ^^ ao (l.map s))=_;rw [ud s l,Dh];cases h:s x
  ·rw [BL (by decide),Fi]
  ·rw [BP rfl,Aq,Bool.true_xor,<- decide_not];exact decide_eq_decide.mpr<|by omega
theorem k67{n:Net}{s:Str->Bool}{ss:List Str}(h:dQ n s)(hs:∀ z∈ag n,ss.contains z=s z):fm n ss=true:=gm.mpr λr hr=>by
 obtain⟨i,hi,rfl⟩:=Cv.mp hr;have:=h i;rw [ud,iZ hi] at this;have e:(n[i].2.filter λz=>ss.contains z)=n[i].2.filter s:=List.filter_congr λz hz=>hs z<|Gg.mpr ⟨n[i],hr,hz⟩;rw [e];have:=HX this;omega
theorem iE{α:Type}:∀ l:List α,ao (l.map λ_=>false)=false
 | []=>rfl
 | _ :: l=>by show(false ^^ ao _)=false;rw [iE l];rfl
theorem E4(x:Nat)(e:End):∀ m,ao ((List.range m).map λp=>decide ((x,p)=e))=decide (x=e.1/\e.2 < m)
 | 0=>by simp [ao]
 | m+1=>by
  rw [Do,Aj,l9,E4 x e m];show(decide (x=e.1/\e.2 < m) ^^ (decide ((x,m)=e) ^^ false))=_;rw [Fj];obtain⟨a,b⟩:=e
  by_cases h:x=a
  ·by_cases h2:b=m
   ·subst h;subst h2;simp
   ·have e1:((x,m)=(a,b))=False:=by simp [h];omega
    rw [BR (p:=(x,m)=(a,b)) (by rw [e1];exact id),Fj];exact decide_eq_decide.mpr ⟨λq=>⟨q.1,by have:=q.2;omega⟩,λq=>⟨q.1,by have:=q.2;show b < m;omega⟩⟩
  ·rw [BR λq=>h q.1,BR λq=>h<|BZ Prod.fst q,BR λq=>h q.1];rfl
theorem OS{n:Net}(T:ax n){e:End}{t:Str}(h:aK n e=some t)(x:Nat):ao ((row n x).map λy=>decide (y=t))=(decide (x=e.1) ^^ decide (x=(other n e).1)):=by
 have o:=dG T h;rw [Ou n x (λy=>decide (y=t)) (λa=>decide (a=e) ^^ decide (a=other n e)) λp z hz=>?_]
 ·rw [gY (λp=>decide ((x,p)=e)) λp=>decide ((x,p)=other n e),E4,E4];have l1:=f9 h;have l2:=f9 o.1
  congr 1
  ·exact decide_eq_decide.mpr ⟨λq=>q.1,λq=>⟨q,by rw [q];exact l1⟩⟩
  ·exact decide_eq_decide.mpr ⟨λq=>q.1,λq=>⟨q,by rw [q];exact l2⟩⟩
 ·have hz:aK n (x,p)=some z:=hz
  by_cases q:z=t
  ·subst q
   rcases (kP T h).mp hz with k | k
   ·rw [k,BW rfl,BW rfl,BR<|CG o.2.2];rfl
   ·rw [k,BW rfl,BW rfl,BR o.2.2];rfl
  ·have h1:((x,p):End)≠e:=λk=>by rw [k,h] at hz;exact q (Option.some.inj hz).symm
   have h2:((x,p):End)≠other n e:=λk=>by rw [k,o.1] at hz;exact q (Option.some.inj hz).symm
   rw [BR q,BR h1,BR h2];rfl
end Nt
namespace E5
open PySem L2 Nt bN
def E6:Sp:=λvs H Q _=>∃(R:Addr) (as:List<|Addr×Addr) (n:Net) (b:Int) (z pt:Str),vs=[.ref R,.int b,.str z,.str pt]/\ai H R as n/\ax n/\Full n/\z∉ag n/\n.length<=100/\(ag n).length<=100 /\
 ∀ i pN n' H',ai H' R pN n'->pB H H' (R :: as.map (·.2))->(∀ a∈pN,a∈as\/H a.2=none)->(ag n').Perm (z :: z :: ag n)->(n'.map (·.1)=n.map (·.1)\/n'.map (·.1)=n.map (·.1)++[pt])->Full n'->(HF n->HF n')->Q (.int i) H'
section
variable{P:Program}{w:World}{K:PySem.W.Frag}{mg:Str->Option Value}{base:Heap}
abbrev NP:List Str:=["_law_rows","_law_big_here","_law_tie","_law_point","_law_corners","_law_r","_law_place","_law_one","_law_kind","_law_face_here","_law_other_here","_law_spot"]
theorem nN:ak NP ["_law_rows","_law_big_here","_law_tie","_law_point"] (a8 pv):=⟨rfl,rfl,rfl,by decide +kernel,rfl,by decide +kernel,by decide +kernel⟩
theorem OT{ts:List Addr}{j:Nat}{t:Addr}(h:ts[j]?=some t):dD (ts.map V.ref) (j:Int)=some (.ref t):=qG<|by rw [Ah,h];rfl
theorem q75{f:Addr}{fd:FuncData}(F:bE K "_law_put" "_law_put" pv f fd)(T:Txt mg)
  (GS:aO P w K mg base 3 "_law_seats" ["_law_rows"] nh)
  (GF:aO P w K mg base 3 "_law_face" ["_law_rows","_law_seats_here","_law_end"] DJ) :
  aI P w K mg base bB 4 f fd ["_law_rows","_law_big_here","_law_tie","_law_point"] E6:=by
 refine F.gb nN (λvs H Q E h=>?_) λb0 H vs Q E hr h=>?_
 ·obtain⟨R,as,n,b,z,pt,rfl,_⟩:=h;rfl
 obtain⟨R,as,n,b,z,pt,rfl,hR,hT,hF,hz,hn,htn,q⟩:=h;have nd:=nN.nd;have hu:=hr.fQ;have bY:=hR.len;show Run _ _ _ [some<|.ref R,some<|.int b,some<|.str z,some<|.str pt,none,none,none,none,none,none,none,none] H;refine aW 4 nd<|cY<|ay ⟨Z0,λlc OU=>?_⟩;have g0:=aS OU<|.lst [];refine kD T.range (bW cX T.len DK<|ah<|ae 0<|ay ⟨R,_,rfl,.inl<|aq.of<|g0 _ _ hR.lst,_,rfl,by omega,by rw [Aa];omega,?_⟩);rw [Aa,bY,Bc];refine kE (λr σ H3=>∃(ts:List Addr) (cs:List Nt.End) (u1 u2:Option V),aj H H3/\H3 lc=some (.lst<|ts.map V.ref)/\Pd H3 ts cs/\(∀ c∈cs,d6 n c)/\(0 < r->cs≠[])/\cs.length<=101 * r/\σ=[some<|.ref R,some<|.int b,some<|.str z,some<|.str pt,some<|.ref lc,u1,u2,none,none,none,none,none]) ⟨[],[],_,_,g0,aw,.nil,λc hc=>(nomatch hc),λh=>absurd h (by decide),Al _,rfl⟩ ?_ ?_
 ·rintro r σ H3 hi ⟨ts,cs,u1,u2,sH,el,ep,hc,bw,hlen,rfl⟩;rw [Dv];refine bf 5 nd ?_;obtain⟨a,ea,dj,et,ell,er⟩:=(hR.same sH).at hi;have fq:=iq n r;refine kD T.range<|bW (KP rfl) T.max UL<|ah<|aC<|ah<|bW cX T.len DK<|ah<|aU bJ<|aU cH<|ae 0<|ae 5 ⟨R,_,_,.ref a.1,rfl,rfl,aq.of<|sH _ _ hR.lst,dj,aC ⟨a.1,_,_,.ref a.2,rfl,rfl,aJ.of et,rfl,ay ⟨a.2,_,rfl,.inl<|aq.of ell,?_⟩⟩⟩;rw [Aa];have em:(if((row n r).length:Int) > 1 then((row n r).length:Int) else 1)=((max 1 (row n r).length:Nat):Int):=by
   split <;> omega
  refine ay ⟨1,_,rfl,((max 1 (row n r).length:Nat):Int),by rw [em],by omega,by omega,?_⟩;rw [Bc];refine kE (λp σ H4=>∃(ts:List Addr) (cs:List Nt.End) (u2:Option V),aj H H4/\H4 lc=some (.lst<|ts.map V.ref)/\Pd H4 ts cs/\(∀ c∈cs,d6 n c)/\(0 < r+p->cs≠[])/\cs.length<=101 * r+p/\σ=[some<|.ref R,some<|.int b,some<|.str z,some<|.str pt,some<|.ref lc,some<|.int (r:Int),u2,none,none,none,none,none]) ⟨ts,cs,_,sH,el,ep,hc,bw,hlen,rfl⟩ ?_ ?_
  ·rintro p σ H4 hp ⟨ts,cs,u2,sH,el,ep,hc,bw,hlen,rfl⟩;rw [Dv];refine bf 6 nd ?_;refine gC<|jr<|ae 4 ⟨lc,rfl,⟨_,el⟩,eF<|ah<|ae 5<|ah<|ae 6<|ay ⟨Z2,λt ht=>?_⟩⟩;have js:lc≠t:=bg el ht;have s2:=aS ht<|Tp (r,p);have E7:=ep.length;refine⟨ts.map V.ref,by rw [av js];exact el,by rw [Aa];exact bS (by omega),?_⟩;refine aY ⟨ts++[t],cs++[(r,p)],_,dN (sH.trans s2) OU,by rw [aw,Aj];rfl,?_,λc h=>?_,λ_=>by simp,by rw [Af];simp;omega,rfl⟩
   ·refine Pd.append (ep.keep λx e h=>?_)<|.cons ?_ .nil
    ·rw [av<|tO h el];exact s2 _ _ h
    ·rw [av js.symm,aw]
   ·rcases Am.mp h with h | h
    ·exact hc c h
    ·rw [Ad] at h;subst h;exact⟨hi,hp⟩
  ·rintro σ H4 ⟨ts,cs,u2,sH,el,ep,hc,bw,hlen,rfl⟩;refine aY ⟨ts,cs,_,_,sH,el,ep,hc,λ_=>bw (by omega),by omega,rfl⟩
 rintro σ H3 ⟨ts,cs,u1,u2,sH,el,ep,hc,bw,hlen,rfl⟩;have A2:0 < n.length:=Dj.mpr hF.some;have lg:=bw A2;have b9:0 < cs.length:=Dj.mpr lg;have E7:=ep.length;have m0:0<=b % (cs.length:Int):=Bw _ (by omega);have m1:b % (cs.length:Int) < cs.length:=Cc _ (by omega);obtain⟨j,hj⟩:∃ j:Nat,b % (cs.length:Int)=j:=⟨(b % (cs.length:Int)).toNat,by omega⟩;have nr:j < cs.length:=by omega
 have x5:cs[j]?=some cs[j]:=Ab nr;obtain⟨t1,pP,e1⟩:=ep.at x5;have hV:d6 n cs[j]:=hc _<|Bt nr;generalize cs[j]=c1 at e1 hV;refine aW 7 nd<|aU cH<|ae 4<|aZ cG<|ae 1<|bW cX T.len DK<|ah<|ae 4<|ay ⟨lc,_,rfl,.inl<|aq.of el,?_⟩;rw [Aa,E7];refine⟨_,_,rfl,rfl,by omega,lc,_,_,.ref t1,rfl,rfl,aq.of el,by rw [hj];exact OT pP,?_⟩;refine aW 1 nd<|aZ ic<|ae 1<|bW cX T.len DK<|ah<|ae 4<|ay ⟨lc,_,rfl,.inl<|aq.of el,?_⟩;rw [Aa,E7];refine⟨_,_,rfl,rfl,⟨by omega,by omega⟩,?_⟩;show Run _ _ _ [some<|.ref R,some<|.int<|b / (cs.length:Int),some<|.str z,some<|.str pt,some<|.ref lc,u1,u2,some<|.ref t1,none,none,none,none] H3;generalize b / (cs.length:Int)=b2;refine aW 8 nd (aZ cG<|ae 1<|aC ⟨_,_,rfl,rfl,(by show(0:Int) < 3;decide),?_⟩);refine aW 1 nd (aZ ic<|ae 1<|aC ⟨_,_,rfl,rfl,⟨by decide,by decide⟩,?_⟩);show Run _ _ _ [some<|.ref R,some<|.int<|b2 / 3,some<|.str z,some<|.str pt,some<|.ref lc,u1,u2,some<|.ref t1,some<|.int<|b2 % 3,none,none,none] H3;generalize b2 / 3=b3;have mj:=hR.same sH;obtain⟨a,ea,dj,eta,OV,era⟩:=mj.at hV.1;have OW:∀(m:Net),(ag m).length<=200->∀ i,(row m i).length<=200:=λm h i=>Bs (iq m i) h;have cin:c1.2<=(row n c1.1).length:=by
  have:=hV.2;omega
 refine du<|cb gN<|ae 8<|aC ⟨rfl,_,rfl,?_⟩;refine jM (λ_=>?_) λ_=>aY ?_
 ·
  have rl:=iq n c1.1;refine gC<|CF DY RJ RK MV<|aU bJ<|aU cH<|ae 0<|aU bJ<|ae 7<|aC ⟨t1,_,_,.int (c1.1:Int),rfl,rfl,aJ.of e1,rfl,R,_,_,.ref a.1,rfl,rfl,aq.of mj.lst,dj,aC ⟨a.1,_,_,.ref a.2,rfl,rfl,aJ.of eta,rfl,Or.inl ⟨rfl,_,aq.of OV⟩,?_⟩⟩;refine aU bJ (ae 7<|aC ⟨t1,_,_,.int (c1.2:Int),rfl,rfl,aJ.of e1,rfl,ae 2 ⟨a.2,_,_,_,rfl,rfl,OV,by omega,by rw [Bc,Aa];exact cin,by rw [Aa];exact bS (by omega),?_⟩⟩);rw [Bc,Nj];have R4:=mj.ins (z:=z) ea hV.1;refine gC<|jr<|ae 0 ⟨R,rfl,⟨_,R4.lst⟩,eF<|ah<|ae 3<|ah<|cY<|ah<|ae 2<|ay ⟨Z1,λl1 fZ=>?_⟩⟩;refine ay ⟨Z2,λt2 kH=>?_⟩;have s5:=aS fZ<|Ls [z];have s6:=aS kH<|.tup [.str pt,.ref l1];have R6:=(R4.same s5).same s6;refine⟨_,R6.lst,by rw [Aa];exact bS (by omega),?_⟩;have l1f:H3 l1=none:=by
   by_cases q1:l1=a.2
   ·rw [q1,aw] at fZ;cases fZ
   ·rwa [av q1] at fZ
  have l1n:l1∉as.map (·.2):=λhm=>by
   obtain⟨x,hx,e⟩:=An.mp hm;exact R4.fresh fZ hx e.symm
  have l1R:l1≠R:=λe=>by rw [e,R4.lst] at fZ;cases fZ
  have R7:=R6.more (t:=t2) (l:=l1) (pt:=pt) (zs:=[z]) aw (s6 _ _ aw) l1n l1R;have tp:(ag<|ins n c1 z++[(pt,[z])]).Perm (z :: z :: ag n):=by
   unfold ag;rw [Er];show(ag (ins n c1 z)++[z]).Perm _;exact(Cf).trans<|(kL n c1 z hV.1).cons z
  refine bO<|ae 1<|q _ _ _ _ R7 (λx o hx j7=>?_) (λx hx=>?_) tp (.inr ?_) ?_ λhP=>k5q hT hF hz hV tp hP
  ·have x1:x≠R:=λe=>j7 (by rw [e];exact Ae);have x2:x≠a.2:=λe=>j7 (Ai _<|by rw [e];exact An.mpr ⟨a,Ap ea,rfl⟩);rw [av x1];refine s6 _ _<|s5 _ _ ?_;rw [av x2];exact sH _ _ hx
  ·rcases Am.mp hx with hx | hx
   ·exact .inl hx
   ·rw [Ad] at hx;subst hx;exact .inr<|sH.free l1f
  ·rw [Aj,DM];rfl
  ·refine .inr ⟨by simp,λi hi=>?_⟩;have hfi:=(DS (z:=z) hF hV.1 hF.either).1;rw [Af] at hi;simp at hi
   rcases Dg i (ins n c1 z).length with h | h
   ·have:=hfi i h;unfold row at this ⊢;rw [As h];exact this
   ·unfold row;rw [Az h,show i - (ins n c1 z).length=0 by omega];simp
 ·
  refine aW 9 nd<|cY<|ah<|ae 7<|ay ⟨Z1,λlf OX=>?_⟩;have s4:=aS OX<|.lst [.ref t1];have sH4:=sH.trans s4;have pQ:=mj.same s4;obtain⟨a0,ea0,E8,et0,OY,er0⟩:=pQ.at A2;have lf0:∀ x∈as,lf≠x.2:=λx hx=>mj.fresh OX hx;show Run _ _ _ [some<|.ref R,some<|.int b3,some<|.str z,some<|.str pt,some<|.ref lc,u1,u2,some<|.ref t1,some<|.int<|b2 % 3,some<|.ref lf,none,none] (upd H3 lf<|.lst [.ref t1]);refine MY (λk H'=>aj (upd H3 lf<|.lst [.ref t1]) H'/\(k=true->row n 0≠[])) (λσ' H'=>∃(lf:Addr) (kK:List Addr) (fs:List Nt.End),aj H3 H'/\(∀ x∈as,lf≠x.2)/\H' lf=some (.lst<|kK.map V.ref)/\Pd H' kK fs/\0 < fs.length/\fs.length<=1000/\(∀ c∈fs,d6 n c/\∃ k,it (step n) k c1=c) /\
   σ'=[some<|.ref R,some<|.int b3,some<|.str z,some<|.str pt,some<|.ref lc,u1,u2,some<|.ref t1,some<|.int<|b2 % 3,some<|.ref lf,none,none]) ?_ ?_ (λH5 ⟨s5,_⟩=>aY ⟨lf,[t1],[c1],s4.trans s5,lf0,s5 _ _ aw,.cons (s5 _ _<|s4 _ _ e1) .nil,Fg,by show 1<=1000;decide,λc gK=>by rw [Ad] at gK;rw [gK];exact⟨hV,0,rfl⟩,rfl⟩) ?_
  ·refine cb (tN hu)<|aU bJ<|aU cH<|ae 0<|aC ⟨R,_,_,.ref a0.1,rfl,rfl,aq.of pQ.lst,E8,aC ⟨a0.1,_,_,.ref a0.2,rfl,rfl,aJ.of et0,rfl,cY<|ay ⟨Z0,λp hp=>?_⟩⟩⟩;have s5:=aS hp<|.lst []
   by_cases h0:row n 0=[]
   ·refine⟨1,_,by decide,B9 (k:=0) (xs:=[]) (ys:=[]) (λ_=>true) (aq.of<|by rw [s5 _ _ OY,h0];rfl) (aq.of aw) rfl (λj x y hx _=>by simp at hx),_,rfl,s5,λh=>by cases h⟩
   ·refine⟨1,_,by decide,CA (k:=1) (aq.of<|s5 _ _ OY) (aq.of (xs:=[]) aw) (by rw [Aa];intro h;exact h0<|Bk.mp h),_,rfl,s5,λ_=>h0⟩
  ·rintro H4 ⟨E9,h0⟩;have h0:=h0 rfl;have pQ:=pQ.same E9;have xW:=hF.cF h0 hV;have rJ:=jt n;refine aW 9 nd (bn GF hr<|ah<|ae 0<|ah<|bn GS hr<|ah<|ae 0<|ay ⟨R,as,n,rfl,pQ,by omega,by omega,λd ks H5 s5 n5 S5=>?_⟩);refine ah (ae 7<|ay ⟨R,d,t1,as,n,ks,c1,rfl,pQ.same s5,S5,hT,s5 _ _<|E9 _ _<|s4 _ _ e1,xW,by omega,λl6 ts6 fs6 H6 s6 n6 e6 p6 f6=>?_⟩);exact aY ⟨l6,ts6,fs6,s4.trans<|E9.trans<|s5.trans s6,λx hx=>(pQ.same s5).fresh n6 hx,e6,p6,f6.pos,by have:=f6.len;omega,λc gK=>⟨Yr<|f6.ends hT xW c gK,ZS f6 gK⟩,rfl⟩
  ·rintro σ' H5 ⟨lf,kK,fs,s5,lfn,E',BI,x0a,x0b,FA,rfl⟩;have uf:=BI.length;have n0:0<=b3 % (fs.length:Int):=Bw _ (by omega);have n1:b3 % (fs.length:Int) < fs.length:=Cc _ (by omega);obtain⟨j2,fB⟩:∃ j:Nat,b3 % (fs.length:Int)=j:=⟨(b3 % (fs.length:Int)).toNat,by omega⟩;have ug:j2 < fs.length:=by omega
   have FC:fs[j2]?=some fs[j2]:=Ab ug;obtain⟨t2,i5,e2⟩:=BI.at FC;obtain⟨pR,iF⟩:=FA _<|Bt ug;generalize fs[j2]=c2 at e2 pR iF;have oS:=s5 _ _ e1;refine aW 10 nd<|aU cH<|ae 9<|aZ cG<|ae 1<|bW cX T.len DK<|ah<|ae 9<|ay ⟨lf,_,rfl,.inl<|aq.of E',?_⟩;rw [Aa,uf];refine⟨_,_,rfl,rfl,by omega,lf,_,_,.ref t2,rfl,rfl,aq.of E',by rw [fB];exact OT i5,?_⟩;have uh:=mj.same s5;show Run _ _ _ [some<|.ref R,some<|.int b3,some<|.str z,some<|.str pt,some<|.ref lc,u1,u2,some<|.ref t1,some<|.int<|b2 % 3,some<|.ref lf,some<|.ref t2,none] H5;refine iS<|X1 T.sorted<|cY<|ah<|ae 7<|ah<|ae 10<|ay ⟨Z2,λl2 fN=>?_⟩;have s6:=aS fN<|.lst [.ref t1,.ref t2];refine⟨l2,t1,t2,(c1.1:Int),(c1.2:Int),(c2.1:Int),(c2.2:Int),rfl,aw,s6 _ _ oS,s6 _ _ e2,λrr OZ=>?_⟩;have rn:∀ x∈as,rr≠x.2:=λx hx=>(uh.same s6).fresh OZ hx;obtain⟨x1,x2,k1,k2,gG,f1,f2,q1,q2,FD,ui⟩:∃ x1 x2 k1 k2,(if lexLt ((c1.1:Int),(c1.2:Int)) ((c2.1:Int),(c2.2:Int))=true then [V.ref t2,.ref t1] else [.ref t1,.ref t2])=[.ref x1,.ref x2]/\(upd H5 l2<|.lst [.ref t1,.ref t2]) x1=some (Tp k1)/\(upd H5 l2<|.lst [.ref t1,.ref t2]) x2=some (Tp k2)/\d6 n k1/\d6 n k2/\(k2=k1\/sh k1 k2=k2)/\((∃ k,it (step n) k k1=k2)\/∃ k,it (step n) k k2=k1):=by
    cases O0:lexLt ((c1.1:Int),(c1.2:Int)) ((c2.1:Int),(c2.2:Int)) with
    | true=>exact⟨t2,t1,c2,c1,rfl,s6 _ _ e2,s6 _ _ oS,pR,hV,.inr<|ZP O0,.inr iF⟩
    | false=>exact⟨t1,t2,c1,c2,rfl,s6 _ _ oS,s6 _ _ e2,hV,pR,ZQ O0,.inl iF⟩
   rw [gG];have s7:=aS OZ<|.lst [.ref x1,.ref x2];have f1:=s7 _ _ f1;have f2:=s7 _ _ f2;have s6:=s6.trans s7;have fr:=aw (H:=upd H5 l2<|.lst [.ref t1,.ref t2]) (a:=rr) (o:= .lst [.ref x1,.ref x2]);generalize upd (upd H5 l2<|.lst [.ref t1,.ref t2]) rr (.lst [.ref x1,.ref x2])=H6 at f1 f2 s6 fr ⊢;have uj:aj H H6:=sH.trans<|s5.trans s6;have FE:=uh.same s6;have uk:pB H H6 (R :: as.map (·.2)):=λx o hx _=>uj _ _ hx;refine⟨rr,rfl,⟨_,aq.of fr⟩,iT (xs:=[.ref x1,.ref x2]) (λi σ H7=>∃(m:Net) (u:Option V),ai H7 R as m/\pB H H7 (R :: as.map (·.2))/\H7 rr=some (.lst [.ref x1,.ref x2])/\H7 lf=some (.lst<|kK.map V.ref)/\H7 x1=some (Tp k1)/\H7 x2=some (Tp k2) /\
    ((i=0/\m=n)\/(i=1/\m=ins n k1 z)\/(i=2/\m=ins (ins n k1 z) k2 z))/\σ=[some<|.ref R,some<|.int b3,some<|.str z,some<|.str pt,some<|.ref lc,u1,u2,some<|.ref t1,some<|.int<|b2 % 3,some<|.ref lf,some<|.ref t2,u]) ⟨n,_,FE,uk,fr,s6 _ _ E',f1,f2,.inl ⟨rfl,rfl⟩,rfl⟩ ?_ ?_ ?_⟩
   ·rintro i σ H7 _ ⟨m,u,_,_,x6,_⟩;exact aq.of x6
   ·rintro i v σ H7 hv ⟨m,u,pS,ul,x6,FG,g1,g2,hm,rfl⟩;have ti1:=(kL n k1 z q1.1).length_eq;rw [Aq] at ti1;obtain⟨y,k,rfl,hy,hk,iG,hml⟩:∃ y k,v = .ref y/\H7 y=some (Tp k)/\d6 m k/\((i+1=0/\ins m k z=n)\/(i+1=1/\ins m k z=ins n k1 z)\/(i+1=2/\ins m k z=ins (ins n k1 z) k2 z))/\(ag m).length<=200:=by
     rcases hm with ⟨rfl,rfl⟩ | ⟨rfl,rfl⟩ | ⟨rfl,rfl⟩
     ·cases hv;exact⟨x1,k1,rfl,g1,q1,.inr<|.inl ⟨rfl,rfl⟩,by omega⟩
     ·cases hv;exact⟨x2,k2,rfl,g2,xJ q2 q1.1,.inr<|.inr ⟨rfl,rfl⟩,by omega⟩
     ·simp at hv
    refine bf 11 nd ?_;obtain⟨a',O1,FH,FI,mq,x0c⟩:=pS.at hk.1;have rl:=iq m k.1;have sn:k.2<=(row m k.1).length:=by
     have:=hk.2;omega
    refine gC<|CF DY RJ RK MV<|aU bJ<|aU cH<|ae 0<|aU bJ<|ae 11<|aC ⟨y,_,_,.int (k.1:Int),rfl,rfl,aJ.of hy,rfl,R,_,_,.ref a'.1,rfl,rfl,aq.of pS.lst,FH,aC ⟨a'.1,_,_,.ref a'.2,rfl,rfl,aJ.of FI,rfl,Or.inl ⟨rfl,_,aq.of mq⟩,?_⟩⟩;refine aU bJ (ae 11<|aC ⟨y,_,_,.int (k.2:Int),rfl,rfl,aJ.of hy,rfl,ae 2 ⟨a'.2,_,_,_,rfl,rfl,mq,by omega,by rw [Bc,Aa];exact sn,by rw [Aa];exact bS (by omega),?_⟩⟩);rw [Bc,Nj];have am:a'∈as:=Ap O1;refine aY ⟨ins m k z,_,pS.ins O1 hk.1,λx o hx j7=>?_,by rw [av<|rn a' am];exact x6,by rw [av<|lfn a' am];exact FG,by rw [av<|tO g1 mq];exact g1,by rw [av<|tO g2 mq];exact g2,iG,rfl⟩;have x2:x≠a'.2:=λe=>j7 (Ai _<|by rw [e];exact An.mpr ⟨a',am,rfl⟩);rw [av x2];exact ul x o hx j7
   ·rintro σ H7 ⟨m,u,pS,ul,x6,FG,g1,g2,hm,rfl⟩;have em:m=ins (ins n k1 z) k2 z:=by
     rcases hm with ⟨h,_⟩ | ⟨h,_⟩ | ⟨_,h⟩
     ·exact absurd h<|by show ¬(2=0);decide
     ·exact absurd h<|by show ¬(2=1);decide
     ·exact h
    refine bO<|aZ ic<|ae 1<|bW cX T.len DK<|ah<|ae 9<|ay ⟨lf,_,rfl,.inl<|aq.of FG,?_⟩;rw [Aa,uf];refine⟨_,_,rfl,rfl,⟨by omega,by omega⟩,?_⟩;have fi:=DS (z:=z) hF q1.1 hF.either;have F2:Full (ins n k1 z):= .inr ⟨fi.2,fi.1⟩;have O2:=DS (z:=z) F2 (xJ (z:=z) q2 q1.1).1 F2.either;subst em;exact q _ as _ H7 pS ul (λx hx=> .inl hx) ((kL _ k2 z (xJ (z:=z) q2 q1.1).1).trans<|(kL n k1 z q1.1).cons z) (.inl<|by rw [DM,DM]) (.inr ⟨O2.2,O2.1⟩) λhP=>q4a hT hF hz q1 q2 ((kL _ k2 z (xJ (z:=z) q2 q1.1).1).trans<|(kL n k1 z q1.1).cons z) FD ui hP
def FK:Sp:=λvs H Q _=>∃(b m sm:Int),vs=[.int b,.int m,.int sm]/\0<=m/\m<=35 /\
 ∀ L as n H',aj H H'->H L=none->ai H' L as n->ax n->(n.map (·.1)).Nodup->Full n->HF n->(ag n).length<=2 * m.toNat->n.length<=m.toNat+1->(∀ a∈as,H a.2=none)->Q (.ref L) H'
abbrev NB:List Str:=["_law_big_here","_law_most","_law_stem","_law_many","_law_ties","_law_points","_law_rows","_law_k","_law_told","_law_row","_law_size"]
theorem nO:ak NB ["_law_big_here","_law_most","_law_stem"] (a8 px):=⟨rfl,rfl,rfl,by decide +kernel,rfl,by decide +kernel,by decide +kernel⟩
theorem q8f{H:Hp}{d:Addr}{xs:List V}(h:H d=some (.lst xs)):lq K "list" (.ref d) H:=Or.inl ⟨rfl,xs,aq.of h⟩
theorem ju{b:Int}{m i:Nat}(h:i < m):dD ((namesOf b m).map V.str) (i:Int)=some (.str<|aP b i):=pf<|Yc h
theorem q7a{f:Addr}{fd:FuncData}(F:bE K "_law_net_by" "_law_net_by" px f fd)(T:Txt mg)
  (GN:aO P w K mg base 4 "_law_names" ["_law_stem","_law_many"] DH)
  (GP:aO P w K mg base 4 "_law_put" ["_law_rows","_law_big_here","_law_tie","_law_point"] E6) :
  aI P w K mg base bB 5 f fd ["_law_big_here","_law_most","_law_stem"] FK:=by
 refine F.gb nO (λvs H Q E h=>?_) λb0 H vs Q E hr h=>?_
 ·obtain⟨b,m,sm,rfl,_⟩:=h;rfl
 obtain⟨b,m,sm,rfl,m0,m35,q⟩:=h;have nd:=nO.nd;have hu:=hr.fQ;have k0:0<=b % (m+1):=Bw _ (by omega);have k1:b % (m+1) < m+1:=Cc _ (by omega);obtain⟨mn,hmn⟩:∃ k:Nat,b % (m+1)=k:=⟨(b % (m+1)).toNat,by omega⟩;have hmm:mn<=m.toNat:=by omega
 show Run _ _ _ [some<|.int b,some<|.int m,some<|.int sm,none,none,none,none,none,none,none,none] H;refine aW 3 nd<|aZ cG<|ae 0<|aZ fI<|ae 1<|aC ⟨_,_,rfl,rfl,?_⟩;refine⟨_,_,rfl,rfl,(by show 0 < m+1;omega),?_⟩;refine aW 0 nd<|aZ ic<|ae 0<|aZ fI<|ae 1<|aC ⟨_,_,rfl,rfl,?_⟩;refine⟨_,_,rfl,rfl,(by show sI b (m+1);exact⟨by omega,by omega⟩),?_⟩;show Run _ _ _ [some<|.int<|b / (m+1),some<|.int m,some<|.int sm,some<|.int<|b % (m+1),none,none,none,none,none,none,none] H;rw [hmn];generalize b / (m+1)=b1;refine aW 4 nd (bn GN hr<|ah<|ae 2<|ah<|ae 3<|ay ⟨sm,(mn:Int),rfl,by omega,by omega,λlt H1 s1 n1 e1=>?_⟩);rw [Bc] at e1;refine aW 5 nd (bn GN hr<|ah<|aU cH<|cY<|ah<|aZ fI<|aZ ic<|ae 2<|aC ⟨_,_,rfl,rfl,⟨by decide,by decide⟩,aC ⟨_,_,rfl,rfl,ah<|ae 2<|ay ⟨Z2,λp hp=>?_⟩⟩⟩);refine lG MX T.tQ UG (ah<|kA gN<|aZ cG<|ae 2<|aC ⟨_,_,rfl,rfl,(by show(0:Int) < 4;decide),aC ⟨rfl,ay ⟨_,rfl,?_⟩⟩⟩);have s2:=aS hp<|.lst [.int<|sm / 3+1,.int sm];obtain⟨jw,ex⟩:∃ jw:Int,dD [V.int<|sm / 3+1,.int sm] (if decide (V.int (sm % 4)=V.int 1)=true then 1 else 0)=some (.int jw):=by
  cases decide (V.int (sm % 4)=V.int 1) with
  | true=>exact⟨sm,rfl⟩
  | false=>exact⟨sm / 3+1,rfl⟩
 refine⟨p,_,_,.int jw,rfl,rfl,aq.of aw,ex,?_⟩;refine ah (aZ fI<|ae 3<|aC ⟨_,_,rfl,rfl,ay ⟨jw,(mn:Int)+1,rfl,by omega,by omega,λlp H2 s3 n3 e3=>?_⟩⟩);have em:((mn:Int)+1).toNat=mn+1:=by omega
 rw [em] at e3;have um:aj H H2:=s1.trans<|s2.trans s3;have e1:H2 lt=some (Ls<|namesOf sm mn):=s3 _ _<|s2 _ _ e1;show Run _ _ _ [some<|.int b1,some<|.int m,some<|.int sm,some<|.int (mn:Int),some<|.ref lt,some<|.ref lp,none,none,none,none,none] H2;refine aW 6 nd<|cY<|ah<|eF<|ah<|aU cH<|ae 5<|aC ⟨lp,_,_,.str<|aP jw 0,rfl,rfl,aq.of e3,ju<|Fy _,ah<|cY<|ay ⟨Z0,λl1 fZ=>?_⟩⟩;refine ay ⟨Z2,λt1 ht1=>ay ⟨Z1,λR O3=>?_⟩⟩;have s4:=aS fZ<|Ls [];have s5:=aS ht1<|.tup [.str<|aP jw 0,.ref l1];have s6:=aS O3<|.lst [.ref t1];have hR0:ai (upd (upd (upd H2 l1<|.lst []) t1<|.tup [.str<|aP jw 0,.ref l1]) R<|.lst [.ref t1]) R [(t1,l1)] [(aP jw 0,[])]:=by
  refine⟨rfl,aw,λi a r h1 h2=>?_,by simp⟩;cases i with
  | zero=>
   cases h1;cases h2;exact⟨s6 _ _ aw,s6 _ _<|s5 _ _ aw⟩
  | succ i=>simp at h1
 have fR:H2 R=none:=s4.free<|s5.free O3;show Run _ _ _ [some<|.int b1,some<|.int m,some<|.int sm,some<|.int (mn:Int),some<|.ref lt,some<|.ref lp,some<|.ref R,none,none,none,none] (upd (upd (upd H2 l1<|.lst []) t1<|.tup [.str<|aP jw 0,.ref l1]) R<|.lst [.ref t1]);refine kD T.range (ae 3 ⟨(mn:Int),rfl,by omega,by omega,?_⟩);rw [Bc];refine kE (λk σ H3=>∃(as:List<|Addr×Addr) (n:Net) (b:Int) (u:Option V),ai H3 R as n/\aj H2 H3/\(∀ a∈as,H2 a.2=none)/\Full n/\HF n/\(ag n).Perm (dbl<|namesOf sm k)/\n.map (·.1)=namesOf jw n.length/\n.length<=k+1 /\
  σ=[some<|.int b,some<|.int m,some<|.int sm,some<|.int (mn:Int),some<|.ref lt,some<|.ref lp,some<|.ref R,u,none,none,none]) ⟨_,_,b1,_,hR0,s4.trans<|s5.trans s6,λa ha=>by rw [Ad] at ha;rw [ha];exact fZ,.inl ⟨_,rfl⟩,q62,List.Perm.refl _,rfl,Al _,rfl⟩ ?_ ?_
 ·rintro k σ H3 hk ⟨as,n,b,u,hR,sH,qO,hF,x8,hp,x9,hlen,rfl⟩;rw [Dv];refine bf 7 nd ?_;have bY:=hR.len;have tl:=hp.length_eq;rw [DU,CO] at tl;have nz:aP sm k∉ag n:=λh=>by
   have h1:=iz.mp<|hp.mem_iff.mp h;have h2:=xl (b:=sm) (m:=k+1) (by omega);rw [xm,Ci] at h2;exact h2.2.2 _ h1 _ (Ad.mpr rfl) rfl
  have n0:0 < n.length:=Dj.mpr hF.some;refine aW 0 nd<|bn GP hr<|ah<|ae 6<|ah<|ae 0<|ah<|aU cH<|ae 4<|ae 7 ⟨lt,_,_,.str<|aP sm k,rfl,rfl,aq.of<|sH _ _ e1,ju hk,?_⟩;refine ah<|aU cH<|ae 5<|bW cX T.len DK<|ah<|ae 6<|ay ⟨R,_,rfl,.inl<|aq.of hR.lst,?_⟩;rw [Aa,bY];refine⟨lp,_,_,.str<|aP jw n.length,rfl,rfl,aq.of<|sH _ _ e3,ju (by omega),?_⟩;refine ay ⟨R,as,n,b,aP sm k,aP jw n.length,rfl,hR,Nk (xl<|by omega) hp,hF,nz,by omega,by omega,λi pN n' H' hR' kp FL gJ uo hF' FO=>?_⟩;have sH':aj H2 H':=λx o hx=>by
   refine kp x o (sH _ _ hx) λhm=>?_
   rcases Ak.mp hm with h | h
   ·rw [h,fR] at hx;cases hx
   ·obtain⟨y,hy,e⟩:=An.mp h;rw [<- e,qO y hy] at hx;cases hx
  refine aY ⟨pN,n',i,_,hR',sH',λy hy=>?_,hF',FO x8,?_,?_,?_,rfl⟩
  ·rcases FL y hy with h | h
   ·exact qO y h
   ·exact sH.free h
  ·refine gJ.trans ?_;rw [xm,Yu];refine List.Perm.trans ?_ Cf;exact((hp.cons _).cons _)
  ·rcases uo with h | h
   ·have hl:=BZ List.length h;rw [Aa,Aa] at hl;rw [h,hl];exact x9
   ·have hl:=BZ List.length h;rw [Aa,Af,Aa] at hl;have eY:n'.length=n.length+1:=hl;rw [h,eY,xm,x9]
  ·rcases uo with h | h
   ·have hl:=BZ List.length h;rw [Aa,Aa] at hl;omega
   ·have hl:=BZ List.length h;rw [Aa,Af,Aa] at hl;have eY:n'.length=n.length+1:=hl;omega
 rintro σ H3 ⟨as0,n0,b,u,hR,sH,qO,hF,FR,hp,x9,hlen,rfl⟩;have tl:=hp.length_eq;rw [DU,CO] at tl;have O4:ax n0:=Nk (xl<|by omega) hp;have hN0:(n0.map (·.1)).Nodup:=by rw [x9];exact xl<|by omega
 refine aW 8 nd<|cY<|ay ⟨Z0,λL hL=>?_⟩;have s7:=aS hL<|.lst [];have O5:R≠L:=bg hR.lst hL;have fL:H2 L=none:=sH.free hL;have ya:ai (upd H3 L<|.lst []) L [] []:=⟨rfl,aw,λi a r h1=>by simp at h1,by simp⟩;refine xa (λk σ H4=>∃(as nP:List<|Addr×Addr) (n n2:Net) (b:Int) (u9 O6:Option V),k=n.length/\ai H4 R as n/\ai H4 L nP n2/\aj H2 H4/\(∀ a∈as,a.2≠L)/\(∀ a∈nP,a.2≠R)/\(∀ a∈nP,H2 a.2=none)/\n.length+n2.length=n0.length /\
   (ag n++ag n2).Perm (ag n0)/\(n.map (·.1)++n2.map (·.1)).Perm (n0.map (·.1))/\(NE n0->NE n/\NE n2)/\HF (n++n2) /\
   σ=[some<|.int b,some<|.int m,some<|.int sm,some<|.int (mn:Int),some<|.ref lt,some<|.ref lp,some<|.ref R,u,some<|.ref L,u9,O6])
  (m0:=n0.length) ⟨as0,[],n0,[],b,_,_,rfl,hR.same s7,ya,sH.trans s7,λa ha=>(hR.fresh hL ha).symm,λa ha=>(nomatch ha),λa ha=>(nomatch ha),rfl,by simp [ag],by simp,λh=>⟨h,λr hr=>(nomatch hr)⟩,by rw [Bi];exact FR,rfl⟩ ?_
 rintro k σ H4 ⟨as,nP,n,n2,b,u9,O6,rfl,hR,rK,sH,aL,aR,O7,uq,pt,pn,bw,x8,rfl⟩;have bY:=hR.len;have FU:=rK.len;have x0e:(ag n).length<=70:=by
  have:=pt.length_eq;rw [Af] at this;omega
 refine cb (tN hu)<|ae 6<|cY<|ay ⟨Z0,λp iP=>?_⟩;have s8:=aS iP<|.lst []
 by_cases h0:n=[]
 ·subst h0;have ea:as=[]:=Bk.mp (by simpa using bY);subst ea;refine⟨1,_,by decide,B9 (k:=0) (xs:=[]) (ys:=[]) (λ_=>true) (aq.of<|s8 _ _ hR.lst) (aq.of aw) rfl (λj x y hx _=>by simp at hx),_,rfl,bj<|bO<|ae 8 ?_⟩;have gl:(ag n2).Perm (ag n0):=pt;have pn':(n2.map (·.1)).Perm (n0.map (·.1)):=pn;have l2:n2.length=n0.length:=by simpa using uq
  refine q L nP n2 _ (um.trans<|sH.trans s8) (um.free fL) (rK.same s8) (λz hz=>?_) (pn'.nodup_iff.mpr hN0) ?_ x8 (by rw [gl.length_eq];omega) (by omega) λa ha=>um.free<|O7 a ha
  ·rw [gl.count_eq];exact O4 z<|gl.mem_iff.mp hz
  ·rcases hF.ne with ⟨nm,h⟩ | h
   ·subst h;have t0:ag n2=[]:=List.Perm.eq_nil gl
    match n2,l2,t0 with
    | [(nm2,zs)],_,t0=>
     have:zs=[]:=by simpa [ag] using t0
     subst this;exact .inl ⟨_,rfl⟩
   ·refine Yv (bw h).2 λe=>?_;rw [e] at l2;exact hF.some<|Bk.mp l2.symm
 ·have np:0 < n.length:=Dj.mpr h0;refine⟨1,_,by decide,CA (k:=1) (aq.of<|s8 _ _ hR.lst) (aq.of (xs:=[]) aw) (by rw [Aa,bY];exact Cy np),_,rfl,cM ?_⟩;have hR:=hR.same s8;have rK:=rK.same s8;have sH:=sH.trans s8;generalize upd H4 p (.lst [])=H5 at hR rK sH ⊢;have r0:0<=b % (n.length:Int):=Bw _ (by omega);have r1:b % (n.length:Int) < n.length:=Cc _ (by omega);obtain⟨j,hj⟩:∃ k:Nat,b % (n.length:Int)=k:=⟨(b % (n.length:Int)).toNat,by omega⟩;have pT:j < n.length:=by omega
  obtain⟨a,ea,dj,et,el,er⟩:=hR.at pT;refine aW 9 nd<|CD DY UW VB Vn<|ae 6 ⟨q8f hR.lst,aZ cG<|ae 0<|bW cX T.len DK<|ah<|ae 6<|ay ⟨R,_,rfl,.inl<|aq.of hR.lst,?_⟩⟩;rw [Aa,bY];refine⟨_,_,rfl,rfl,by omega,R,_,_,j,.ref a.1,rfl,rfl,hR.lst,by rw [hj];omega,by rw [hj];omega,?_,?_,?_⟩
  ·rw [hj,Aa,bY];unfold seqIndex?;have c1:¬((j:Int) < 0):=by omega
   simp only [c1,CV];have c2:(decide (0<=(j:Int)) && decide ((j:Int) < (n.length:Int)))=true:=by
    rw [Bv,DN,DN];omega
   rw [BP c2,Bc]
  ·rw [Ah,ea];rfl
  have R6:=hR.erase pT;have am:a∈as:=Ap ea;have FV:∀ x∈as,x.2≠R:=λx hx e=>by
   obtain⟨zs,e2⟩:=hR.lists hx;have h3:=hR.lst;rw [<- e,e2] at h3;have h4:=HO.lst.inj<|Option.some.inj h3;cases as with
   | nil=>cases hx
   | cons b' bs=>
    cases zs with
    | nil=>simp at h4
    | cons y r=>simp at h4
  have L6:=rK.upd (o:= .lst<|(as.map λa=>V.ref a.1).eraseIdx j) hR.lst O5.symm aR;have ur:(upd H5 R<|.lst<|(as.map λa=>V.ref a.1).eraseIdx j) a.1=some (.tup [.str n[j].1,.ref a.2]):=by rw [av<|ce et hR.lst λe=>nomatch e];exact et
  have yb:(upd H5 R<|.lst<|(as.map λa=>V.ref a.1).eraseIdx j) a.2=some (Ls<|row n j):=by rw [av<|FV a am];exact el
  have uj:aj H2 (upd H5 R<|.lst<|(as.map λa=>V.ref a.1).eraseIdx j):=dN sH fR;generalize upd H5 R (.lst<|(as.map λa=>V.ref a.1).eraseIdx j)=H6 at R6 L6 ur yb uj ⊢;have le6:=R6.len;have pU:(n.eraseIdx j).length=n.length - 1:=by rw [Cu,BP pT]
  refine aW 0 nd<|aZ ic<|ae 0<|aZ fI<|bW cX T.len DK<|ah<|ae 6<|ay ⟨R,_,rfl,.inl<|aq.of R6.lst,aC ⟨_,_,rfl,rfl,?_⟩⟩;rw [Aa,le6,pU];refine⟨_,_,rfl,rfl,⟨by omega,by omega⟩,?_⟩;have x0g:=iq n j;refine aW 10 nd<|bW (KP rfl) T.max UL<|ah<|aC<|ah<|bW cX T.len DK<|ah<|aU bJ<|ae 9<|aC ⟨a.1,_,_,.ref a.2,rfl,rfl,aJ.of ur,rfl,ay ⟨a.2,_,rfl,.inl<|aq.of yb,?_⟩⟩;rw [Aa];refine ay ⟨1,_,rfl,?_⟩;have emx:(if((row n j).length:Int) > 1 then((row n j).length:Int) else 1)=((max 1 (row n j).length:Nat):Int):=by
   split <;> omega
  rw [emx];show Run _ _ _ [some<|.int<|b / ((n.length - 1:Nat)+1:Int),some<|.int m,some<|.int sm,some<|.int (mn:Int),some<|.ref lt,some<|.ref lp,some<|.ref R,u,some<|.ref L,some<|.ref a.1,some<|.int ((max 1 (row n j).length:Nat):Int)] H6;generalize b / ((n.length - 1:Nat)+1:Int)=b2;have z0:0<=b2 % ((max 1 (row n j).length:Nat):Int):=Bw _ (by omega);obtain⟨i,hi⟩:∃ k:Nat,b2 % ((max 1 (row n j).length:Nat):Int)=k:=⟨(b2 % ((max 1 (row n j).length:Nat):Int)).toNat,by omega⟩;refine gC<|jr<|ae 8 ⟨L,rfl,⟨_,L6.lst⟩,eF<|ah<|aU bJ<|ae 9<|aC ⟨a.1,_,_,.str n[j].1,rfl,rfl,aJ.of ur,rfl,?_⟩⟩;refine ah (aZ zQ<|AU La<|aU bJ<|ae 9<|aC ⟨a.1,_,_,.ref a.2,rfl,rfl,aJ.of ur,rfl,AW<|aZ cG<|ae 0<|ae 10 ⟨b2,((max 1 (row n j).length:Nat):Int),rfl,rfl,by omega,_,rfl,AV ⟨a.2,_,rfl,aq.of yb,λp1 j8=>?_⟩⟩⟩);rw [hi,Yx];have t1:=aS j8<|Ls<|(row n j).drop i;refine AU La (aU bJ<|ae 9<|aC ⟨a.1,_,_,.ref a.2,rfl,rfl,aJ.of<|t1 _ _ ur,rfl,AV<|AW<|aZ cG<|ae 0<|ae 10 ⟨b2,((max 1 (row n j).length:Nat):Int),rfl,rfl,by omega,_,rfl,a.2,_,rfl,aq.of<|t1 _ _ yb,λp2 iP=>?_⟩⟩);rw [hi,Yy];have t2:=aS iP<|Ls<|(row n j).take i;refine⟨p1,p2,_,_,rfl,rfl,t2 _ _ aw,aw,?_,λp3 kQ=>?_⟩
  ·rw [Aa,Aa,Db,Bf];exact small<|by omega
  rw [<- Aj];have t3:=aS kQ<|Ls<|(row n j).drop i++(row n j).take i;refine ay ⟨Z2,λt4 ht4=>?_⟩;have s4:=aS ht4<|.tup [.str n[j].1,.ref p3];have pV:=t1.trans<|t2.trans<|t3.trans s4;have L7:=L6.same pV;have R7:=R6.same pV;have p3L:p3≠L:=λe=>by rw [e,(t1.trans t2) _ _ L6.lst] at kQ;cases kQ
  have p3R:p3≠R:=λe=>by rw [e,(t1.trans t2) _ _ R6.lst] at kQ;cases kQ
  have p3n:p3∉nP.map (·.2):=λhm=>by
   obtain⟨y,hy,e⟩:=An.mp hm;exact(L6.same<|t1.trans t2).fresh kQ hy e.symm
  have L8:=L7.more (t:=t4) (l:=p3) (pt:=n[j].1) (zs:=(row n j).drop i++(row n j).take i) aw (s4 _ _ aw) p3n p3L;refine⟨_,L7.lst,by rw [Aa,FU];exact bS (by omega),?_⟩;have O8:∀ x∈as.eraseIdx j,x.2≠L:=λx hx=>aL x<|Ep hx;have R8:=R7.upd (o:= .lst<|nP.map (λa=>V.ref a.1)++[.ref t4]) L7.lst O5 O8;refine aW 0 nd (aZ ic<|ae 0<|ae 10 ⟨b2,((max 1 (row n j).length:Nat):Int),rfl,rfl,⟨by omega,by omega⟩,?_⟩);have pe:=Nm n j pT;have ne:=Yw n j pT;have O9:(ag (n.eraseIdx j)++ag (n2++[(n[j].1,(row n j).drop i++(row n j).take i)])).Perm (ag n0):=by
   refine List.Perm.trans ?_ pt;unfold ag;rw [Er];show(ag (n.eraseIdx j)++(ag n2++(((row n j).drop i++(row n j).take i)++[]))).Perm _;rw [Bi,er];have w1:(n[j].2.drop i++n[j].2.take i).Perm n[j].2:=DV _ _;refine((w1.append_left _).append_left _).trans ?_;have w2:(ag n++ag n2).Perm ((n[j].2++ag (n.eraseIdx j))++ag n2):=pe.append_right _;refine List.Perm.trans ?_ w2.symm;rw [Ar];refine List.Perm.trans ?_<|Cf (l₁:=ag (n.eraseIdx j)++ag n2);rw [Ar]
  refine aY ⟨n.length - 1,by omega,as.eraseIdx j,nP++[(t4,p3)],n.eraseIdx j,n2++[(n[j].1,(row n j).drop i++(row n j).take i)],_,_,_,pU.symm,R8,L8,dN (uj.trans pV) fL,O8,λx hx=>?_,λx hx=>?_,?_,O9,?_,λh=>⟨λr hr=>?_,λr hr=>?_⟩,q5r pT (by have:=Cc b2 (show(0:Int) < ((max 1 (row n j).length:Nat):Int) by omega);rw [hi] at this;exact Int.ofNat_lt.mp this) O4 pt O9 x8,rfl⟩
  ·rcases Am.mp hx with hx | hx
   ·exact aR x hx
   ·rw [Ad] at hx;rw [hx];exact p3R
  ·rcases Am.mp hx with hx | hx
   ·exact O7 x hx
   ·rw [Ad] at hx;rw [hx];exact uj.free<|t1.free<|t2.free kQ
  ·rw [Af,pU];simp;omega
  ·refine List.Perm.trans ?_ pn;rw [Aj];show((n.eraseIdx j).map (·.1)++(n2.map (·.1)++[n[j].1])).Perm _;refine List.Perm.trans ?_ (ne.append_right _).symm;rw [<- Ar];exact Cf
  ·exact(bw h).1 r<|Ep hr
  ·rcases Am.mp hr with hr | hr
   ·exact(bw h).2 r hr
   ·rw [Ad] at hr;rw [hr];intro e;have w1:=(DV (row n j) i).length_eq;have e':(row n j).drop i++(row n j).take i=[]:=e;rw [e'] at w1;have:=(bw h).1 n[j]<|Bt pT;rw [er] at w1;exact this<|Bk.mp w1.symm
def FX:Sp:=λvs H Q _=>∃(R:Addr) (as:List<|Addr×Addr) (n:Net),vs=[.ref R]/\ai H R as n/\n.length<=1000/\∀ L pN H',aj H H'->H L=none->(∀ a∈pN,H a.1=none/\H a.2=none)->ai H' L pN n->Q (.ref L) H'
theorem g6{H H':Hp}{l:Addr}(s:aj H H')(h:H' l=none):H l=none:=by
 cases e:H l with
 | none=>rfl
 | some v=>rw [s _ _ e] at h;cases h
abbrev NC:List Str:=["_law_rows"]
abbrev O':List Str:=["_law_rows","_law_row"]
theorem j9:ak NC ["_law_rows"] (a8 xB):=⟨rfl,rfl,rfl,by decide +kernel,rfl,by decide +kernel,by decide +kernel⟩
theorem FY:O'.Nodup:=by decide +kernel
theorem q4l{f:Addr}{fd:FuncData}(F:bE K "_law_copy" "_law_copy" xB f fd)(T:Txt mg):aI P w K mg base bB 1 f fd ["_law_rows"] FX:=by
 refine F.gb j9 (λvs H Q E h=>?_) λb0 H vs Q E hr h=>?_
 ·obtain⟨R,as,n,rfl,_⟩:=h;rfl
 obtain⟨R,as,n,rfl,hR,hn,q⟩:=h;have nd:=j9.nd;have bY:=hR.len;show Run _ _ _ [some<|.ref R] H;refine bO<|gR (a8 xB) NC O' 1 (gA bt)<|ae 0 ⟨R,rfl,⟨_,aq.of hR.lst⟩,λD hD=>?_⟩;refine nj (xs:=as.map λa=>V.ref a.1) (λi σ' H'=>(∃ v,σ'=[some<|.ref R]++[v])/\∃ bs:List<|Addr×Addr,bs.length=i/\H' D=some (.lst<|bs.map λa=> .ref a.1) /\
  (∀(j:Nat) a r,bs[j]?=some a->n[j]?=some r->H' a.1=some (.tup [.str r.1,.ref a.2])/\H' a.2=some (Ls r.2))/\(bs.map (·.2)).Nodup/\(∀ a∈bs,a.2≠D/\H a.1=none/\H a.2=none/\∃ zs,H' a.2=some (Ls zs))/\aj H H')
  ⟨⟨none,rfl⟩,[],rfl,aw,λj a r h=>by simp at h,Ch,λa h=>by simp at h,aS hD _⟩ ?_ ?_ ?_
 ·rintro i σ' H' _ ⟨_,bs,_,_,_,_,_,sm⟩;exact aq.of<|sm _ _ hR.lst
 ·rintro i x σ' H' hx ⟨⟨v,rfl⟩,bs,qX,lR,F0,pW,rL,sm⟩;have hi:i < n.length:=by
   have:=(Ac.mp hx).1;rw [Aa] at this;omega
  obtain⟨a,ea,dj,et,el,er⟩:=(hR.same sm).at hi;rw [Ah,ea] at hx;cases hx;intro cl C' s₀ H₀ ex;refine bf 1 FY ?_;intro cl C' s₀ H₀ ex;refine jm ?_;rw [BP rfl];intro cl C' s₀ H₀ ex;refine eF<|ah<|aU bJ<|ae 1<|aC ⟨a.1,_,_,.str n[i].1,rfl,rfl,aJ.of et,rfl,?_⟩;refine ah<|lG Ld T.gd JK<|ah<|aU bJ<|ae 1<|aC ⟨a.1,_,_,.ref a.2,rfl,rfl,aJ.of et,rfl,?_⟩;refine ay ⟨a.2,_,rfl,.inl<|aq.of el,λl hl=>ay ⟨Z2,λt ht=>?_⟩⟩;have jl:=g6 sm hl;have F1:t≠l:=λe=>by rw [e,aw] at ht;cases ht
  have gL:H' t=none:=by rw [av F1] at ht;exact ht
  have Pa:=g6 sm gL;have nQ:l≠D:=λe=>by rw [e] at hl;rw [hl] at lR;cases lR
  have Pb:t≠D:=λe=>by rw [e] at gL;rw [gL] at lR;cases lR
  refine⟨bs.map λa=> .ref a.1,?_,?_,⟨_,rfl⟩,bs++[(t,l)],by rw [Af,qX];rfl,?_,?_,?_,?_,?_⟩
  ·rw [av<|CG Pb,av<|CG nQ];exact lR
  ·rw [Aa];exact bS<|by omega
  ·rw [aw,Aj];rfl
  ·intro j b r hb pI
   by_cases hj:j < bs.length
   ·rw [As hj] at hb;obtain⟨q1,q2⟩:=F0 j b r hb pI;have hbD:=(rL b<|Ap hb).1;have n1:b.1≠D:=ce q1 lR λz=>nomatch z;refine⟨?_,?_⟩
    ·rw [av n1,av<|bg q1 gL,av<|bg q1 hl];exact q1
    ·rw [av hbD,av<|bg q2 gL,av<|bg q2 hl];exact q2
   ·rw [Az<|by omega] at hb;have fB:j - bs.length=0:=by
     have:=(Ac.mp hb).1;simp at this;omega
    have pX:j=i:=by omega
    rw [fB] at hb;cases hb;rw [pX,Ab hi] at pI;cases pI;refine⟨?_,?_⟩
    ·rw [av Pb,aw]
    ·rw [av nQ,av<|CG F1,aw,er]
  ·rw [Aj];refine mX pW λhm=>?_;obtain⟨b,hb,e⟩:=An.mp hm;obtain⟨_,_,_,zs,q⟩:=rL b hb;have e':b.2=l:=e;rw [e',hl] at q;cases q
  ·intro b hb
   rcases Am.mp hb with hb | hb
   ·obtain⟨q1,q2,q3,zs,q4⟩:=rL b hb;refine⟨q1,q2,q3,zs,?_⟩;rw [av q1,av<|bg q4 gL,av<|bg q4 hl];exact q4
   ·rw [Ad.mp hb];refine⟨nQ,Pa,jl,row n i,?_⟩;rw [av nQ,av<|CG F1,aw]
  ·intro c o hc;rw [av<|bg hc hD,av<|bg hc Pa,av<|bg hc jl];exact sm _ _ hc
 ·rintro σ' H' ⟨_,bs,qX,lR,F0,pW,rL,sm⟩;rw [Aa] at qX;exact q D bs H' sm hD (λa ha=>⟨(rL a ha).2.1,(rL a ha).2.2.1⟩) ⟨by omega,lR,F0,pW⟩
end
abbrev Tn(p:Str)(j:Int):HO:= .tup [.str p,.int j]
def ut:Sp:=λvs H Q _=>∃(t l:Addr) (p:Str) (zs:List Str),vs=[.ref t]/\H t=some (.tup [.str p,.ref l])/\H l=some (Ls zs)/\zs.length<=1000 /\
 ∀(L:Addr) (ts:List Addr) (H':Hp),aj H H'->H L=none->H' L=some (.lst<|ts.map V.ref)->ts.length=zs.length->(∀(j:Nat) t,ts[j]?=some t->H' t=some (Tn p j))->Q (.ref L) H'
section
variable{X:Cx}{elt tg:Expr}{ifs:List Expr}{scope:Scope}{σ:St}{H:Hp}{N':List Str}{A:Addr}{after:Hp->Prop}
theorem k1i{lo:Int}{n:Nat}(Pv:Nat->St->Hp->Prop)(h0:Pv 0 σ H)
  (hs : ∀ i σ' H', i < n → Pv i σ' H' → wO X N' scope tg (.int<|lo + i) σ' H' λσ2 H3 => wQ X N' scope ifs σ2 H3 λb H4 =>
   if b=true then wN X N' scope elt σ2 H4 λv H5=>∃ ys,H5 A=some (.lst ys)/\ys.length < sizeLine/\Pv (i+1) σ2 (upd H5 A<|.lst<|ys++[v]) else Pv (i+1) σ2 H4)
  (hd:∀ σ' H',Pv n σ' H'->after H'):oO X N' scope tg ifs elt (qE lo n) A after σ H:=by
 refine⟨λi m σ' H'=>m=n - i/\i<=n/\Pv i σ' H',⟨_,rfl,Bx _,h0⟩,?_⟩;rintro i m σ' H' ⟨rfl,hi,p⟩
 by_cases a7:i < n
 ·refine .inr ⟨a7,Pv<|i+1,λσ' H' p'=>⟨n - (i+1),by omega,rfl,a7,p'⟩,λx H2 y=>?_⟩;obtain⟨e,y⟩:=y;subst e y;exact hs i σ' _ a7 p
 ·have e:i=n:=by omega
  subst e;exact .inl ⟨Al _,hd σ' H' p⟩
end
section
variable{P:Program}{w:World}{K:PySem.W.Frag}{mg:Str->Option Value}{base:Heap}
abbrev Pg:List Str:=["row","point","ties"]
abbrev Ph:List Str:=["row","point","ties","place"]
theorem ka:ak Pg ["row"] (a8 xn):=⟨rfl,rfl,rfl,by decide +kernel,rfl,by decide +kernel,by decide +kernel⟩
theorem q9s:Ph.Nodup:=by decide +kernel
theorem q5t{f:Addr}{fd:FuncData}(F:bE K "ends_round" "ends_round" xn f fd)(T:Txt mg):aI P w K mg base bB 1 f fd ["row"] ut:=by
 refine F.gb ka (λvs H Q E h=>?_) λb0 H vs Q E hr h=>?_
 ·obtain⟨t,l,p,zs,rfl,_⟩:=h;rfl
 obtain⟨t,l,p,zs,rfl,ht,hl,hz,q⟩:=h;have nd:=ka.nd;show Run _ _ _ [some<|.ref t,none,none] H;refine qM<|ae 0<|iA rfl (aJ.of ht) (bf 1 nd<|bf 2 nd ?_);show Run _ _ _ [some<|.ref t,some<|.str p,some<|.ref l] H;refine bO<|gR (a8 xn) Pg Ph 1 (Ku rfl T.range (ta:=tq _ _) iR (oM _ [] _ rfl)) ?_;show Ea _ _ _ _ _;refine ah (bW cX T.len DK<|ah<|ae 2<|ay ⟨l,_,rfl,.inl<|aq.of hl,ay ⟨_,rfl,by omega,by rw [Aa];omega,λD hD=>?_⟩⟩);rw [Aa,Bc];refine k1i (λi σ' H'=>(∃ v,σ'=[some<|.ref t,some<|.str p,some<|.ref l]++[v])/\∃ ts:List Addr,ts.length=i/\H' D=some (.lst<|ts.map V.ref)/\(∀(j:Nat) t,ts[j]?=some t->H' t=some (Tn p j))/\aj H H')
  ⟨⟨none,rfl⟩,[],rfl,aw,λj t h=>by simp at h,aS hD _⟩ ?_ ?_
 ·rintro i σ' H' hi ⟨⟨v,rfl⟩,ts,fZ,eD,F3,sm⟩;rw [Dv];intro cl C' s₀ H₀ ex;refine bf 3 q9s ?_;intro cl C' s₀ H₀ ex;refine jm ?_;rw [BP rfl];intro cl C' s₀ H₀ ex;refine eF<|ah<|ae 1<|ah<|ae 3<|ay ⟨Z2,λu hu=>?_⟩;have nu:u≠D:=λe=>by rw [e,eD] at hu;cases hu
  have hu0:=g6 sm hu;refine⟨ts.map V.ref,by rw [av<|CG nu];exact eD,by rw [Aa];exact bS (by omega),⟨_,rfl⟩,ts++[u],by rw [Af,fZ];rfl,by rw [aw,Aj];rfl,?_,?_⟩
  ·intro j t' gL
   by_cases hj:j < ts.length
   ·rw [As hj] at gL;have e:=F3 j t' gL;have n1:t'≠D:=ce e eD λz=>nomatch z;rw [av n1,av<|bg e hu];exact e
   ·rw [Az<|by omega] at gL;have fB:j - ts.length=0:=by
     have:=(Ac.mp gL).1;simp at this;omega
    rw [fB] at gL;cases gL;have:j=i:=by omega
    rw [this,av nu,aw]
  ·intro c o hc;rw [av<|bg hc hD,av<|bg hc hu0];exact sm _ _ hc
 ·rintro σ' H' ⟨_,ts,fZ,eD,F3,sm⟩;exact q D ts H' sm hD eD fZ F3
def i6(g:Int->Int):Sp:=λvs H Q _=>∃(e:Addr) (p:Str) (j m:Int),vs=[.ref e,.int m]/\H e=some (Tn p j)/\0 < m/\∀ t H',aj H H'->H' t=some (Tn p<|g j % m)->Q (.ref t) H'
abbrev Pj:List Str:=["end","many","point","place"]
theorem kc:ak Pj ["end","many"] (a8 CU):=⟨rfl,rfl,rfl,by decide +kernel,rfl,by decide +kernel,by decide +kernel⟩
theorem gn:ak Pj ["end","many"] (a8 CY):=⟨rfl,rfl,rfl,by decide +kernel,rfl,by decide +kernel,by decide +kernel⟩
theorem q4z{f:Addr}{fd:FuncData}(F:bE K "turned_left" "turned_left" CU f fd)(T:Txt mg):aI P w K mg base bB 1 f fd ["end","many"] (i6 λj=>j+1):=by
 refine F.gb kc (λvs H Q E h=>?_) λb0 H vs Q E hr h=>?_
 ·obtain⟨e,p,j,m,rfl,_⟩:=h;rfl
 obtain⟨e,p,j,m,rfl,he,hm,q⟩:=h;have nd:=kc.nd;show Run _ _ _ [some<|.ref e,some<|.int m,none,none] H;refine qM<|ae 0<|iA rfl (aJ.of he) (bf 2 nd<|bf 3 nd ?_);refine bO (eF<|ah<|ae 2<|ah<|aZ cG<|aZ fI<|ae 3<|aC ⟨_,_,rfl,rfl,ae 1 ⟨_,_,rfl,rfl,(by show 0 < m;exact hm),ay ⟨Z2,λt ht=>?_⟩⟩⟩);exact q t _ (aS ht _) aw
theorem k6n{f:Addr}{fd:FuncData}(F:bE K "turned_right" "turned_right" CY f fd)(T:Txt mg):aI P w K mg base bB 1 f fd ["end","many"] (i6 λj=>j - 1):=by
 refine F.gb gn (λvs H Q E h=>?_) λb0 H vs Q E hr h=>?_
 ·obtain⟨e,p,j,m,rfl,_⟩:=h;rfl
 obtain⟨e,p,j,m,rfl,he,hm,q⟩:=h;have nd:=gn.nd;show Run _ _ _ [some<|.ref e,some<|.int m,none,none] H;refine qM<|ae 0<|iA rfl (aJ.of he) (bf 2 nd<|bf 3 nd ?_);refine bO (eF<|ah<|ae 2<|ah<|aZ cG<|aZ Kx<|ae 3<|aC ⟨_,_,rfl,rfl,ae 1 ⟨_,_,rfl,rfl,(by show 0 < m;exact hm),ay ⟨Z2,λt ht=>?_⟩⟩⟩);exact q t _ (aS ht _) aw
theorem Pk{kvs:List (Key×V)}:∀{acc:List (Key×V)},((acc++kvs).map (·.1)).Nodup->kvs.foldl (λa p=>putK a p.1 p.2) acc=acc++kvs:=by
 induction kvs with
 | nil=>intro acc _;simp
 | cons p r ih=>
  intro acc h;have hn:aB acc p.1=none:=by
   cases e:aB acc p.1 with
   | none=>rfl
   | some v=>
    have hm:=AA e;rw [Aj,Bj] at h;exact absurd rfl ((Ci.mp h).2.2 _ hm _ Ae)
  rw [Dd,zY _ hn,ih (by rw [Ar];exact h),Ar];rfl
theorem F4:∀{kvs:List (Key×V)} {i:Nat} {p:Key×V},(kvs.map (·.1)).Nodup->kvs[i]?=some p->aB kvs p.1=some p.2
 | [],_,_,_,h=>by simp at h
 | q :: r,0,p,_,h=>by
  cases h;exact gQ rfl
 | q :: r,i+1,p,hn,h=>by
  rw [Bj,Be] at hn;have hm:r[i]?=some p:=by simpa using h
  rw [gB λe=>hn.1<|by rw [e];exact An.mpr ⟨p,Ap hm,rfl⟩];exact F4 hn.2 hm
def df(n:Net)(as:List<|Addr×Addr):List (Key×V):=List.zipWith (λr a=>(Sum.inr r.1,V.ref a.2)) n as
theorem F5:∀(n:Net) (as:List<|Addr×Addr),as.length=n.length->(df n as).map (·.1)=(n.map (·.1)).map Sum.inr
 | [],[],_=>rfl
 | [],_ :: _,h=>by simp at h
 | _ :: _,[],h=>by simp at h
 | r :: n,a :: as,h=>by
  have:=F5 n as (by simpa using h);show Sum.inr r.1 :: (df n as).map (·.1)=_;rw [this];rfl
theorem yc{n:Net}{as:List (Addr×Addr)}{i:Nat}{r:Str×List Str}{a:Addr×Addr}(h1:n[i]?=some r)(h2:as[i]?=some a):(df n as)[i]?=some (Sum.inr r.1,.ref a.2):=by
 unfold df;rw [List.getElem?_zipWith,h1,h2]
theorem Pn{l:List Str}(h:l.Nodup):(l.map (Sum.inr:Str->Key)).Nodup:=by
 rw [Ce,Dx];exact(Ce.mp h).imp λh q=>h<|Sum.inr.inj q
end
def nameAt(n:Net)(r:Nat):Str:=((n[r]?).map (·.1)).getD ⟨#[]⟩
def key(n:Net)(e:Nt.End):List Key:=[Sum.inr<|nameAt n e.1,Sum.inl (e.2:Int)]
abbrev TN(n:Net)(e:Nt.End):HO:=Tn (nameAt n e.1) (e.2:Int)
theorem pY{n:Net}{r:Nat}(h:r < n.length):nameAt n r=n[r].1:=by unfold nameAt;rw [Ab h];rfl
theorem pZ{n:Net}(hN:(n.map (·.1)).Nodup){a b:Nt.End}(ha:a.1 < n.length)(hb:b.1 < n.length)(h:key n a=key n b):a=b:=by
 unfold key at h
 injection h with h1 h2
 injection h2 with h2 _
 have e1:=Sum.inr.inj h1;have e2:=Sum.inl.inj h2;rw [pY ha,pY hb] at e1;have e3:a.1=b.1:=by
  have la:a.1 < (n.map (·.1)).length:=by rw [Aa];exact ha
  have lb:b.1 < (n.map (·.1)).length:=by rw [Aa];exact hb
  refine(Gd (i:=a.1) (j:=b.1) (h₀:=la) (h₁:=lb) hN).mp ?_;rw [Dq,Dq];exact e1
 exact GX e3<|by omega
theorem uv{n:Net}{r p:Nat}{z:Str}(hr:r < n.length)(hz:(row n r)[p]?=some z):∃ rest,bo n=(bo (n.take r)++bu r ((row n r).take p) 0)++(z,(r,p)) :: rest:=by
 have e1:bo n=bo (n.take<|r+1)++fe (0+(n.take<|r+1).length) (n.drop<|r+1):=by
  have:=CL (n.take<|r+1) (n.drop<|r+1) 0;rw [Dl] at this;exact this
 have e2:bu r (row n r) 0=bu r ((row n r).take<|p+1) 0++bu r ((row n r).drop<|p+1) (0+((row n r).take<|p+1).length):=by
  unfold bu;rw [<- Aj,<- List.zipIdx_append,Dl]
 rw [e1,rh hr,e2,ph hz];refine⟨bu r ((row n r).drop<|p+1) (0+((row n r).take<|p+1).length)++fe (0+(n.take<|r+1).length) (n.drop<|r+1),?_⟩;simp only [Ar,Fm,Fc]
theorem Pp{κ:Type} [DecidableEq κ] (kvs:List<|κ×V) (k:κ) (v:V):(putK kvs k v).map (·.1)=if k∈kvs.map (·.1) then kvs.map (·.1) else kvs.map (·.1)++[k]:=by
 have e:(kvs.any λkv=>decide (kv.1=k))=decide (k∈kvs.map (·.1)):=by
  rw [Cm,List.any_eq_true,CK,An];exact⟨λ⟨p,h1,h2⟩=>⟨p,h1,BX h2⟩,λ⟨p,h1,h2⟩=>⟨p,h1,BW h2⟩⟩
 unfold putK;rw [e]
 by_cases h:k∈kvs.map (·.1)
 ·rw [BP<|BW h,BP h,Ca];refine Ao λp _=>?_;show(if p.1=k then(p.1,v) else p).1=p.1
  split <;> rfl
 ·rw [BL (by simpa using h),BL h,Aj];rfl
theorem gq{κ:Type} [DecidableEq κ] {kvs:List (κ×V)} {k j:κ} {v:V}:j∈(putK kvs k v).map (·.1)↔j∈kvs.map (·.1)\/j=k:=by
 rw [Pp]
 split
 ·exact⟨.inl,λh=>h.elim id λe=>by rw [e];assumption⟩
 ·rw [Am,Ad]
theorem Pq{κ:Type} [DecidableEq κ] {kvs:List (κ×V)} {k:κ} {v:V} (h:(kvs.map (·.1)).Nodup):((putK kvs k v).map (·.1)).Nodup:=by
 rw [Pp]
 split
 ·exact h
 ·rename_i hn;exact mX h hn
structure i7(n:Net)(done:List<|Str×Nt.End)(H:Hp)(kM:List<|Key×V)(kO:List<|List Key×V):Prop where
 m0:∀ z,bG done z=[]->aB kM (Sum.inr z)=none
 m1:∀ z a rest,bG done z=a :: rest->∃ t,aB kM (Sum.inr z)=some (.ref t)/\H t=some (TN n a)
 o:∀ z a b rest,bG done z=a :: b :: rest->(∃ u,aB kO (key n a)=some (.ref u)/\H u=some (TN n b))/\∃ u,aB kO (key n b)=some (.ref u)/\H u=some (TN n a)
 sub:∀ p∈done,aK n p.2=some p.1
 dL:kM.length<=done.length
 ft:kO.length<=2 * done.length
 ks:∀ k∈kO.map (·.1),∃ p∈done,k=key n p.2
 nd:(kO.map (·.1)).Nodup
theorem i7.keep{n:Net}{done:List (Str×Nt.End)}{H H':Hp}{kM:List (Key×V)}{kO:List (List Key×V)}(I:i7 n done H kM kO)(k:∀ t p j,H t=some (Tn p j)->H' t=some (Tn p j)):i7 n done H' kM kO where
 m0:=I.m0
 m1:=λz a rest h=>let ⟨t,e1,e2⟩:=I.m1 z a rest h;⟨t,e1,k _ _ _ e2⟩
 o:=λz a b rest h=>let ⟨⟨u,e1,e2⟩,⟨v,e3,e4⟩⟩:=I.o z a b rest h;⟨⟨u,e1,k _ _ _ e2⟩,⟨v,e3,k _ _ _ e4⟩⟩
 sub:=I.sub
 dL:=I.dL
 ft:=I.ft
 ks:=I.ks
 nd:=I.nd
theorem uw{done:List (Str×Nt.End)}{z:Str}{a:Nt.End}(h:a∈bG done z):(z,a)∈done:=by
 unfold bG at h;obtain⟨⟨y,b⟩,hm,rfl⟩:=An.mp h;obtain⟨h1,h2⟩:=Bh.mp hm;have:y=z:=BX h2;subst this;exact h1
theorem i7.new{n:Net}{done:List (Str×Nt.End)}{H:Hp}{kM:List (Key×V)}{kO:List (List Key×V)}(I:i7 n done H kM kO){z:Str}{e:Nt.End}{t:Addr}(ht:H t=some (TN n e))(hz:aK n e=some z)(h0:bG done z=[]) :
  i7 n (done++[(z,e)]) H (putK kM (Sum.inr z)<|.ref t) kO where
 m0:=λy hy=>by
  rw [de] at hy;obtain⟨h1,h2⟩:=Ez.mp hy;have bw:¬ z=y:=λq=>by rw [BP q] at h2;cases h2
  rw [db,BL λq=>bw (Sum.inr.inj q).symm];exact I.m0 y h1
 m1:=λy a rest hy=>by
  rw [de] at hy
  by_cases q:z=y
  ·subst q;rw [h0,BP rfl] at hy;cases hy;exact⟨t,by rw [db,BP rfl],ht⟩
  ·rw [BL q,Bi] at hy;obtain⟨u,e1,e2⟩:=I.m1 y a rest hy;exact⟨u,by rw [db,BL λp=>q (Sum.inr.inj p).symm];exact e1,e2⟩
 o:=λy a b rest hy=>by
  rw [de] at hy
  by_cases q:z=y
  ·subst q;rw [h0,BP rfl] at hy;cases hy
  ·rw [BL q,Bi] at hy;exact I.o y a b rest hy
 sub:=λp hp=>by
  rcases Am.mp hp with h | h
  ·exact I.sub p h
  ·rw [Ad.mp h];exact hz
 dL:=by
  have:=ik kM (Sum.inr z)<|.ref t;have:=I.dL;rw [Af,Cs];omega
 ft:=by
  have:=I.ft;rw [Af,Cs];omega
 ks:=λk hk=>let ⟨p,hp,e⟩:=I.ks k hk;⟨p,Ba _ hp,e⟩
 nd:=I.nd
theorem i7.old{n:Net}(hN:(n.map (·.1)).Nodup){done:List (Str×Nt.End)}{H:Hp}{kM:List (Key×V)}{kO:List (List Key×V)}(I:i7 n done H kM kO){z:Str}{e a:Nt.End}{te tm:Addr}(ht:H te=some (TN n e))(hm:H tm=some (TN n a))(hz:aK n e=some z)(h1:bG done z=[a])(hae:a≠e) :
  i7 n (done++[(z,e)]) H kM (putK (putK kO (key n e)<|.ref tm) (key n a)<|.ref te) where
 m0:=λy hy=>by
  rw [de] at hy;exact I.m0 y (Ez.mp hy).1
 m1:=λy c rest hy=>by
  rw [de] at hy
  by_cases q:z=y
  ·subst q;rw [h1,BP rfl] at hy;cases hy;exact I.m1 z a [] h1
  ·rw [BL q,Bi] at hy;exact I.m1 y c rest hy
 o:=λy c b rest hy=>by
  rw [de] at hy;have ta:aK n a=some z:=I.sub (z,a)<|uw<|by rw [h1];exact Ad.mpr rfl
  by_cases q:z=y
  ·subst q;rw [h1,BP rfl] at hy;cases hy;refine⟨⟨te,by rw [db,BP rfl],ht⟩,⟨tm,?_,hm⟩⟩;rw [db,BL λp=>hae (pZ hN (cN hz) (cN ta) p).symm,db,BP rfl]
  ·rw [BL q,Bi] at hy;have tc:aK n c=some y:=I.sub (y,c) (uw<|by rw [hy];exact Ae);have tb:aK n b=some y:=I.sub (y,b) (uw<|by rw [hy];exact Ai _ Ae);have ne:∀ x:Nt.End,aK n x=some y->¬ key n x=key n a/\¬ key n x=key n e:=λx hx=>by
    refine⟨λp=>?_,λp=>?_⟩
    ·have:=pZ hN (cN hx) (cN ta) p;rw [this,ta] at hx;exact q<|Option.some.inj hx
    ·have:=pZ hN (cN hx) (cN hz) p;rw [this,hz] at hx;exact q<|Option.some.inj hx
   obtain⟨⟨u,e1,e2⟩,⟨v,e3,e4⟩⟩:=I.o y c b rest hy;refine⟨⟨u,?_,e2⟩,⟨v,?_,e4⟩⟩
   ·rw [db,BL (ne c tc).1,db,BL (ne c tc).2];exact e1
   ·rw [db,BL (ne b tb).1,db,BL (ne b tb).2];exact e3
 sub:=λp hp=>by
  rcases Am.mp hp with h | h
  ·exact I.sub p h
  ·rw [Ad.mp h];exact hz
 dL:=by
  have:=I.dL;rw [Af,Cs];omega
 ft:=by
  have h1:=ik (putK kO (key n e)<|.ref tm) (key n a)<|.ref te;have h2:=ik kO (key n e)<|.ref tm;have:=I.ft;rw [Af,Cs];omega
 ks:=λk hk=>by
  rcases gq.mp hk with hk | rfl
  ·rcases gq.mp hk with hk | rfl
   ·obtain⟨p,hp,e⟩:=I.ks k hk;exact⟨p,Ba _ hp,e⟩
   ·exact⟨(z,e),Ax _<|Ad.mpr rfl,rfl⟩
  ·exact⟨(z,a),Ba _ (uw<|by rw [h1];exact Ad.mpr rfl),rfl⟩
 nd:=Pq<|Pq I.nd
theorem i7.whole{n:Net}(T:ax n){H:Hp}{kM:List (Key×V)}{kO:List (List Key×V)}(I:i7 n (bo n) H kM kO){e:Nt.End}(he:e∈ends n):∃ u,aB kO (key n e)=some (.ref u)/\H u=some (TN n<|other n e):=by
 obtain⟨z,hz⟩:=af.mp he;obtain⟨a,b,hp,fY,qW⟩:=pc T hz;have gJ:bG (bo n) z=a :: b :: []:=hp;have ta:aK n a=some z:=aM.mp (by rw [hp];simp);have tb:aK n b=some z:=aM.mp (by rw [hp];simp);obtain⟨o1,o2⟩:=I.o z a b [] gJ
 rcases qW with rfl | rfl
 ·have:b=other n e:=((kP T hz).mp tb).resolve_left<|CG fY;rw [<- this];exact o1
 ·have:a=other n e:=((kP T hz).mp ta).resolve_left fY;rw [<- this];exact o2
def mr:Sp:=λvs H Q _=>∃(R:Addr) (as:List<|Addr×Addr) (n:Net),vs=[.ref R]/\ai H R as n/\(n.map (·.1)).Nodup/\ax n/\n.length<=1000/\(ag n).length<=1000 /\
 ∀(d:Addr) (kvs:List<|List Key×V) (H':Hp),aj H H'->H d=none->H' d=some (.dT kvs)->(∀ e∈ends n,∃ u,aB kvs (key n e)=some (.ref u)/\H' u=some (TN n<|other n e))->(kvs.map (·.1)).Nodup->(∀ k∈kvs.map (·.1),∃ e∈ends n,k=key n e)->kvs.length<=2000->Q (.ref d) H'
section
variable{X:Cx}{D:Ends}{σ:St}{H:Hp}{body:List Stmt}
theorem k91{tg:Expr}{a b:Addr}{xs ys:List V}{after:St->Hp->Prop}(hlen:xs.length=ys.length)(Pv:Nat->St->Hp->Prop)(h0:Pv 0 σ H)(hl:∀ i σ H,i<=xs.length->Pv i σ H->aq X.K H a xs/\aq X.K H b ys)
  (hs:∀ i x y T σ H,xs[i]?=some x->ys[i]?=some y->Pv i σ H->H T=none->Eg X tg (.ref T) σ (upd H T<|.tup [x,y]) λσ2 H2=>Run X body {D with nx:=Pv<|i+1,ct:=Pv<|i+1,bk:=after} σ2 H2) (hd:∀ σ H,Pv xs.length σ H->after σ H):Loop X tg body (xK X.K a b) D after σ H:=by
 refine⟨λi m σ H=>m=xs.length - i/\i<=xs.length/\Pv i σ H,⟨xs.length,by simp,Bx _,h0⟩,?_⟩;rintro i m σ H ⟨rfl,hi,p⟩;obtain⟨q1,q2⟩:=hl i σ H hi p
 by_cases a7:i < xs.length
 ·refine .inr ⟨⟨xs,ys,xs[i],ys[i],q1,q2,Ab a7,Ab<|by omega⟩,Pv<|i+1,λσ' H' p'=>⟨xs.length - (i+1),by omega,rfl,a7,p'⟩,λv H' y=>?_⟩;obtain⟨T,x,y,hT,rfl,rfl,y1,y2⟩:=y;exact hs i x y T σ _ (y1 xs q1) (y2 ys q2) p hT
 ·have e:i=xs.length:=by omega
  subst e;exact .inl ⟨⟨xs,ys,q1,q2,.inl<|Al _⟩,hd σ H p⟩
end
section
variable{P:Program}{w:World}{K:PySem.W.Frag}{mg:Str->Option Value}{base:Heap}
abbrev NOE:List Str:=["rows","met","others","row","end","tie"]
theorem uz:ak NOE ["rows"] (a8 C0):=⟨rfl,rfl,rfl,by decide +kernel,rfl,by decide +kernel,by decide +kernel⟩
theorem Pt{H:Hp}{t d:Addr}{xs:List V}{kvs:List (Key×V)}(h:H t=some (.tup xs))(g:H d=some (.dK kvs)):t≠d:=ce h g λz=>nomatch z
theorem kR{H:Hp}{t d:Addr}{xs:List V}{kvs:List (List Key×V)}(h:H t=some (.tup xs))(g:H d=some (.dT kvs)):t≠d:=ce h g λz=>nomatch z
theorem q86{f:Addr}{fd:FuncData}(F:bE K "other_ends" "other_ends" C0 f fd)(T:Txt mg)
  (GE:aO P w K mg base 1 "ends_round" ["row"] ut) :
  aI P w K mg base bB 2 f fd ["rows"] mr:=by
 refine F.gb uz (λvs H Q E h=>?_) λb0 H vs Q E hr h=>?_
 ·obtain⟨R,as,n,rfl,_⟩:=h;rfl
 obtain⟨R,as,n,rfl,hR,hN,hT,hn,ht,q⟩:=h;have nd:=uz.nd;have bY:=hR.len;have hu:=hr.u1;show Run _ _ _ [some<|.ref R,none,none,none,none,none] H;refine aW 1 nd<|xc λdm pC=>?_;refine aW 2 nd<|XI λdO yd=>?_;show Run _ _ _ [some<|.ref R,some<|.ref dm,some<|.ref dO,none,none,none] (upd (upd H dm<|.dK []) dO<|.dT []);have uA:dO≠dm:=λe=>by rw [e,aw] at yd;cases yd
 have p7:H dO=none:=by rw [av uA] at yd;exact yd
 have em:(upd (upd H dm<|.dK []) dO<|.dT []) dm=some (.dK []):=by rw [av<|CG uA,aw]
 have eo:(upd (upd H dm<|.dK []) dO<|.dT []) dO=some (.dT []):=aw;have s0:aj H (upd (upd H dm<|.dK []) dO<|.dT []):=λb o h=>by rw [av<|bg h p7,av<|bg h pC];exact h
 generalize upd (upd H dm<|.dK []) dO (.dT [])=H1 at em eo s0 ⊢;refine iS<|ae 0 ⟨R,rfl,⟨_,aq.of<|s0 _ _ hR.lst⟩,iT (xs:=as.map λa=>V.ref a.1) (λr σ H'=>∃ kM kO u1 u2 u3,aj H H'/\H' dm=some (.dK kM)/\H' dO=some (.dT kO)/\i7 n (bo<|n.take r) H' kM kO/\σ=[some<|.ref R,some<|.ref dm,some<|.ref dO,u1,u2,u3])
  ⟨[],[],_,_,_,s0,em,eo,⟨λ_ _=>rfl,λz a rest h=>(by cases h),λz a b rest h=>(by cases h),λp h=>(by cases h),Bx _,Bx _,λk h=>(by cases h),Ch⟩,rfl⟩ ?_ ?_ ?_⟩
 ·rintro r σ H' _ ⟨kM,kO,u1,u2,u3,sm,_⟩;exact aq.of<|sm _ _ hR.lst
 ·rintro r x σ H' hx ⟨kM,kO,u1,u2,u3,sm,Pu,F6,I,rfl⟩;have hi:r < n.length:=by
   have:=(Ac.mp hx).1;rw [Aa] at this;omega
  obtain⟨a,ea,dj,et,el,er⟩:=(hR.same sm).at hi;rw [Ah,ea] at hx;cases hx;have fq:(row n r).length<=1000:=Bs (iq n r) ht;have enm:nameAt n r=n[r].1:=pY hi;refine bf 3 nd ?_;refine wM (NM rfl T.zip (ta:=tq _ _) iR) ?_;show Ea _ _ _ _ _;refine ah<|bn GE hr<|ah<|ae 3<|ay ⟨a.1,a.2,n[r].1,row n r,rfl,et,el,fq,λL ts H5 s5 n5 e5 l5 t5=>?_⟩;refine ah<|aU bJ<|ae 3<|aC ⟨a.1,_,_,.ref a.2,rfl,rfl,aJ.of<|s5 _ _ et,rfl,ay ⟨L,a.2,rfl,⟨_,aq.of e5⟩,⟨_,aq.of<|s5 _ _ el⟩,?_⟩⟩;have ye:=s5 _ _ Pu;have yf:=s5 _ _ F6;have rM:=s5 _ _ el;refine k91 (xs:=ts.map V.ref) (ys:=(row n r).map V.str) (by rw [Aa,Aa,l5]) (λp σ' b8=>∃ kM kO u2 u3,(∀ b o,b≠dm->b≠dO->H5 b=some o->b8 b=some o)/\b8 dm=some (.dK kM)/\b8 dO=some (.dT kO)/\i7 n (bo (n.take r)++bu r ((row n r).take p) 0) b8 kM kO/\σ'=[some<|.ref R,some<|.ref dm,some<|.ref dO,some<|.ref a.1,u2,u3])
   ⟨kM,kO,_,_,λb o _ _ h=>h,ye,yf,?_,rfl⟩ ?_ ?_ ?_
  ·have:bu r ((row n r).take 0) 0=[]:=by simp [bu]
   rw [this,Bi];exact I.keep λt p j h=>s5 _ _ h
  ·rintro p σ' b8 _ ⟨kM,kO,u2,u3,kb,_,_,_,rfl⟩;exact⟨aq.of (kb _ _ (ce e5 ye λz=>nomatch z) (ce e5 yf λz=>nomatch z) e5),aq.of<|kb _ _ (ce rM ye λz=>nomatch z) (ce rM yf λz=>nomatch z) rM⟩
  ·rintro p x y Tt σ' b8 hx hy ⟨kM,kO,u2,u3,kb,yg,yh,I6,rfl⟩ i8;rw [Ah,Aw] at hx hy;obtain⟨te,nR,rfl⟩:=hx;obtain⟨z,hz,rfl⟩:=hy;have mv:=t5 p te nR;have uB:b8 te=some (Tn n[r].1 p):=kb _ _ (Pt mv ye) (kR mv yf) mv;have mw:aK n (r,p)=some z:=hz;obtain⟨rest,d8⟩:=uv hi hz;have hlen:(bo (n.take r)++bu r ((row n r).take p) 0).length < 1000:=by
    have h1:(bo n).length=(ag n).length:=by
     have:=BZ List.length<|kJ n 0;rw [Aa] at this;exact this
    have h2:=BZ List.length d8;rw [Af,Aq] at h2;omega
   have iG:bo (n.take r)++bu r ((row n r).take<|p+1) 0=(bo (n.take r)++bu r ((row n r).take p) 0)++[(z,(r,p))]:=by
    rw [ph hz,Ar]
   have kd:∀ b,b∈bG (bo (n.take r)++bu r ((row n r).take p) 0) z->b≠(r,p):=λb hb e=>by
    have hm:=uw hb;have pJ:=ra n;unfold ends at pJ;rw [d8,Aj,Bj] at pJ;exact(Ci.mp pJ).2.2 _ (An.mpr ⟨_,hm,rfl⟩) _ Ae e
   have uC:(bG (bo (n.take r)++bu r ((row n r).take p) 0) z).length<=1:=by
    have h1:(pos n z).length=2:=by rw [o9];exact hT z<|dZ mw
    have h2:pos n z=bG (bo (n.take r)++bu r ((row n r).take p) 0) z++bG ((z,(r,p)) :: rest) z:=by
     show bG (bo n) z=_;rw [d8];unfold bG;rw [Cn,Aj]
    have h3:1<=(bG ((z,(r,p)) :: rest) z).length:=by
     unfold bG;rw [Dh,BP<|by simp];simp
    rw [h2,Af] at h1;omega
   generalize bo (n.take r)++bu r ((row n r).take p) 0=done at I6 hlen iG kd uC;rw [iG];have hTm:Tt≠dm:=λe=>by rw [e,yg] at i8;cases i8
   have hTo:Tt≠dO:=λe=>by rw [e,yh] at i8;cases i8
   have s7:=aS i8<|.tup [.ref te,.str z];have F7:∀ b o,b≠dm->b≠dO->H5 b=some o->(upd b8 Tt<|.tup [.ref te,.str z]) b=some o:=λb o h1 h2 h=>s7 _ _<|kb b o h1 h2 h;have rN:=s7 _ _ yg;have rO:=s7 _ _ yh;have I7:=I6.keep (H':=upd b8 Tt<|.tup [.ref te,.str z]) λt p j h=>s7 _ _ h;have mD:=s7 _ _ uB;refine iA rfl (aJ.of aw) (bf 4 nd<|bf 5 nd ?_);show Run _ _ _ [some<|.ref R,some<|.ref dm,some<|.ref dO,some<|.ref a.1,some<|.ref te,some<|.str z] _;generalize upd b8 Tt (.tup [.ref te,.str z])=H7 at F7 rN rO I7 mD;have p8:H7 te=some (TN n (r,p)):=by
    show H7 te=some (Tn (nameAt n r) p);rw [enm];exact mD
   have hM:kM.length < sizeLine:=bS (by have:=I7.dL;omega);have hO:kO.length < sizeLine:=bS (by have:=I7.ft;omega);refine du<|MZ hu<|ae 5<|ae 1 ⟨dm,_,rfl,aV.k (k:=Sum.inr z) rN,?_⟩
   match jx:bG done z with
   | []=>
    rw [I7.m0 z jx];show if false=true then _ else _;rw [BL Av];refine qZ hu<|ae 4<|ae 1<|ae 5 ⟨dm,_,rfl,bU.k (k:=Sum.inr z) rN hM,aY<|aY ⟨_,kO,_,_,λb o h1 h2 h=>?_,aw,?_,?_,rfl⟩⟩
    ·rw [av h1];exact F7 b o h1 h2 h
    ·rw [av uA];exact rO
    ·exact(I7.new p8 mw jx).keep λt p j h=>by rw [av<|Pt h rN];exact h
   | b :: more=>
    have uD:more=[]:=by
     rw [jx,Aq] at uC;exact Bk.mp<|by omega
    subst uD;obtain⟨tm,vm,F8⟩:=I7.m1 z b [] jx;rw [vm];show if true=true then _ else _;rw [BP rfl];have k6:b≠(r,p):=kd b (by rw [jx];exact Ad.mpr rfl);refine qZ hu (f7 hu<|ae 1<|ae 5 ⟨dm,.ref tm,rfl,by rw [<- vm];exact aV.k (k:=Sum.inr z) rN,ae 2<|ae 4 ⟨dO,_,rfl,bU.t (k:=key n (r,p)) rO p8 hO,?_⟩⟩);have hO2:=ik kO (key n (r,p))<|.ref tm;have hO3:=I7.ft;have Pw:(upd H7 dO<|.dT<|putK kO (key n (r,p))<|.ref tm) dm=some (.dK kM):=by rw [av<|CG uA];exact rN
    have F9:(upd H7 dO<|.dT<|putK kO (key n (r,p))<|.ref tm) tm=some (TN n b):=by rw [av<|kR F8 rO];exact F8
    refine qZ hu<|ae 4<|ae 2<|f7 hu<|ae 1<|ae 5 ⟨dm,.ref tm,rfl,by rw [<- vm];exact aV.k (k:=Sum.inr z) Pw,dO,_,rfl,bU.t (k:=key n b) aw F9 (bS<|by omega),aY<|aY ⟨kM,_,_,_,λb o h1 h2 h=>?_,?_,aw,?_,rfl⟩⟩
    ·rw [av h2,av h2];exact F7 b o h1 h2 h
    ·rw [av<|CG uA];exact Pw
    ·exact(I7.old hN p8 F8 mw jx k6).keep λt p j h=>by rw [av<|kR h rO,av<|kR h rO];exact h
  ·rintro σ' b8 ⟨kM,kO,u2,u3,kb,yg,yh,I6,rfl⟩;refine aY ⟨kM,kO,_,_,_,λb o h=>?_,yg,yh,?_,rfl⟩
   ·exact kb b o (bg h pC) (bg h p7)<|s5 _ _<|sm _ _ h
   ·rw [Aa,l5,Bu] at I6;rw [rh hi];exact I6
 ·rintro σ H' ⟨kM,kO,u1,u2,u3,sm,Pu,F6,I,rfl⟩;rw [Aa,bY,Bu] at I;have lO:=I.ft;have ls:(bo n).length=(ag n).length:=by rw [<- kJ n 0,Aa];rfl
  exact bO<|ae 2<|q dO kO H' sm p7 F6 (λe he=>I.whole hT he) I.nd (λk hk=>let ⟨p,hp,e⟩:=I.ks k hk;⟨p.2,An.mpr ⟨p,hp,rfl⟩,e⟩)<|by omega
end
def mE(n:Net)(H:Hp)(us:List Addr)(done:List<|Str×Nt.End):Prop:=us.length=done.length/\∀(j:Nat) u p,us[j]?=some u->done[j]?=some p->H u=some (TN n p.2)
theorem mE.keep{n:Net}{H H':Hp}{us:List Addr}{done:List (Str×Nt.End)}(h:mE n H us done)(k:∀ t p j,H t=some (Tn p j)->H' t=some (Tn p j)):mE n H' us done:=⟨h.1,λj u p h1 h2=>k _ _ _<|h.2 j u p h1 h2⟩
theorem mE.snoc{n:Net}{H H':Hp}{us:List Addr}{done:List (Str×Nt.End)}{u:Addr}{p:Str×Nt.End}(h:mE n H us done)(k:∀ t p j,H t=some (Tn p j)->H' t=some (Tn p j))(hu:H' u=some (TN n p.2)):mE n H' (us++[u]) (done++[p]):=by
 obtain⟨hl,ha⟩:=h;refine⟨by rw [Af,Af,hl];rfl,λj v x hv hx=>?_⟩
 by_cases hj:j < us.length
 ·rw [As hj] at hv;rw [As<|by omega] at hx;exact k _ _ _<|ha j v x hv hx
 ·rw [Az<|by omega] at hv hx;have fB:j - us.length=0:=by
   have:=(Ac.mp hv).1;simp at this;omega
  have hj3:j - done.length=0:=by omega
  rw [fB] at hv;rw [hj3] at hx;cases hv;cases hx;exact hu
section
variable{X:Cx}{tg:Expr}{ifs:List Expr}{inner:Sem Unit}{σ:St}{H:Hp}{a b:Addr}{xs ys:List V}{after:St->Hp->Prop}
theorem F'(Pv:Nat->St->Hp->Prop)(h0:Pv 0 σ H)(hl:∀ i σ' H',i<=xs.length->Pv i σ' H'->aq X.K H' a xs)
  (hs:∀ i x σ' H',xs[i]?=some x->Pv i σ' H'->Eg X tg x σ' H' λσ2 H3=>Ei X ifs σ2 H3 λb H4=>if b=true then m7 X inner σ2 H4 (Pv<|i+1) else Pv (i+1) σ2 H4)
  (hd:∀ σ' H',Pv xs.length σ' H'->after σ' H'):iV X tg ifs inner (oo X.K a) after σ H:=by
 refine⟨λi m σ' H'=>m=xs.length - i/\i<=xs.length/\Pv i σ' H',⟨_,rfl,Bx _,h0⟩,?_⟩;rintro i m σ' H' ⟨rfl,hi,p⟩;have q:=hl i σ' H' hi p
 by_cases a7:i < xs.length
 ·refine .inr ⟨⟨xs,xs[i],q,by simp [a7]⟩,Pv<|i+1,λσ' H' p'=>⟨xs.length - (i+1),by omega,rfl,a7,p'⟩,λx H2 y=>?_⟩;obtain⟨e,y⟩:=y;subst e;exact hs i x σ' _ (y xs q) p
 ·have e:i=xs.length:=by omega
  subst e;exact .inl ⟨⟨xs,q,Al _⟩,hd σ' H' p⟩
theorem k2b(hlen:xs.length=ys.length)(Pv:Nat->St->Hp->Prop)(h0:Pv 0 σ H)(hl:∀ i σ' H',i<=xs.length->Pv i σ' H'->aq X.K H' a xs/\aq X.K H' b ys)
  (hs:∀ i x y T σ' H',xs[i]?=some x->ys[i]?=some y->Pv i σ' H'->H' T=none->Eg X tg (.ref T) σ' (upd H' T<|.tup [x,y]) λσ2 H3=>Ei X ifs σ2 H3 λb H4=>if b=true then m7 X inner σ2 H4 (Pv<|i+1) else Pv (i+1) σ2 H4)
  (hd:∀ σ' H',Pv xs.length σ' H'->after σ' H'):iV X tg ifs inner (xK X.K a b) after σ H:=by
 refine⟨λi m σ' H'=>m=xs.length - i/\i<=xs.length/\Pv i σ' H',⟨_,rfl,Bx _,h0⟩,?_⟩;rintro i m σ' H' ⟨rfl,hi,p⟩;obtain⟨q1,q2⟩:=hl i σ' H' hi p
 by_cases a7:i < xs.length
 ·refine .inr ⟨⟨xs,ys,xs[i],ys[i],q1,q2,Ab a7,Ab<|by omega⟩,Pv<|i+1,λσ' H' p'=>⟨xs.length - (i+1),by omega,rfl,a7,p'⟩,λv H2 y=>?_⟩;obtain⟨T,x,y,hT,rfl,rfl,y1,y2⟩:=y;exact hs i x y T σ' _ (y1 xs q1) (y2 ys q2) p hT
 ·have e:i=xs.length:=by omega
  subst e;exact .inl ⟨⟨xs,ys,q1,q2,.inl<|Al _⟩,hd σ' H' p⟩
end
def Gs:Sp:=λvs H Q _=>∃(R:Addr) (as:List<|Addr×Addr) (n:Net),vs=[.ref R]/\ai H R as n/\n.length<=1000/\(ag n).length<=1000 /\
 ∀(L:Addr) (ts:List Addr) (H':Hp),aj H H'->H L=none->H' L=some (.lst<|ts.map V.ref)->mE n H' ts (bo n)->Q (.ref L) H'
section
variable{P:Program}{w:World}{K:PySem.W.Frag}{mg:Str->Option Value}{base:Heap}
abbrev Px:List Str:=["rows"]
abbrev Py:List Str:=["rows","row","end"]
theorem iH:ak Px ["rows"] (a8 xo):=⟨rfl,rfl,rfl,by decide +kernel,rfl,by decide +kernel,by decide +kernel⟩
theorem Pz:Py.Nodup:=by decide +kernel
theorem q1t{f:Addr}{fd:FuncData}(F:bE K "ends_in_order" "ends_in_order" xo f fd)(T:Txt mg)
  (GE:aO P w K mg base 1 "ends_round" ["row"] ut) :
  aI P w K mg base bB 2 f fd ["rows"] Gs:=by
 refine F.gb iH (λvs H Q E h=>?_) λb0 H vs Q E hr h=>?_
 ·obtain⟨R,as,n,rfl,_⟩:=h;rfl
 obtain⟨R,as,n,rfl,hR,hn,ht,q⟩:=h;have nd:=iH.nd;have bY:=hR.len;show Run _ _ _ [some<|.ref R] H;refine bO<|YY (a8 xo) Px Py 2 (gA bt)<|ae 0 ⟨R,rfl,⟨_,aq.of hR.lst⟩,λD hD cl C s₀ H₀ ex=>?_⟩;refine F' (xs:=as.map λa=>V.ref a.1) (λr σ' H'=>(∃ v1 v2,σ'=[some<|.ref R]++[v1,v2])/\∃ ts:List Addr,aj H H'/\H' D=some (.lst<|ts.map V.ref)/\mE n H' ts (bo<|n.take r)) ⟨⟨none,none,rfl⟩,[],aS hD _,aw,⟨rfl,λj u p h=>(by cases h)⟩⟩ ?_ ?_ ?_
 ·rintro r σ' H' _ ⟨_,ts,sm,_⟩;exact aq.of<|sm _ _ hR.lst
 ·rintro r x σ' H' hx ⟨⟨v1,v2,rfl⟩,ts,sm,eD,AN⟩;have hi:r < n.length:=by
   have:=(Ac.mp hx).1;rw [Aa] at this;omega
  obtain⟨a,ea,dj,et,el,er⟩:=(hR.same sm).at hi;rw [Ah,ea] at hx;cases hx;have fq:(row n r).length<=1000:=Bs (iq n r) ht;refine bf 1 Pz ?_;refine jm ?_;rw [BP rfl];refine YX rfl rfl (gA bt) (bn GE hr<|ah<|ae 1<|ay ⟨a.1,a.2,n[r].1,row n r,rfl,et,el,fq,λL us H5 s5 n5 e5 l5 t5=>⟨L,rfl,⟨_,aq.of e5⟩,?_⟩⟩);have Gu:L≠D:=λe=>by rw [e,eD] at n5;cases n5
  refine F' (xs:=us.map V.ref) (λp σ' b8=>(∃ v2,σ'=[some<|.ref R]++[some<|.ref a.1,v2])/\∃ ts:List Addr,(∀ b o,b≠D->H5 b=some o->b8 b=some o)/\b8 D=some (.lst<|ts.map V.ref)/\mE n b8 ts (bo (n.take r)++bu r ((row n r).take p) 0))
   ⟨⟨_,rfl⟩,ts,λb o _ h=>h,s5 _ _ eD,by simpa [bu] using AN.keep (H':=H5) λt p j h=>s5 _ _ h⟩ ?_ ?_ ?_
  ·rintro p σ' b8 _ ⟨_,ts,kb,_⟩;exact aq.of<|kb _ _ Gu e5
  ·rintro p x σ' b8 hx ⟨⟨v2,rfl⟩,ts,kb,ke,uE⟩;rw [Ah,Aw] at hx;obtain⟨te,nR,rfl⟩:=hx;have hp:p < (row n r).length:=by have:=(Ac.mp nR).1;omega
   have hz:(row n r)[p]?=some (row n r)[p]:=Ab hp;generalize (row n r)[p]=z at hz;have mv:=t5 p te nR;have yi:te≠D:=ce mv (s5 _ _ eD) λz=>nomatch z;have uB:=kb _ _ yi mv;obtain⟨rest,d8⟩:=uv hi hz;have hlen:ts.length < 1000:=by
    have h1:(bo n).length=(ag n).length:=by
     have:=BZ List.length<|kJ n 0;rw [Aa] at this;exact this
    have h2:=BZ List.length d8;rw [Af,Aq] at h2;have:=uE.1;omega
   refine bf 2 Pz ?_;refine jm ?_;rw [BP rfl];refine L5 (ae 2 ⟨ts.map V.ref,ke,by rw [Aa];exact bS (by omega),⟨_,rfl⟩,ts++[te],λb o hb h=>by rw [av hb];exact kb b o hb h,by rw [aw,Aj];rfl,?_⟩);rw [ph hz,<- Ar];refine uE.snoc (λt p j h=>by rw [av<|ce h ke λz=>nomatch z];exact h) ?_;rw [av yi];show b8 te=some (Tn (nameAt n r) p);rw [pY hi];exact uB
  ·rintro σ' b8 ⟨⟨v2,rfl⟩,ts,kb,ke,uE⟩;refine⟨⟨_,_,rfl⟩,ts,λb o h=>kb b o (bg h hD)<|s5 _ _<|sm _ _ h,ke,?_⟩;rw [Aa,l5,Bu,<- rh hi] at uE;exact uE
 ·rintro σ' H' ⟨_,ts,sm,eD,AN⟩;rw [Aa,bY,Bu] at AN;exact q D ts H' sm hD eD AN
end
section
variable{X:Cx}{H:Hp}
theorem PD{k:Nat}(z:Str):jS X H k (.str z) (.str z) true:=by
 have:=tM (X:=X) (H:=H) (k:=k) (x:= .str z) (y:= .str z) rfl rfl;have e:cI (.str z) (.str z)=true:=by show(z == z)=true;simp
 rw [e] at this;exact this
theorem q6w{p p':Str}{j j':Int}:∀(i:Nat) (u v:V),[V.str p,.int j][i]?=some u->[V.str p',.int j'][i]?=some v->jS X H 0 u v (if i=0 then cI (.str p) (.str p') else cI (.int j) (.int j'))
 | 0,u,v,h1,h2=>by
  cases h1;cases h2;exact tM rfl rfl
 | 1,u,v,h1,h2=>by
  cases h1;cases h2;exact tM rfl rfl
 | i+2,u,v,h1,h2=>by simp at h1
theorem q54(p p':Str)(j j':Int):(cI (.str p) (.str p') && cI (.int j) (.int j'))=decide (p=p'/\j=j'):=by
 show((p == p') && (j == j'))=_
 by_cases h:p=p' <;> by_cases h2:j=j' <;> simp [h,h2]
theorem q6v{s t:Addr}{p p':Str}{j j':Int}(hs:H s=some (Tn p j))(ht:H t=some (Tn p' j')):qY X H 1 (.ref s) (.ref t) (decide (p=p'/\j=j')):=by
 have:=MU (X:=X) (k:=0) (λi=>if i=0 then cI (.str p) (.str p') else cI (.int j) (.int j')) (aJ.of hs) (aJ.of ht) rfl q6w;rw [show([V.str p,.int j].length)=2 from rfl,all2] at this;have e:=q54 p p' j j';simp only [DP] at this;rw [BL (by decide),e] at this;exact this
theorem Gv{a b:Addr}{zs:List Str}(ha:H a=some (Ls zs))(hb:H b=some (Ls zs)):lV X H 1 (.ref a) (.ref b) true:=by
 have q:=MS (X:=X) (k:=0) (λ_=>true) (aq.of (K:=X.K) ha) (aq.of (K:=X.K) hb) rfl λj x y hx hy=>by
  rw [hx] at hy;cases hy;rw [Ah,Aw] at hx;obtain⟨z,_,rfl⟩:=hx;exact PD z
 rw [CB] at q;exact q
theorem PF{k:Nat}{a b:Addr}(h:lV X H k (.ref a) (.ref b) true):jS X H k (.ref a) (.ref b) true:=by
 by_cases e:a=b
 ·subst e;exact XA
 ·exact XB e h
theorem q1o{R R':Addr}{as bs:List (Addr×Addr)}{n:Net}(h:ai H R as n)(g:ai H R' bs n):lV X H 3 (.ref R) (.ref R') true:=by
 have q:=MS (X:=X) (k:=2) (λ_=>true) (aq.of (K:=X.K) h.lst) (aq.of (K:=X.K) g.lst) (by rw [Aa,Aa,h.len,g.len]) λj x y hx hy=>by
  rw [Ah,Aw] at hx hy;obtain⟨a,ea,rfl⟩:=hx;obtain⟨b,eb,rfl⟩:=hy;have hj:j < n.length:=by
   have:=(Ac.mp ea).1;have:=h.len;omega
  obtain⟨q1,q2⟩:=h.tup j a n[j] ea<|Ab hj;obtain⟨q3,q4⟩:=g.tup j b n[j] eb<|Ab hj;have t:=MT (X:=X) (k:=1) (λ_=>true) (aJ.of (K:=X.K) q1) (aJ.of (K:=X.K) q3) rfl λi x y hx hy=>by
   match i with
   | 0=>cases hx;cases hy;exact PD _
   | 1=>cases hx;cases hy;exact PF<|Gv q2 q4
   | i+2=>simp at hx
  rw [CB] at t;exact PF t
 rw [CB] at q;exact q
end
def mF:Sp:=λvs H Q _=>∃(R:Addr) (as:List<|Addr×Addr) (n:Net),vs=[.ref R]/\ai H R as n/\(n.map (·.1)).Nodup/\n.length<=1000/\(ag n).length<=1000 /\
 ∀(d:Addr) (kvs:List<|List Key×V) (H':Hp),aj H H'->H d=none->H' d=some (.dT kvs)->(∀ e z,aK n e=some z->aB kvs (key n e)=some (.str z))->Q (.ref d) H'
section
variable{P:Program}{w:World}{K:PySem.W.Frag}{mg:Str->Option Value}{base:Heap}
abbrev PH:List Str:=["rows"]
abbrev PQ:List Str:=["rows","row","end","tie"]
theorem Gw:ak PH ["rows"] (a8 xq):=⟨rfl,rfl,rfl,by decide +kernel,rfl,by decide +kernel,by decide +kernel⟩
theorem Gx:PQ.Nodup:=by decide +kernel
theorem q9j{f:Addr}{fd:FuncData}(F:bE K "ties_by_end" "ties_by_end" xq f fd)(T:Txt mg)
  (GE:aO P w K mg base 1 "ends_round" ["row"] ut) :
  aI P w K mg base bB 2 f fd ["rows"] mF:=by
 refine F.gb Gw (λvs H Q E h=>?_) λb0 H vs Q E hr h=>?_
 ·obtain⟨R,as,n,rfl,_⟩:=h;rfl
 obtain⟨R,as,n,rfl,hR,hN,hn,ht,q⟩:=h;have bY:=hR.len;have hu:=hr.u1;show Run _ _ _ [some<|.ref R] H;refine bO<|Y3 (a8 xq) PH PQ 3 (gA bt)<|ae 0 ⟨R,rfl,⟨_,aq.of hR.lst⟩,λD hD cl C s₀ H₀ ex=>?_⟩;refine F' (xs:=as.map λa=>V.ref a.1) (λr σ' H'=>(∃ v1 v2 v3,σ'=[some<|.ref R]++[v1,v2,v3])/\∃ kvs:List<|List Key×V,aj H H'/\H' D=some (.dT kvs)/\kvs.length<=(bo<|n.take r).length/\∀ p∈bo (n.take r),aK n p.2=some p.1/\aB kvs (key n p.2)=some (.str p.1)) ⟨⟨none,none,none,rfl⟩,[],aS hD _,aw,Bx _,λp h=>(by cases h)⟩ ?_ ?_ ?_
 ·rintro r σ' H' _ ⟨_,kvs,sm,_⟩;exact aq.of<|sm _ _ hR.lst
 ·rintro r x σ' H' hx ⟨⟨v1,v2,v3,rfl⟩,kvs,sm,eD,PR,yj⟩;have hi:r < n.length:=by
   have:=(Ac.mp hx).1;rw [Aa] at this;omega
  obtain⟨a,ea,dj,et,el,er⟩:=(hR.same sm).at hi;rw [Ah,ea] at hx;cases hx;have fq:(row n r).length<=1000:=Bs (iq n r) ht;refine bf 1 Gx ?_;refine jm ?_;rw [BP rfl];refine Y2 rfl rfl (NM rfl T.zip (ta:=tq _ _) iR) ?_;show Ea _ _ _ _ _;refine ah<|bn GE hr<|ah<|ae 1<|ay ⟨a.1,a.2,n[r].1,row n r,rfl,et,el,fq,λL us H5 s5 n5 e5 l5 t5=>?_⟩;refine ah<|aU bJ<|ae 1<|aC ⟨a.1,_,_,.ref a.2,rfl,rfl,aJ.of<|s5 _ _ et,rfl,ay ⟨L,a.2,rfl,⟨_,aq.of e5⟩,⟨_,aq.of<|s5 _ _ el⟩,?_⟩⟩;have kS:=s5 _ _ eD;have rM:=s5 _ _ el;refine k2b (xs:=us.map V.ref) (ys:=(row n r).map V.str) (by rw [Aa,Aa,l5]) (λp σ' b8=>(∃ v2 v3,σ'=[some<|.ref R]++[some<|.ref a.1,v2,v3])/\∃ kvs:List<|List Key×V,(∀ b o,b≠D->H5 b=some o->b8 b=some o)/\b8 D=some (.dT kvs)/\kvs.length<=(bo (n.take r)++bu r ((row n r).take p) 0).length/\∀ x∈bo (n.take r)++bu r ((row n r).take p) 0,aK n x.2=some x.1/\aB kvs (key n x.2)=some (.str x.1))
   ⟨⟨_,_,rfl⟩,kvs,λb o _ h=>h,kS,by simpa [bu] using PR,by simpa [bu] using yj⟩ ?_ ?_ ?_
  ·rintro p σ' b8 _ ⟨_,kvs,kb,_⟩;exact⟨aq.of (kb _ _ (ce e5 kS λz=>nomatch z) e5),aq.of<|kb _ _ (ce rM kS λz=>nomatch z) rM⟩
  ·rintro p x y Tt σ' b8 hx hy ⟨⟨v2,v3,rfl⟩,kvs,kb,ke,p9,mG⟩ i8;rw [Ah,Aw] at hx hy;obtain⟨te,nR,rfl⟩:=hx;obtain⟨z,hz,rfl⟩:=hy;have mv:=t5 p te nR;have yi:te≠D:=ce mv kS λz=>nomatch z;have uB:=kb _ _ yi mv;have mw:aK n (r,p)=some z:=hz;obtain⟨rest,d8⟩:=uv hi hz;have hlen:(bo (n.take r)++bu r ((row n r).take p) 0).length < 1000:=by
    have h1:(bo n).length=(ag n).length:=by
     have:=BZ List.length<|kJ n 0;rw [Aa] at this;exact this
    have h2:=BZ List.length d8;rw [Af,Aq] at h2;omega
   have nTD:Tt≠D:=λe=>by rw [e,ke] at i8;cases i8
   have s7:=aS i8<|.tup [.ref te,.str z];refine iA rfl (aJ.of aw) (bf 2 Gx<|bf 3 Gx ?_);refine jm ?_;rw [BP rfl];have mD:(upd b8 Tt<|.tup [.ref te,.str z]) te=some (.tup<|(key n (r,p)).map kV):=by
    rw [s7 _ _ uB];show some (Tn n[r].1 (p:Int))=some (Tn (nameAt n r) (p:Int));rw [pY hi]
   refine EB hu<|ae 2<|ae 3 ⟨_,bU.t (k:=key n (r,p)) (s7 _ _ ke) mD (bS<|by omega),⟨_,_,rfl⟩,_,λb o hb h=>?_,aw,?_,?_⟩
   ·rw [av hb];exact s7 _ _<|kb b o hb h
   ·rw [ph hz,<- Ar,Af];have:=ik kvs (key n (r,p))<|.str z;show _<=_+1;omega
   ·rw [ph hz,<- Ar];intro x hx
    rcases Am.mp hx with h | h
    ·obtain⟨q1,q2⟩:=mG x h;refine⟨q1,?_⟩;rw [db]
     by_cases hk:key n x.2=key n (r,p)
     ·rw [BP hk];have:=pZ hN (cN q1) (cN mw) hk;rw [this,mw] at q1;rw [Option.some.inj q1]
     ·rw [BL hk];exact q2
    ·rw [Ad.mp h];exact⟨mw,by rw [db,BP rfl]⟩
  ·rintro σ' b8 ⟨⟨v2,v3,rfl⟩,kvs,kb,ke,p9,mG⟩;rw [Aa,l5,Bu,<- rh hi] at p9 mG;exact⟨⟨_,_,_,rfl⟩,kvs,λb o h=>kb b o (bg h hD)<|s5 _ _<|sm _ _ h,ke,p9,mG⟩
 ·rintro σ' H' ⟨_,kvs,sm,eD,PR,yj⟩;rw [Aa,bY,Bu] at yj;exact q D kvs H' sm hD eD λe z he=>(yj (z,e)<|aT.mpr he).2
theorem Gy(K:PySem.W.Frag):PySem.W.kitOne K (.type "list") (.type "list")=some true:=by rfl
theorem uF(K:PySem.W.Frag):PySem.W.kitOne K (.type "tuple") (.type "tuple")=some true:=by rfl
theorem Gz(K:PySem.W.Frag):PySem.W.kitOne K (.type "str") (.type "str")=some true:=by rfl
theorem GA{κ:Type} [DecidableEq κ]:∀{kvs:List (κ×V)} {i:Nat} {p:κ×V},(kvs.map (·.1)).Nodup->kvs[i]?=some p->aB kvs p.1=some p.2
 | [],_,_,_,h=>by simp at h
 | q :: r,0,p,_,h=>by
  cases h;exact gQ rfl
 | q :: r,i+1,p,hn,h=>by
  rw [Bj,Be] at hn;have hm:r[i]?=some p:=by simpa using h
  rw [gB λe=>hn.1<|by rw [e];exact An.mpr ⟨p,Ap hm,rfl⟩];exact GA hn.2 hm
theorem PU{κ:Type}{l:List κ}(h:l.Nodup){i j:Nat}{a:κ}(hi:l[i]?=some a)(hj:l[j]?=some a):i=j:=by
 have h1:=(Ac.mp hi).1;have h2:=(Ac.mp hj).1;have e1:=(Ac.mp hi).2;have e2:=(Ac.mp hj).2
 rcases QV i j with c | c | c
 ·exact absurd (e1.trans e2.symm)<|Bn.mp h i j h1 h2 c
 ·exact c
 ·exact absurd (e2.trans e1.symm)<|Bn.mp h j i h2 h1 c
def ja(c:Int):Sp:=λvs H Q _=>∃(R:Addr) (as:List<|Addr×Addr) (n:Net),vs=[.ref R]/\ai H R as n/\(n.map (·.1)).Nodup/\ax n/\n.length<=1000/\(ag n).length<=1000 /\
 ∀(d:Addr) (kvs:List<|List Key×V) (H':Hp),aj H H'->H d=none->H' d=some (.dT kvs)->(∀ e∈ends n,∃ u,aB kvs (key n e)=some (.ref u)/\H' u=some (TN n<|go c n e))->Q (.ref d) H'
abbrev mH:List Str:=["rows","lists"]
abbrev qb:List Str:=["rows","lists","end","other"]
theorem yk:qb.Nodup:=by decide +kernel
theorem uG:ak mH ["rows"] (a8 xr):=⟨rfl,rfl,rfl,by decide +kernel,rfl,by decide +kernel,by decide +kernel⟩
theorem q9f{f:Addr}{fd:FuncData}(F:bE K "left_steps" "left_steps" xr f fd)(T:Txt mg)
  (GO:aO P w K mg base 2 "other_ends" ["rows"] mr)
  (GT:aO P w K mg base 2 "turned_left" ["end","many"]<|i6 λj=>j+1) :
  aI P w K mg base bB 3 f fd ["rows"] (ja<|1):=by
 refine F.gb uG (λvs H Q E h=>?_) λb0 H vs Q E hr h=>?_
 ·obtain⟨R,as,n,rfl,_⟩:=h;rfl
 obtain⟨R,as,n,rfl,hR,hN,hT,hn,ht,q⟩:=h;have nd:=uG.nd;have bY:=hR.len;have hu:=hr.u1;show Run _ _ _ [some<|.ref R,none] H;have keys:=F5 n as bY;have knd:((df n as).map (·.1)).Nodup:=by rw [keys];exact Pn hN
 have qc:(df n as).length=n.length:=by have:=BZ List.length keys;simpa using this
 refine aW 1 nd (lG (Ny rfl) T.ng TJ (ah (ae 0 (ay ⟨R,as.map (·.1),df n as,rfl,?_,?_,?_,?_,λdl gD=>?_⟩))))
 ·rw [Ca];exact hR.lst
 ·rw [Aa,qc,bY]
 ·rw [Aa];exact bS<|by omega
 ·intro j t kv h1 h2;rw [Ah,Aw] at h1;obtain⟨a,ea,rfl⟩:=h1;have hj:j < n.length:=by have:=(Ac.mp ea).1;omega
  have e:=yc (Ab hj) ea;rw [h2] at e;cases e;exact(hR.tup j a n[j] ea<|Ab hj).1
 have ef:(df n as).foldl (λa p=>putK a p.1 p.2) []=df n as:=by
  rw [Pk (acc:=[]) (by rw [Fc];exact knd),Fc]
 rw [ef];have s1:=aS gD<|.dK<|df n as;have el:(upd H dl<|.dK<|df n as) dl=some (.dK<|df n as):=aw;generalize upd H dl (.dK<|df n as)=H1 at s1 el;show Run _ _ _ [some<|.ref R,some<|.ref dl] H1;refine bO<|NV (a8 xr) mH qb 2 (N0 bt) ?_;refine bn GO hr<|ah<|ae 0<|ay ⟨R,as,n,rfl,hR.same s1,hN,hT,hn,ht,λd kvs H2 s2 nG ed val kg GH uH=>?_⟩;refine⟨d,kvs,rfl,ed,λo D hD cl C s₀ H₀ ex=>?_⟩;have GU:D≠d:=λe=>by rw [e,aw] at hD;cases hD
 have mI:H2 D=none:=by rw [av GU] at hD;exact hD
 have uI:H d=none:=g6 s1 nG;have sB:aj H (upd H2 d<|.bD o<|.dT kvs):=dN (s1.trans s2) uI;have kB:∀ b o',b≠d->H2 b=some o'->(upd H2 d<|.bD o<|.dT kvs) b=some o':=λb o' hb h=>by rw [av hb];exact h
 have tB:∀ b p j,H2 b=some (Tn p j)->(upd H2 d<|.bD o<|.dT kvs) b=some (Tn p j):=λb p j h=>kB b _ (kR h ed) h;have uJ:(upd H2 d<|.bD o<|.dT kvs) d=some (.bD o<|.dT kvs):=aw;have uK:(upd H2 d<|.bD o<|.dT kvs) dl=some (.dK<|df n as):=kB _ _ (λe=>by rw [e,nG] at el;cases el)<|s2 _ _ el;have GV:=hR.same sB;generalize upd H2 d (.bD o<|.dT kvs)=HB at hD sB tB uJ uK GV;have qd:=g6 sB hD;refine N2 (λi σ' H'=>(∃ v1 v2,σ'=[some<|.ref R,some<|.ref dl]++[v1,v2])/\∃ g7:List<|List Key×V,H' D=some (.dT g7)/\g7.length<=i/\aj HB H' /\
  (∀ j k x e,j < i->kvs[j]?=some (k,x)->e∈ends n->k=key n e->∃ u,aB g7 (key n e)=some (.ref u)/\H' u=some (TN n<|go (1) n e)))
  ⟨⟨none,none,rfl⟩,[],aw,Al _,aS hD _,λj k x e h=>absurd h<|Dy _⟩ ?_ ?_ ?_
 ·rintro i σ' H' _ ⟨_,_,_,_,sm,_⟩;exact sm _ _ uJ
 ·rintro i k x b Tt σ' H' hx ⟨⟨v1,v2,rfl⟩,g7,eD,l2,sm,all⟩ hb i8;have hi:i < kvs.length:=(Ac.mp hx).1;obtain⟨e,he,rfl⟩:=GH k<|An.mpr ⟨_,Ap hx,rfl⟩;obtain⟨u,hv,nw⟩:=val e he;have uL:aB kvs (key n e)=some x:=GA kg hx;rw [hv] at uL;cases uL;have oW:=cZ hT he;obtain⟨zo,uM⟩:=af.mp oW;have fq:=cN uM;have rJ:=f9 uM;have GY:nameAt n (other n e).1=n[(other n e).1].1:=pY fq;have sT:=aS i8<|.tup [.ref b,.ref u];have uN:=sT _ _<|sm _ _<|tB _ _ _ nw;refine iA rfl (aJ.of aw) (bf 2 yk<|bf 3 yk ?_);refine jm ?_;rw [BP rfl];have uO:as[(other n e).1]?=some (as[(other n e).1]'(by omega)):=Ab (by omega);have uP:n[(other n e).1]?=some n[(other n e).1]:=Ab fq;have ev:aB (df n as) (Sum.inr<|nameAt n (other n e).1)=some (.ref (as[(other n e).1]'(by omega)).2):=by rw [GY];exact F4 knd<|yc uP uO
  have qe:=(hR.tup _ _ _ uO uP).2;have kh:row n (other n e).1=n[(other n e).1].2:=iZ fq;refine EB hu<|ae 2<|bn GT hr<|ah<|ae 3<|ah<|bW cX T.len DK<|ah<|f7 hu<|ae 1<|aU bJ<|ae 3<|aC ⟨u,_,_,.str<|nameAt n (other n e).1,rfl,rfl,aJ.of uN,rfl,?_⟩;refine⟨dl,.ref (as[(other n e).1]'(by omega)).2,rfl,by rw [<- ev];exact aV.k (k:=Sum.inr<|nameAt n (other n e).1)<|sT _ _<|sm _ _ uK,ay ⟨_,_,rfl,.inl<|aq.of<|sT _ _<|sm _ _<|sB _ _ qe,ay ⟨u,_,_,_,rfl,uN,?_,λt2 H4 s4 i5=>?_⟩⟩⟩
  ·rw [Aa,<- kh];omega
  rw [Aa,<- kh] at i5;have kU:H4 t2=some (TN n<|go (1) n e):=by
   rw [i5];have:=rq (c:=1) oW;show some (Tn _ _)=some (Tn _ (((go (1) n e).2:Nat):Int));unfold go;rw [this];rfl
  have pW:=s4 _ _<|sT _ _ hb;refine⟨_,bU.t (k:=key n e) (s4 _ _<|sT _ _ eD) pW (bS<|by omega),⟨_,_,rfl⟩,_,aw,?_,dN ((sm.trans sT).trans s4) hD,λj k' x' e' hj fP oX lJ=>?_⟩
  ·have:=ik g7 (key n e)<|.ref t2;omega
  ·subst lJ
   by_cases pX:j=i
   ·subst pX;rw [hx] at fP;have G0:key n e=key n e':=BZ Prod.fst<|Option.some.inj fP;obtain⟨z1,rk⟩:=af.mp he;obtain⟨z2,rm⟩:=af.mp oX;have:=pZ hN (cN rk) (cN rm) G0;subst this;exact⟨t2,by rw [db,BP rfl],by rw [av<|kR kU<|s4 _ _<|sT _ _ eD];exact kU⟩
   ·obtain⟨u3,G',Ha⟩:=all j _ x' e' (by omega) fP oX rfl;refine⟨u3,?_,?_⟩
    ·rw [db,BL,G'];intro hk;have h1:(kvs.map (·.1))[j]?=some (key n e'):=by rw [Ah,fP];rfl
     have h2:(kvs.map (·.1))[i]?=some (key n e'):=by rw [Ah,hx,hk];rfl
     exact pX<|PU kg h1 h2
    ·have q4:=s4 _ _<|sT _ _ Ha;rw [av<|kR q4<|s4 _ _<|sT _ _ eD];exact q4
 ·rintro σ' H' ⟨_,g7,eD,_,sm,all⟩;refine q D g7 H' (sB.trans sm) qd eD λe he=>?_;obtain⟨u,hv,_⟩:=val e he;obtain⟨i,hi⟩:∃ i:Nat,(kvs.map (·.1))[i]?=some (key n e):=Bp<|AA hv;rw [Ah,Aw] at hi;obtain⟨⟨k,x⟩,hx,hk⟩:=hi;exact all i k x e (Ac.mp hx).1 hx he hk
theorem uQ:ak mH ["rows"] (a8 xt):=⟨rfl,rfl,rfl,by decide +kernel,rfl,by decide +kernel,by decide +kernel⟩
theorem q9i{f:Addr}{fd:FuncData}(F:bE K "right_steps" "right_steps" xt f fd)(T:Txt mg)
  (GO:aO P w K mg base 2 "other_ends" ["rows"] mr)
  (GT:aO P w K mg base 2 "turned_right" ["end","many"]<|i6 λj=>j - 1) :
  aI P w K mg base bB 3 f fd ["rows"] (ja (-1)):=by
 refine F.gb uQ (λvs H Q E h=>?_) λb0 H vs Q E hr h=>?_
 ·obtain⟨R,as,n,rfl,_⟩:=h;rfl
 obtain⟨R,as,n,rfl,hR,hN,hT,hn,ht,q⟩:=h;have nd:=uQ.nd;have bY:=hR.len;have hu:=hr.u1;show Run _ _ _ [some<|.ref R,none] H;have keys:=F5 n as bY;have knd:((df n as).map (·.1)).Nodup:=by rw [keys];exact Pn hN
 have qc:(df n as).length=n.length:=by have:=BZ List.length keys;simpa using this
 refine aW 1 nd (lG (Ny rfl) T.ng TJ (ah (ae 0 (ay ⟨R,as.map (·.1),df n as,rfl,?_,?_,?_,?_,λdl gD=>?_⟩))))
 ·rw [Ca];exact hR.lst
 ·rw [Aa,qc,bY]
 ·rw [Aa];exact bS<|by omega
 ·intro j t kv h1 h2;rw [Ah,Aw] at h1;obtain⟨a,ea,rfl⟩:=h1;have hj:j < n.length:=by have:=(Ac.mp ea).1;omega
  have e:=yc (Ab hj) ea;rw [h2] at e;cases e;exact(hR.tup j a n[j] ea<|Ab hj).1
 have ef:(df n as).foldl (λa p=>putK a p.1 p.2) []=df n as:=by
  rw [Pk (acc:=[]) (by rw [Fc];exact knd),Fc]
 rw [ef];have s1:=aS gD<|.dK<|df n as;have el:(upd H dl<|.dK<|df n as) dl=some (.dK<|df n as):=aw;generalize upd H dl (.dK<|df n as)=H1 at s1 el;show Run _ _ _ [some<|.ref R,some<|.ref dl] H1;refine bO<|NV (a8 xt) mH qb 2 (N0 bt) ?_;refine bn GO hr<|ah<|ae 0<|ay ⟨R,as,n,rfl,hR.same s1,hN,hT,hn,ht,λd kvs H2 s2 nG ed val kg GH uH=>?_⟩;refine⟨d,kvs,rfl,ed,λo D hD cl C s₀ H₀ ex=>?_⟩;have GU:D≠d:=λe=>by rw [e,aw] at hD;cases hD
 have mI:H2 D=none:=by rw [av GU] at hD;exact hD
 have uI:H d=none:=g6 s1 nG;have sB:aj H (upd H2 d<|.bD o<|.dT kvs):=dN (s1.trans s2) uI;have kB:∀ b o',b≠d->H2 b=some o'->(upd H2 d<|.bD o<|.dT kvs) b=some o':=λb o' hb h=>by rw [av hb];exact h
 have tB:∀ b p j,H2 b=some (Tn p j)->(upd H2 d<|.bD o<|.dT kvs) b=some (Tn p j):=λb p j h=>kB b _ (kR h ed) h;have uJ:(upd H2 d<|.bD o<|.dT kvs) d=some (.bD o<|.dT kvs):=aw;have uK:(upd H2 d<|.bD o<|.dT kvs) dl=some (.dK<|df n as):=kB _ _ (λe=>by rw [e,nG] at el;cases el)<|s2 _ _ el;have GV:=hR.same sB;generalize upd H2 d (.bD o<|.dT kvs)=HB at hD sB tB uJ uK GV;have qd:=g6 sB hD;refine N2 (λi σ' H'=>(∃ v1 v2,σ'=[some<|.ref R,some<|.ref dl]++[v1,v2])/\∃ g7:List<|List Key×V,H' D=some (.dT g7)/\g7.length<=i/\aj HB H' /\
  (∀ j k x e,j < i->kvs[j]?=some (k,x)->e∈ends n->k=key n e->∃ u,aB g7 (key n e)=some (.ref u)/\H' u=some (TN n<|go (-1) n e)))
  ⟨⟨none,none,rfl⟩,[],aw,Al _,aS hD _,λj k x e h=>absurd h<|Dy _⟩ ?_ ?_ ?_
 ·rintro i σ' H' _ ⟨_,_,_,_,sm,_⟩;exact sm _ _ uJ
 ·rintro i k x b Tt σ' H' hx ⟨⟨v1,v2,rfl⟩,g7,eD,l2,sm,all⟩ hb i8;have hi:i < kvs.length:=(Ac.mp hx).1;obtain⟨e,he,rfl⟩:=GH k<|An.mpr ⟨_,Ap hx,rfl⟩;obtain⟨u,hv,nw⟩:=val e he;have uL:aB kvs (key n e)=some x:=GA kg hx;rw [hv] at uL;cases uL;have oW:=cZ hT he;obtain⟨zo,uM⟩:=af.mp oW;have fq:=cN uM;have rJ:=f9 uM;have GY:nameAt n (other n e).1=n[(other n e).1].1:=pY fq;have sT:=aS i8<|.tup [.ref b,.ref u];have uN:=sT _ _<|sm _ _<|tB _ _ _ nw;refine iA rfl (aJ.of aw) (bf 2 yk<|bf 3 yk ?_);refine jm ?_;rw [BP rfl];have uO:as[(other n e).1]?=some (as[(other n e).1]'(by omega)):=Ab (by omega);have uP:n[(other n e).1]?=some n[(other n e).1]:=Ab fq;have ev:aB (df n as) (Sum.inr<|nameAt n (other n e).1)=some (.ref (as[(other n e).1]'(by omega)).2):=by rw [GY];exact F4 knd<|yc uP uO
  have qe:=(hR.tup _ _ _ uO uP).2;have kh:row n (other n e).1=n[(other n e).1].2:=iZ fq;refine EB hu<|ae 2<|bn GT hr<|ah<|ae 3<|ah<|bW cX T.len DK<|ah<|f7 hu<|ae 1<|aU bJ<|ae 3<|aC ⟨u,_,_,.str<|nameAt n (other n e).1,rfl,rfl,aJ.of uN,rfl,?_⟩;refine⟨dl,.ref (as[(other n e).1]'(by omega)).2,rfl,by rw [<- ev];exact aV.k (k:=Sum.inr<|nameAt n (other n e).1)<|sT _ _<|sm _ _ uK,ay ⟨_,_,rfl,.inl<|aq.of<|sT _ _<|sm _ _<|sB _ _ qe,ay ⟨u,_,_,_,rfl,uN,?_,λt2 H4 s4 i5=>?_⟩⟩⟩
  ·rw [Aa,<- kh];omega
  rw [Aa,<- kh] at i5;have kU:H4 t2=some (TN n<|go (-1) n e):=by
   rw [i5];have:=rq (c:=-1) oW;show some (Tn _ _)=some (Tn _ (((go (-1) n e).2:Nat):Int));unfold go;rw [this];rfl
  have pW:=s4 _ _<|sT _ _ hb;refine⟨_,bU.t (k:=key n e) (s4 _ _<|sT _ _ eD) pW (bS<|by omega),⟨_,_,rfl⟩,_,aw,?_,dN ((sm.trans sT).trans s4) hD,λj k' x' e' hj fP oX lJ=>?_⟩
  ·have:=ik g7 (key n e)<|.ref t2;omega
  ·subst lJ
   by_cases pX:j=i
   ·subst pX;rw [hx] at fP;have G0:key n e=key n e':=BZ Prod.fst<|Option.some.inj fP;obtain⟨z1,rk⟩:=af.mp he;obtain⟨z2,rm⟩:=af.mp oX;have:=pZ hN (cN rk) (cN rm) G0;subst this;exact⟨t2,by rw [db,BP rfl],by rw [av<|kR kU<|s4 _ _<|sT _ _ eD];exact kU⟩
   ·obtain⟨u3,G',Ha⟩:=all j _ x' e' (by omega) fP oX rfl;refine⟨u3,?_,?_⟩
    ·rw [db,BL,G'];intro hk;have h1:(kvs.map (·.1))[j]?=some (key n e'):=by rw [Ah,fP];rfl
     have h2:(kvs.map (·.1))[i]?=some (key n e'):=by rw [Ah,hx,hk];rfl
     exact pX<|PU kg h1 h2
    ·have q4:=s4 _ _<|sT _ _ Ha;rw [av<|kR q4<|s4 _ _<|sT _ _ eD];exact q4
 ·rintro σ' H' ⟨_,g7,eD,_,sm,all⟩;refine q D g7 H' (sB.trans sm) qd eD λe he=>?_;obtain⟨u,hv,_⟩:=val e he;obtain⟨i,hi⟩:∃ i:Nat,(kvs.map (·.1))[i]?=some (key n e):=Bp<|AA hv;rw [Ah,Aw] at hi;obtain⟨⟨k,x⟩,hx,hk⟩:=hi;exact all i k x e (Ac.mp hx).1 hx he hk
def dR(n:Net)(H:Hp)(ts:List Addr)(es:List Nt.End):Prop:=ts.length=es.length/\∀(j:Nat) t e,ts[j]?=some t->es[j]?=some e->H t=some (TN n e)
theorem dR.keep{n:Net}{H H':Hp}{ts:List Addr}{es:List Nt.End}(h:dR n H ts es)(k:∀ t p j,H t=some (Tn p j)->H' t=some (Tn p j)):dR n H' ts es:=⟨h.1,λj t e h1 h2=>k _ _ _<|h.2 j t e h1 h2⟩
theorem dR.same{n:Net}{H H':Hp}{ts:List Addr}{es:List Nt.End}(h:dR n H ts es)(s:aj H H'):dR n H' ts es:=h.keep λ_ _ _ q=>s _ _ q
theorem dR.append{n:Net}{H:Hp}{ts us:List Addr}{es fs:List Nt.End}(h:dR n H ts es)(g:dR n H us fs):dR n H (ts++us) (es++fs):=by
 refine⟨by rw [Af,Af,h.1,g.1],λj t e h1 h2=>?_⟩;have hl:=h.1
 by_cases hj:j < ts.length
 ·rw [As hj] at h1;rw [As<|by omega] at h2;exact h.2 j t e h1 h2
 ·rw [Az<|by omega] at h1 h2;rw [<- hl] at h2;exact g.2 _ t e h1 h2
theorem dR.two{n:Net}{H:Hp}{t u:Addr}{a b:Nt.End}(h1:H t=some (TN n a))(h2:H u=some (TN n b)):dR n H [t,u] [a,b]:=⟨rfl,λj x e h3 h4=>by
 match j with
 | 0=>cases h3;cases h4;exact h1
 | 1=>cases h3;cases h4;exact h2
 | j+2=>simp at h3⟩
theorem q9x{n:Net}(hN:(n.map (·.1)).Nodup){a b:Nt.End}(ha:a∈ends n)(hb:b∈ends n):decide (nameAt n a.1=nameAt n b.1/\(a.2:Int)=(b.2:Int))=decide (a=b):=by
 obtain⟨z1,h1⟩:=af.mp ha;obtain⟨z2,h2⟩:=af.mp hb;refine decide_eq_decide.mpr ⟨λ⟨p,q⟩=>pZ hN (cN h1) (cN h2) (by unfold key;rw [p,q]),λe=>by rw [e];exact⟨rfl,rfl⟩⟩
theorem Hb{K:PySem.W.Frag}{H:Hp}{d:Addr}{xs:List V}(h:H d=some (.lst xs)):lq K "list" (.ref d) H:=Or.inl ⟨rfl,xs,aq.of h⟩
def bx(n:Net)(H:Hp)(d:Addr)(c:Int):Prop:=∃ kvs,H d=some (.dT kvs)/\∀ e∈ends n,∃ u,aB kvs (key n e)=some (.ref u)/\H u=some (TN n<|go c n e)
theorem bx.same{n:Net}{H H':Hp}{d:Addr}{c:Int}(h:bx n H d c)(s:aj H H'):bx n H' d c:=let ⟨kvs,h1,h2⟩:=h;⟨kvs,s _ _ h1,λe he=>let ⟨u,a,b⟩:=h2 e he;⟨u,a,s _ _ b⟩⟩
theorem bx.get{n:Net}{H:Hp}{d t:Addr}{c:Int}{e:Nt.End}(h:bx n H d c)(he:e∈ends n)(ht:H t=some (TN n e)):∃ u,aV H d (.ref t) (some<|.ref u)/\H u=some (TN n<|go c n e):=by
 obtain⟨kvs,h1,h2⟩:=h;obtain⟨u,a,b⟩:=h2 e he;exact⟨u,by rw [<- a];exact aV.t (k:=key n e) h1 ht,b⟩
def qf:Sp:=λvs H Q _=>∃(dl dr t:Addr) (n:Net) (e:Nt.End),vs=[.ref dl,.ref dr,.ref t]/\bx n H dl 1/\bx n H dr (-1)/\(n.map (·.1)).Nodup/\ax n/\(ag n).length<=1000/\e∈ends n/\H t=some (TN n e) /\
 ∀(l:Addr) (ts:List Addr) (k:Nat) (H':Hp),aj H H'->H l=none->H' l=some (.lst<|ts.map V.ref)->dR n H' ts (wk n e k)->i0 n e k->k<=(ends n).length->Q (.ref l) H'
abbrev NWf:List Str:=["lefts","rights","first","walker","end"]
theorem uR:ak NWf ["lefts","rights","first"] (a8 pk):=⟨rfl,rfl,rfl,by decide +kernel,rfl,by decide +kernel,by decide +kernel⟩
theorem Hc(ts:List Addr)(a b:Addr):ts.map V.ref++[V.ref a,V.ref b]=(ts++[a]).map V.ref++[V.ref b]:=by rw [Aj,Ar];rfl
theorem q9t{f:Addr}{fd:FuncData}(F:bE K "walker_from" "walker_from" pk f fd)(T:Txt mg):aI P w K mg base bB 1 f fd ["lefts","rights","first"] qf:=by
 refine F.gb uR (λvs H Q E h=>?_) λb0 H vs Q E hr h=>?_
 ·obtain⟨dl,dr,t,n,e,rfl,_⟩:=h;rfl
 obtain⟨dl,dr,t,n,e,rfl,hL,rP,hN,hT,dw,he,ht,q⟩:=h;have nd:=uR.nd;have rJ:=jt n;have hu:=hr.u1;have un:=hr.fQ;obtain⟨k,k0,k1,k2⟩:=CH (f:=two n) (S:=ends n) (λa ha=>lZ hT ha) (λa ha b hb=>t6 hT ha hb) he;obtain⟨u1,g1,e1⟩:=hL.get he ht;show Run _ _ _ [some<|.ref dl,some<|.ref dr,some<|.ref t,none,none] H;refine aW 3 nd<|cY<|ah<|ae 2<|ah<|f7 hu<|ae 0<|ae 2 ⟨dl,.ref u1,rfl,g1,ay ⟨Z2,λl hl=>?_⟩⟩;have s1:=aS hl<|.lst [.ref t,.ref u1];have el:(upd H l<|.lst [.ref t,.ref u1]) l=some (.lst<|[t,u1].map V.ref):=aw;generalize upd H l (.lst [.ref t,.ref u1])=H1 at s1 el;obtain⟨u2,g2,e2⟩:=(rP.same s1).get (gk hT he)<|s1 _ _ e1;refine aW 4 nd<|f7 hu<|ae 1<|aU cH<|ae 3<|LO Kz<|aC ⟨1,rfl,l,_,_,.ref u1,rfl,rfl,aq.of el,rfl,dr,.ref u2,rfl,g2,?_⟩;show Run _ _ _ [some<|.ref dl,some<|.ref dr,some<|.ref t,some<|.ref l,some<|.ref u2] H1;refine xa (λm σ H2=>∃(j:Nat) (ts:List Addr) (u:Addr),m=k - j/\0 < j/\j<=k/\aj H H2/\H2 l=some (.lst<|ts.map V.ref)/\dR n H2 ts (wk n e j)/\H2 u=some (TN n<|it (two n) j e)/\(∀ i,0 < i->i < j->it (two n) i e≠e)/\σ=[some<|.ref dl,some<|.ref dr,some<|.ref t,some<|.ref l,some<|.ref u])
  (m0:=k - 1) ⟨1,[t,u1],u2,rfl,Fg,k0,s1,el,dR.two (s1 _ _ ht)<|s1 _ _ e1,e2,λi h1 h2=>by omega,rfl⟩ ?_
 rintro m σ H2 ⟨j,ts,u,rfl,j0,j1,sH,uS,at2,eu,hf,rfl⟩;have He:it (two n) j e∈ends n:=jT (λa ha=>lZ hT ha) he j;refine cb (tN un) (ae 4<|ae 2 ⟨1,_,by decide,q6v eu<|sH _ _ ht,_,rfl,?_⟩);rw [q9x hN He he];have tl:=at2.1;rw [pG] at tl
 by_cases c:it (two n) j e=e
 ·rw [BW c];exact bj<|bO<|ae 3<|q l ts j H2 sH hl uS at2 ⟨j0,c,hf⟩<|by omega
 ·rw [BR c];have jk:j < k:=by
   rcases Dg j k with h | h
   ·exact h
   ·have:j=k:=by omega
    subst this;exact absurd k2 c
  obtain⟨v1,g3,e3⟩:=(hL.same sH).get He eu;refine cM<|gC<|CD DY PySem.F.slot_list_extend PySem.F.type_list_extend Vi<|ae 3 (v:= .ref l) ⟨Hb uS,cY<|ah<|ae 4<|ah<|f7 hu<|ae 0<|ae 4 ⟨dl,.ref v1,rfl,g3,ay ⟨Z2,λp hp=>?_⟩⟩⟩;have s3:=aS hp<|.lst [.ref u,.ref v1];have nlp:l≠p:=bg uS hp;refine⟨l,p,ts.map V.ref,[.ref u,.ref v1],rfl,rfl,s3 _ _ uS,aw,small (by rw [Aa];show _+2<=100000;omega),?_⟩;have rQ:aj H (upd (upd H2 p<|.lst [.ref u,.ref v1]) l<|.lst<|ts.map V.ref++[.ref u,.ref v1]):=dN (sH.trans s3) hl;have Hf:(upd (upd H2 p<|.lst [.ref u,.ref v1]) l<|.lst<|ts.map V.ref++[.ref u,.ref v1]) l=some (.lst<|(ts++[u,v1]).map V.ref):=by rw [aw,Aj];rfl
  have kt:∀ b p' j',H2 b=some (Tn p' j')->(upd (upd H2 p<|.lst [.ref u,.ref v1]) l<|.lst<|ts.map V.ref++[.ref u,.ref v1]) b=some (Tn p' j'):=λb p' j' h=>by
   rw [av<|ce h uS λz=>nomatch z];exact s3 _ _ h
  generalize upd (upd H2 p<|.lst [.ref u,.ref v1]) l (.lst<|ts.map V.ref++[.ref u,.ref v1])=H3 at rQ Hf kt;obtain⟨v2,g4,e4⟩:=(rP.same rQ).get (gk hT He)<|kt _ _ _ e3;refine aW 4 nd<|f7 hu<|ae 1<|aU cH<|ae 3<|LO Kz<|aC ⟨1,rfl,l,_,_,.ref v1,rfl,rfl,aq.of Hf,?_,dr,.ref v2,rfl,g4,?_⟩
  ·rw [Aj];show dD (ts.map V.ref++[V.ref u,V.ref v1]) (-1)=_;rw [Hc];exact U8 _ _
  refine aY ⟨k - (j+1),by omega,j+1,ts++[u,v1],v2,rfl,Fy _,jk,rQ,Hf,(at2.keep kt).append<|dR.two (kt _ _ _ eu)<|kt _ _ _ e3,e4,λi h1 h2=>?_,rfl⟩
  by_cases d3:i=j
  ·subst d3;exact c
  ·exact hf i h1<|by omega
open bM
theorem PV{α β:Type}(f:α->β):∀ xs:List α,au (xs.map f)=(au xs).map f
 | []=>rfl
 | [a]=>rfl
 | a :: b :: r=>by
  show f a :: au (r.map f)=f a :: (au r).map f;rw [PV f r]
theorem dR.au{n:Net}{H:Hp}{ts:List Addr}{es:List Nt.End}(h:dR n H ts es):dR n H (L2.au ts) (L2.au es):=by
 refine⟨by rw [tZ,tZ,h.1],λj t e h1 h2=>?_⟩;rw [pE] at h1 h2;exact h.2 _ t e h1 h2
theorem nS{P:Program}{w:World}{H:Hp}{a d:Addr}{o:HO}{zs:List Str}(h:H a=some o)(g:H d=some (bA P w d zs))(ho:∀ φ,o ≠ .ext φ):a≠d:=λe=>by
 rw [e,g] at h;exact ho _ (Option.some.inj h).symm
structure jy(n:Net)(H:Hp)(L:Addr)(ls:List Addr)(ws:List<|List Nt.End):Prop where
 lst:H L=some (.lst<|ls.map V.ref)
 len:ls.length=ws.length
 gI:ls.Nodup
 out:L∉ls
 at':∀(j:Nat) l w,ls[j]?=some l->ws[j]?=some w->∃ ts,H l=some (.lst<|ts.map V.ref)/\dR n H ts w
theorem jy.same{n:Net}{H H':Hp}{L:Addr}{ls:List Addr}{ws:List (List Nt.End)}(h:jy n H L ls ws)(s:aj H H'):jy n H' L ls ws:=
 ⟨s _ _ h.lst,h.len,h.gI,h.out,λj l w h1 h2=>let ⟨ts,a,b⟩:=h.at' j l w h1 h2;⟨ts,s _ _ a,b.same s⟩⟩
theorem jy.keep{n:Net}{H H':Hp}{L:Addr}{ls:List Addr}{ws:List (List Nt.End)}(h:jy n H L ls ws)(hL:H' L=H L)(kl:∀ l∈ls,∀ o,H l=some o->H' l=some o)(kt:∀ t p j,H t=some (Tn p j)->H' t=some (Tn p j)):jy n H' L ls ws:=
 ⟨by rw [hL];exact h.lst,h.len,h.gI,h.out,λj l w h1 h2=>let ⟨ts,a,b⟩:=h.at' j l w h1 h2;⟨ts,kl l (Ap h1) _ a,b.keep kt⟩⟩
theorem jy.snoc{n:Net}{H H':Hp}{L l:Addr}{ls ts:List Addr}{ws:List (List Nt.End)}{v:List Nt.End}(h:jy n H L ls ws)(hL:H' L=some (.lst<|ls.map V.ref++[.ref l]))(kl:∀ l∈ls,∀ o,H l=some o->H' l=some o)(kt:∀ t p j,H t=some (Tn p j)->H' t=some (Tn p j))
  (hl:H' l=some (.lst<|ts.map V.ref)) (hv:dR n H' ts v) (hn:l∉ls) (yl:L≠l):jy n H' L (ls++[l]) (ws++[v]):=by
 refine⟨by rw [hL,Aj];rfl,by rw [Af,Af,h.len];rfl,mX h.gI hn,λhm=>?_,λj a x h1 h2=>?_⟩
 ·rcases Am.mp hm with hm | hm
  ·exact h.out hm
  ·exact yl<|Ad.mp hm
 ·have hlen:=h.len
  by_cases hj:j < ls.length
  ·rw [As hj] at h1;rw [As<|by omega] at h2;obtain⟨us,q1,q2⟩:=h.at' j a x h1 h2;exact⟨us,kl a (Ap h1) _ q1,q2.keep kt⟩
  ·rw [Az<|by omega] at h1 h2;have fB:j - ls.length=0:=by
    have:=(Ac.mp h1).1;simp at this;omega
   rw [fB] at h1;rw [<- hlen,fB] at h2;cases h1;cases h2;exact⟨ts,hl,hv⟩
def Hg:Sp:=λvs H Q _=>∃(R:Addr) (as:List<|Addr×Addr) (n:Net),vs=[.ref R]/\ai H R as n/\(n.map (·.1)).Nodup/\ax n/\n.length<=1000/\(ag n).length<=400 /\
 ∀(L:Addr) (ls:List Addr) (H':Hp),aj H H'->H L=none->jy n H' L ls (dI n (ends n) [])->(∀ l∈ls,H l=none)->Q (.ref L) H'
theorem q3g{n:Net}{i:Nat}{p:Str×Nt.End}(h:(bo n)[i]?=some p):(ends n)[i]?=some p.2:=by unfold ends;rw [Ah,h];rfl
abbrev NWs:List Str:=["rows","lefts","rights","names","told","walkers","first","walker","end"]
theorem uT:ak NWs ["rows"] (a8 pj):=⟨rfl,rfl,rfl,by decide +kernel,rfl,by decide +kernel,by decide +kernel⟩
theorem q8m{f:Addr}{fd:FuncData}(F:bE K "walkers_of" "walkers_of" pj f fd)(T:Txt mg)
  (GL:aO P w K mg base 3 "left_steps" ["rows"]<|ja 1)
  (GR:aO P w K mg base 3 "right_steps" ["rows"]<|ja (-1))
  (GN:aO P w K mg base 3 "ties_by_end" ["rows"] mF)
  (GO:aO P w K mg base 3 "ends_in_order" ["rows"] Gs)
  (GW:aO P w K mg base 3 "walker_from" ["lefts","rights","first"] qf) :
  aI P w K mg base bB 4 f fd ["rows"] Hg:=by
 refine F.gb uT (λvs H Q E h=>?_) λb0 H vs Q E hr h=>?_
 ·obtain⟨R,as,n,rfl,_⟩:=h;rfl
 obtain⟨R,as,n,rfl,hR,hN,hT,hn,dw,q⟩:=h;have nd:=uT.nd;have rJ:=jt n;have hu:=hr.u1;show Run _ _ _ [some<|.ref R,none,none,none,none,none,none,none,none] H;refine aW 1 nd (bn GL hr<|ah<|ae 0<|ay ⟨R,as,n,rfl,hR,hN,hT,hn,by omega,λdl kl H1 s1 n1 e1 v1=>?_⟩);refine aW 2 nd (bn GR hr<|ah<|ae 0<|ay ⟨R,as,n,rfl,hR.same s1,hN,hT,hn,by omega,λdr kr H2 s2 n2 e2 v2=>?_⟩);refine aW 3 nd (bn GN hr<|ah<|ae 0<|ay ⟨R,as,n,rfl,hR.same<|s1.trans s2,hN,hn,by omega,λdn kn H3 s3 n3 e3 v3=>?_⟩);refine aW 4 nd<|Zm T.py λD hD=>?_;refine aW 5 nd<|cY<|ay ⟨Z0,λL hL=>?_⟩;have hSL:bx n H3 dl 1:=bx.same ⟨kl,e1,v1⟩<|s2.trans s3;have hSR:bx n H3 dr (-1):=bx.same ⟨kr,e2,v2⟩ s3;have qg:=(s1.trans s2).trans s3;have ym:L≠D:=λe=>by rw [e,aw] at hL;cases hL
 have hL3:H3 L=none:=by rw [av ym] at hL;exact hL
 have qd:=g6 qg hD;have ya:=g6 qg hL3;have sB:aj H3 (upd (upd H3 D<|bA P w D []) L<|.lst []):=(aS hD _).trans<|aS hL _;have PY:(upd (upd H3 D<|bA P w D []) L<|.lst []) D=some (bA P w D []):=by rw [av<|CG ym,aw]
 have Hh:(upd (upd H3 D<|bA P w D []) L<|.lst []) L=some (.lst []):=aw;have Hi:=qg.trans sB;have uU:=hSL.same sB;have uV:=hSR.same sB;have PZ:=sB _ _ e3;show Run _ _ _ [some<|.ref R,some<|.ref dl,some<|.ref dr,some<|.ref dn,some<|.ref D,some<|.ref L,none,none,none] (upd (upd H3 D<|bA P w D []) L<|.lst []);generalize upd (upd H3 D<|bA P w D []) L (.lst [])=HB at sB PY Hh Hi uU uV PZ;refine iS (bn GO hr<|ah<|ae 0<|ay ⟨R,as,n,rfl,hR.same Hi,hn,by omega,λU us H5 s5 n5 e5 Hj=>⟨U,rfl,⟨_,aq.of e5⟩,?_⟩⟩);have yn:=Hi.trans s5;have kS:=s5 _ _ PY;have yo:=s5 _ _ Hh;have Hk:=uU.same s5;have Hl:=uV.same s5;have Hm:=s5 _ _ PZ;have nUL:U≠L:=λe=>by rw [e,Hh] at n5;cases n5
 have uW:us.length=(ends n).length:=by rw [Hj.1];unfold ends;rw [Aa]
 refine iT (xs:=us.map V.ref) (λi σ H'=>∃(zs told:List Str) (ls:List Addr) (ws:List<|List Nt.End) (u1 u2 u3:Option V),(∀ b o,b≠D->b≠L->H5 b=some o->H' b=some o)/\H' D=some (bA P w D zs)/\zs.Nodup/\(∀ z∈zs,z∈ag n)/\(∀ z,z∈zs↔z∈told) /\
  jy n H' L ls ws/\(∀ l∈ls,H5 l=none)/\ls.length<=i/\dI n (ends n) []=ws++dI n ((ends n).drop i) told/\σ=[some<|.ref R,some<|.ref dl,some<|.ref dr,some<|.ref dn,some<|.ref D,some<|.ref L,u1,u2,u3])
  ⟨[],[],[],[],_,_,_,λb o _ _ h=>h,kS,Ch,λz h=>by simp at h,λz=>by simp,⟨yo,rfl,Ch,by simp,λj l w h=>by simp at h⟩,λl h=>by simp at h,Al _,rfl,rfl⟩ ?_ ?_ ?_
 ·rintro i σ H' _ ⟨_,_,_,_,_,_,_,kp,_⟩;exact aq.of<|kp _ _ (nS e5 kS λφ z=>nomatch z) nUL e5
 ·rintro i x σ H' hx ⟨zs,told,ls,ws,u1,u2,u3,kp,eD,zn,zt,zm,hW,hf,qU,uX,rfl⟩;have hi:i < us.length:=by
   have:=(Ac.mp hx).1;rw [Aa] at this;exact this
  rw [Ah,Ab hi] at hx;cases hx;have Hn:i < (bo n).length:=by have:=Hj.1;omega
  have yp:H5 us[i]=some (TN n (bo n)[i].2):=Hj.2 i us[i] (bo n)[i] (Ab hi)<|Ab Hn;have rR:=q3g<|Ab Hn;have jb:aK n (bo n)[i].2=some (bo n)[i].1:=aT.mp (by have:=Bt Hn;exact this);generalize (bo n)[i]=pr at yp rR jb;obtain⟨z,e⟩:=pr;have yp:H5 us[i]=some (TN n e):=yp;have jb:aK n e=some z:=jb;have rR:(ends n)[i]?=some e:=rR;have he:e∈ends n:=Ap rR;have nU:(ends n).drop i=e :: (ends n).drop (i+1):=by
   have P0:i < (ends n).length:=by omega
   rw [QW P0]
   congr 1
   have:=Ab P0;rw [rR] at this;exact(Option.some.inj this).symm
  have P1:∀{b p j},H5 b=some (Tn p j)->H' b=some (Tn p j):=λ{b p j} h=>kp _ _ (nS h kS λφ z=>nomatch z) (ce h yo λz=>nomatch z) h;have gL:=P1 yp;have Ho:H' dn=some (.dT kn):=kp _ _ (nS Hm kS λφ z=>nomatch z) (ce Hm yo λz=>nomatch z) Hm;have c9:∀{d c},bx n H5 d c->bx n H' d c:=λ{d c} ⟨kvs,a,b⟩=>⟨kvs,kp _ _ (nS a kS λφ z=>nomatch z) (ce a yo λz=>nomatch z) a,λe he=>let ⟨u,p,r⟩:=b e he;⟨u,p,P1 r⟩⟩;have hd1:aV H' dn (.ref us[i]) (some<|.str z):=by rw [<- v3 e z jb];exact aV.t (k:=key n e) Ho gL
  refine bf 6 nd ?_;refine du<|cb Zn<|f7 hu<|ae 3<|ae 6 ⟨dn,.str z,rfl,hd1,ae 4 ⟨z,D,zs,rfl,rfl,eD,_,rfl,?_⟩⟩;refine jM (λc=>?_) λc=>?_
  ·have hz:z∉zs:=BX c;have g8:aE n e∉told:=by rw [fk jb];exact λh=>hz<|(zm z).mpr h
   refine aW 7 nd (bn GW hr<|ah<|ae 1<|ah<|ae 2<|ah<|ae 6<|ay ⟨dl,dr,us[i],n,e,rfl,c9 Hk,c9 Hl,hN,hT,by omega,he,gL,λl ts k H6 s6 n6 e6 at6 pr hk=>?_⟩);have Hq:=t8 pr;have hwe:walker n e=wk n e k:=by unfold walker;rw [Hq]
   have Hr:=s6 _ _ hW.lst;have ke:=s6 _ _ eD;have Hs:L≠l:=bg hW.lst n6;have nQ:D≠l:=bg eD n6;refine gC (jr<|ae 5 ⟨L,rfl,⟨_,Hr⟩,ae 7 ⟨_,Hr,by rw [Aa];exact bS (by omega),?_⟩⟩);have k7:∀ b o,b≠L->H6 b=some o->(upd H6 L<|.lst<|ls.map V.ref++[.ref l]) b=some o:=λb o hb h=>by rw [av hb];exact h
   have P2:(upd H6 L<|.lst<|ls.map V.ref++[.ref l]) L=some (.lst<|ls.map V.ref++[.ref l]):=aw;generalize upd H6 L (.lst<|ls.map V.ref++[.ref l])=H7 at k7 P2;have P4:∀ t p j,H6 t=some (Tn p j)->H7 t=some (Tn p j):=λt p j h=>k7 _ _ (ce h Hr λz=>nomatch z) h;have e7:=k7 _ _ (CG Hs) e6;have eD7:=k7 _ _ (CG ym) ke;have P5:=at6.keep P4;have Ht:l∉ls:=λhm=>by
    obtain⟨j,hj⟩:=Bp hm;have hlen:=hW.len;have Hu:j < ws.length:=by have:=(Ac.mp hj).1;omega
    obtain⟨_,a,_⟩:=hW.at' j l ws[j] hj<|Ab Hu;rw [n6] at a;cases a
   have hW7:jy n H7 L (ls++[l]) (ws++[wk n e k]):=hW.snoc P2 (λa ha o ho=>k7 _ _ (λq=>hW.out<|q ▸ ha)<|s6 _ _ ho) (λt p j h=>P4 _ _ _<|s6 _ _ h) e7 P5 Ht Hs;have l57:H5 l=none:=by
    cases q5:H5 l with
    | none=>rfl
    | some o=>rw [kp _ _ (CG nQ) (CG Hs) q5] at n6;cases n6
   have hf7:∀ a∈ls++[l],H5 a=none:=λa ha=>by
    rcases Am.mp ha with ha | ha
    ·exact hf a ha
    ·rw [Ad.mp ha];exact l57
   have ul:∀ b o,b≠D->b≠L->H5 b=some o->H7 b=some o:=λb o h1 h2 h=>k7 _ _ h2<|s6 _ _<|kp b o h1 h2 h;have hll:(ls++[l]).length<=i+1:=by rw [Af];show ls.length+1<=_;omega
   have Hv:dI n (ends n) []=(ws++[wk n e k])++dI n ((ends n).drop<|i+1) (told++(au<|wk n e k).map (aE n)):=by
    rw [uX,nU];show ws++(if aE n e∈told then _ else _)=_;rw [BL g8,hwe,Ar];rfl
   have jz:=EC hT he k;refine iS<|Zh<|ae 7 ⟨l,_,rfl,aq.of e7,λp hp=>⟨p,rfl,⟨_,aq.of aw⟩,?_⟩⟩;rw [PV];have s8:=aS hp<|.lst<|(au ts).map V.ref;have e8:(upd H7 p<|.lst<|(au ts).map V.ref) p=some (.lst<|(au ts).map V.ref):=aw;have nV:=s8 _ _ eD7;have rS:=hW7.same s8;have yq:=(P5.same s8).au;have P6:∀ b o,b≠D->b≠L->H5 b=some o->(upd H7 p<|.lst<|(au ts).map V.ref) b=some o:=λb o h1 h2 h=>s8 _ _<|ul b o h1 h2 h;have Hw:=s8 _ _ (k7 _ _ (ce Ho hW.lst λz=>nomatch z)<|s6 _ _ Ho);generalize upd H7 p (.lst<|(au ts).map V.ref)=H8 at s8 e8 nV rS yq P6 Hw;have Hx:p≠D:=nS e8 nV λφ z=>nomatch z;refine iT (xs:=(au ts).map V.ref) (λm σ H9=>∃(ip:List Str) (u3:Option V),(∀ b o,b≠D->H8 b=some o->H9 b=some o)/\H9 D=some (bA P w D ip)/\ip.Nodup/\(∀ z∈ip,z∈ag n)/\(∀ z,z∈ip↔z∈told++((au<|wk n e k).take m).map (aE n)) /\
    σ=[some<|.ref R,some<|.ref dl,some<|.ref dr,some<|.ref dn,some<|.ref D,some<|.ref L,some<|.ref us[i],some<|.ref l,u3]) ⟨zs,_,λb o _ h=>h,nV,zn,zt,λz=>by rw [zm z];simp,rfl⟩ ?_ ?_ ?_
   ·rintro m σ H9 _ ⟨_,_,k9,_⟩;exact aq.of<|k9 _ _ Hx e8
   ·rintro m x σ H9 hx ⟨ip,u3,k9,yr,uY,yt,yu,rfl⟩;have hm:m < (au ts).length:=by
     have:=(Ac.mp hx).1;rw [Aa] at this;exact this
    have l8:=yq.1;rw [Ah,Ab hm] at hx;cases hx;have gK:m < (au<|wk n e k).length:=by omega
    have Hy:=yq.2 m _ _ (Ab hm)<|Ab gK;have hcw:(au<|wk n e k)[m]∈wk n e k:=by
     have h1:(au<|wk n e k)[m]?=some (au<|wk n e k)[m]:=Ab gK;rw [pE] at h1;exact Ap h1
    have x5:=jz _ hcw;obtain⟨y,hy⟩:=af.mp x5;have jA:(au<|wk n e k).take (m+1)=(au<|wk n e k).take m++[(au<|wk n e k)[m]]:=by rw [Cg,Ab gK];rfl
    generalize (au<|wk n e k)[m]=c at Hy x5 hy jA;have hc9:H9 (au ts)[m]=some (TN n c):=k9 _ _ (nS Hy nV λφ z=>nomatch z) Hy;have ed9:H9 dn=some (.dT kn):=k9 _ _ (nS Hw nV λφ z=>nomatch z) Hw;have hd9:aV H9 dn (.ref (au ts)[m]) (some<|.str y):=by rw [<- v3 c y hy];exact aV.t (k:=key n c) ed9 hc9
    have zl:ip.length<=(ag n).length:=aX uY yt;refine bf 8 nd ?_;refine gC<|Zo<|ae 4 ⟨D,rfl,⟨_,yr⟩,f7 hu<|ae 3<|ae 8 ⟨dn,.str y,rfl,hd9,y,ip,rfl,yr,by omega,aY ⟨added ip y,_,λb o hb h=>?_,aw,?_,λz hz=>?_,λz=>?_,rfl⟩⟩⟩
    ·rw [av hb];exact k9 b o hb h
    ·unfold added
     split
     ·exact uY
     ·rename_i hny;exact mX uY hny
    ·rcases (BV ip y z).mp hz with h | h
     ·exact yt z h
     ·rw [h];exact dZ hy
    ·rw [BV,yu z,jA,Aj,<- Ar,Am (s:=told++_)];show _\/z=y↔_\/z∈[aE n c];rw [fk hy,Ad]
   ·rintro σ H9 ⟨ip,u3,k9,yr,uY,yt,yu,rfl⟩;have l8:=yq.1;rw [Aa,l8,Bu] at yu;refine aY<|aY ⟨ip,told++(au<|wk n e k).map (aE n),ls++[l],ws++[wk n e k],_,_,_,λb o h1 h2 h=>k9 _ _ h1<|P6 b o h1 h2 h,yr,uY,yt,yu,?_,hf7,hll,Hv,rfl⟩;refine rS.keep ?_ (λa ha o ho=>k9 _ _ ?_ ho) λt p j h=>k9 _ _ (nS h nV λφ z=>nomatch z) h
    ·rw [rS.lst];exact k9 _ _ ym rS.lst
    ·intro q;rw [q,nV] at ho;obtain⟨j,hj⟩:=Bp ha;have hlen:=rS.len;have Hu:j < (ws++[wk n e k]).length:=by have:=(Ac.mp hj).1;omega
     obtain⟨_,b,_⟩:=rS.at' j a _ hj<|Ab Hu;rw [q,nV] at b;cases b
  ·have hz:z∈zs:=Classical.not_not.mp<|HX<|Ek.mpr c;refine aY (aY ⟨zs,told,ls,ws,_,_,_,kp,eD,zn,zt,zm,hW,hf,by omega,?_,rfl⟩);rw [uX,nU];show ws++(if aE n e∈told then _ else _)=_;rw [BP<|by rw [fk jb];exact(zm z).mp hz]
 ·rintro σ H' ⟨zs,told,ls,ws,u1,u2,u3,kp,eD,zn,zt,zm,hW,hf,qU,uX,rfl⟩;rw [Aa,uW,List.drop_length] at uX;have Hz:dI n (ends n) []=ws:=by rw [uX];show ws++[]=ws;rw [Bi]
  refine bO (ae 5<|q L ls H' (λb o h=>?_) ya (by rw [Hz];exact hW) λl hl=>g6 yn<|hf l hl);exact kp _ _ (bg h qd) (bg h ya)<|yn _ _ h
end
end E5
namespace nW
open PySem PySem.W PyProof.Rows
section
variable{lt:Nat->Nat->Bool}{cmp:Nat->Nat->(Bool->Shared->Prop)->Shared->Prop}{J:Shared->Prop}{n:Nat}
structure dM(lt:Nat->Nat->Bool)(cmp:Nat->Nat->(Bool->Shared->Prop)->Shared->Prop)(J:Shared->Prop)(n:Nat):Prop where
 ask:∀(i j:Nat) (C:Bool->Shared->Prop) (s:Shared),i < n->j < n->i≠j->J s->(∀ s',J s'->C (lt i j) s')->cmp i j C s
 tot:∀ i j,i < n->j < n->i≠j->lt i j=true\/lt j i=true
 asy:∀ i j,lt i j=true->lt j i=false
 yv:∀ i j k,lt i j=true->lt j k=true->lt i k=true
def g(p:Array Nat)(i:Nat):Nat:=p.getD i 0
structure Pm(p:Array Nat)(n:Nat):Prop where
 size:p.size=n
 lt:∀ i,i < n->g p i < n
 inj:∀ i j,i < n->j < n->g p i=g p j->i=j
theorem jc{p:Array Nat}{i:Nat}{v:Nat}(h:p[i]?=some v):g p i=v:=by
 unfold g;rw [Dr,h];rfl
theorem ki{p q:Array Nat}{i j:Nat}(h:p[i]?=q[j]?):g p i=g q j:=by
 unfold g;rw [Dr,Dr,h]
theorem P7(n:Nat):Pm (List.toArray<|List.range n) n:=by
 have e:∀ i,i < n->g (List.toArray<|List.range n) i=i:=λi hi=>jc (by simp [hi]);exact⟨by simp,λi hi=>by rw [e i hi];exact hi,λi j hi hj h=>by rw [e i hi,e j hj] at h;exact h⟩
def Up(lt:Nat->Nat->Bool)(p:Array Nat)(m:Nat):Prop:=∀ i j,i < j->j < m->lt (g p i) (g p j)=true
def Dn(lt:Nat->Nat->Bool)(p:Array Nat)(m:Nat):Prop:=∀ i j,i < j->j < m->lt (g p j) (g p i)=true
theorem q7b(p:Array Nat):Up lt p 1:=λi j h1 h2=>by omega
theorem q5j(A:dM lt cmp J n){p:Array Nat}{m:Nat}(h1:1<=m)(h:Up lt p m)(hm:lt (g p<|m - 1) (g p m)=true):Up lt p (m+1):=λi j hi hj=>by
 by_cases c:j < m
 ·exact h i j hi c
 ·have:j=m:=by omega
  subst this
  by_cases d:i=j - 1
  ·rw [d];exact hm
  ·exact A.yv _ _ _ (h i (j - 1) (by omega)<|by omega) hm
theorem q4h(A:dM lt cmp J n){p:Array Nat}{m:Nat}(h1:1<=m)(h:Dn lt p m)(hm:lt (g p m) (g p<|m - 1)=true):Dn lt p (m+1):=λi j hi hj=>by
 by_cases c:j < m
 ·exact h i j hi c
 ·have:j=m:=by omega
  subst this
  by_cases d:i=j - 1
  ·rw [d];exact hm
  ·exact A.yv _ _ _ hm<|h i (j - 1) (by omega)<|by omega
theorem HE(A:dM lt cmp J n){i j:Nat}(hi:i < n)(hj:j < n)(bw:i≠j)(h:lt i j=false):lt j i=true:=by
 rcases A.tot i j hi hj bw with q | q
 ·rw [h] at q;cases q
 ·exact q
theorem HG(A:dM lt cmp J n){p:Array Nat}(P:Pm p n):∀(f m:Nat) (Q:Nat->Shared->Prop) (s:Shared),1<=m->m+f<=n->Up lt p m->J s ->
  (∀ k s',J s'->m<=k->k<=m+f->Up lt p k->(k < m+f->lt (g p k) (g p<|k - 1)=true)->Q k s')->(kas_asc p f m).kasWp cmp Q s
 | 0,m,Q,s,h1,h2,hu,hJ,k=>k m s hJ (Al _) (Al _) hu λh=>by omega
 | f+1,m,Q,s,h1,h2,hu,hJ,k=>by
  have bw:g p m≠g p (m - 1):=λh=>by have:=P.inj m (m - 1) (by omega) (by omega) h;omega
  refine A.ask _ _ _ _ (P.lt m<|by omega) (P.lt (m - 1)<|by omega) bw hJ λs' gu=>?_;cases e:lt (p.getD m 0) (p.getD (m - 1) 0) with
  | true=>exact k m s' gu (Al _) (by omega) hu λ_=>e
  | false=>
   have uZ:Up lt p (m+1):=q5j A h1 hu (HE A (P.lt m<|by omega) (P.lt (m - 1)<|by omega) bw e);exact HG A P f (m+1) Q s' (by omega) (by omega) uZ gu λk' s2 j2 a b c d=>k k' s2 j2 (by omega) (by omega) c λh=>d<|by omega
theorem P8(A:dM lt cmp J n){p:Array Nat}(P:Pm p n):∀(f m:Nat) (Q:Array Nat×Nat×Nat->Shared->Prop) (s:Shared),1<=m->m+f<=n->Dn lt p m->J s ->
  (∀ k s',J s'->m<=k->k<=m+f->Dn lt p k->Q (p,k,0) s')->(kas_desc f p m 0).kasWp cmp Q s
 | 0,m,Q,s,h1,h2,hd,hJ,k=>k m s hJ (Al _) (Al _) hd
 | f+1,m,Q,s,h1,h2,hd,hJ,k=>by
  have bw:g p m≠g p (m - 1):=λh=>by have:=P.inj m (m - 1) (by omega) (by omega) h;omega
  refine A.ask _ _ _ _ (P.lt m<|by omega) (P.lt (m - 1)<|by omega) bw hJ λs' gu=>?_;cases e:lt (p.getD m 0) (p.getD (m - 1) 0) with
  | true=>
   show(if true=true then(if 0 > 0 then _ else kas_desc f p (m+1) 0) else _:KasT _).kasWp cmp Q s';rw [BP rfl,BL<|by omega];exact P8 A P f (m+1) Q s' (by omega) (by omega) (q4h A h1 hd e) gu λk' s2 j2 a b c=>k k' s2 j2 (by omega) (by omega) c
  | false=>
   refine A.ask _ _ _ _ (P.lt (m - 1)<|by omega) (P.lt m<|by omega) (CG bw) gu λs2 va=>?_;have e2:lt (p.getD (m - 1) 0) (p.getD m 0)=true:=HE A (P.lt m<|by omega) (P.lt (m - 1)<|by omega) bw e;rw [e2];exact k m s2 va (Al _) (by omega) hd
theorem vb{p:Array Nat}{m k:Nat}(h:m<=p.size):g (kas_rev p 0 m) k=if k < m then g p (m - 1 - k) else g p k:=by
 have e:=getElem?_mirror_all (xs:=p) (i:=0) (j:=m) h k
 by_cases c:k < m
 ·rw [BP c];rw [BP ⟨Bx _,c⟩] at e;refine ki<|e.trans ?_
  congr 1
  omega
 ·rw [BL c];rw [BL λq=>c q.2] at e;exact ki e
theorem P9{p:Array Nat}{m:Nat}(P:Pm p n)(h:m<=n):Pm (kas_rev p 0 m) n:=by
 have hs:m<=p.size:=by rw [P.size];exact h
 refine⟨by rw [kas_rev_size];exact P.size,λi hi=>?_,λi j hi hj q=>?_⟩
 ·rw [vb hs]
  split
  ·exact P.lt _<|by omega
  ·exact P.lt _ hi
 ·rw [vb hs,vb hs] at q
  by_cases c:i < m <;> by_cases d:j < m
  ·rw [BP c,BP d] at q;have:=P.inj _ _ (by omega) (by omega) q;omega
  ·rw [BP c,BL d] at q;have:=P.inj _ _ (by omega) hj q;omega
  ·rw [BL c,BP d] at q;have:=P.inj _ _ hi (by omega) q;omega
  ·rw [BL c,BL d] at q;exact P.inj _ _ hi hj q
theorem q8n{p:Array Nat}{m:Nat}(P:Pm p n)(h:m<=n)(hd:Dn lt p m):Up lt (kas_rev p 0 m) m:=λi j hi hj=>by
 have hs:m<=p.size:=by rw [P.size];exact h
 rw [vb hs,vb hs,BP (by omega),BP hj];exact hd (m - 1 - j) (m - 1 - i) (by omega)<|by omega
theorem k9u(A:dM lt cmp J n){p:Array Nat}(P:Pm p n){m:Nat}{Q:Nat×Array Nat->Shared->Prop}{s:Shared}(h1:1<=m)(h2:m<=n)(hd:Dn lt p m)(hJ:J s)
  (k:∀ r q s',J s'->1<=r->r<=n->Pm q n->Up lt q r->Q (r,q) s'):(kas_tail3 m n p).kasWp cmp Q s:=by
 unfold kas_tail3;rw [KC];exact HG A (P9 P h2) (n - m) m _ s h1 (by omega) (q8n P h2 hd) hJ λr s' j a b c _=>k r _ s' j (by omega) (by omega) (P9 P h2) c
theorem k9f(A:dM lt cmp J n){p:Array Nat}(P:Pm p n){Q:Nat×Array Nat->Shared->Prop}{s:Shared}(h2:2<=n)(hJ:J s)
  (k:∀ r q s',J s'->1<=r->r<=n->Pm q n->Up lt q r->Q (r,q) s'):(kas_count n p).kasWp cmp Q s:=by
 unfold kas_count;rw [KC];refine HG A P (n - 1) 1 _ s (Al _) (by omega) (q7b p) hJ λm s' gu m1 m2 hu vd=>?_
 by_cases c:m=n
 ·subst c;rw [BP<|by simp];exact k m p s' gu m1 (Al _) P hu
 ·rw [BL<|by simpa using c]
  by_cases d:m > 1
  ·rw [BP d];have bw:g p 0≠g p (m - 1):=λh=>by have:=P.inj 0 (m - 1) (by omega) (by omega) h;omega
   refine A.ask _ _ _ _ (P.lt 0<|by omega) (P.lt (m - 1)<|by omega) bw gu λs2 va=>?_;have e:lt (p.getD 0 0) (p.getD (m - 1) 0)=true:=hu 0 (m - 1) (by omega) (by omega);rw [e];exact k m p s2 va m1 (by omega) P hu
  ·rw [BL d];have em:m=1:=by omega
   subst em;unfold kas_descPart;rw [KC];have hl:=vd (by omega);have hd2:Dn lt p 2:=λi j hi hj=>by
    have:i=0/\j=1:=by omega
    rw [this.1,this.2];exact hl
   refine P8 A P (n - (1+1)) (1+1) _ s' (by omega) (by omega) hd2 gu λr s2 va r1 r2 hd=>?_;show(if(0:Nat) > 0 then _ else kas_tail3 r n p:KasT _).kasWp cmp Q s2;rw [BL<|by omega];exact k9u A P (by omega) (by omega) hd va k
theorem HH(A:dM lt cmp J n){p:Array Nat}(P:Pm p n){k:Nat}(hk:k < n)(hu:Up lt p k):∀(f l r:Nat) (Q:Nat->Shared->Prop) (s:Shared),r<=k->l<=r->r - l<=f->J s->(∀ i,i < l->lt (g p i) (g p k)=true)->(∀ i,r<=i->i < k->lt (g p k) (g p i)=true) ->
  (∀ m s',J s'->m<=k->(∀ i,i < m->lt (g p i) (g p k)=true)->(∀ i,m<=i->i < k->lt (g p k) (g p i)=true)->Q m s')->(kas_place p k f l r).kasWp cmp Q s
 | 0,l,r,Q,s,h1,h2,h3,hJ,ha,hb,q=>q l s hJ (by omega) ha λi hi=>hb i<|by omega
 | f+1,l,r,Q,s,h1,h2,h3,hJ,ha,hb,q=>by
  unfold kas_place
  by_cases c:l>=r
  ·rw [BP c];exact q l s hJ (by omega) ha λi hi=>hb i<|by omega
  ·rw [BL c];have hmk:(l+r) / 2 < k:=by omega
   have bw:g p k≠g p ((l+r) / 2):=λh=>by have:=P.inj k _ hk (by omega) h;omega
   refine A.ask _ _ _ _ (P.lt k hk) (P.lt _<|by omega) bw hJ λs' gu=>?_;cases e:lt (p.getD k 0) (p.getD ((l+r) / 2) 0) with
   | true=>
    show(kas_place p k f l<|(l+r) / 2).kasWp cmp Q s';refine HH A P hk hu f l ((l+r) / 2) Q s' (by omega) (by omega) (by omega) gu ha (λi hi P'=>?_) q
    by_cases d:i=(l+r) / 2
    ·rw [d];exact e
    ·exact A.yv _ _ _ e<|hu _ _ (by omega) P'
   | false=>
    show(kas_place p k f ((l+r) / 2+1) r).kasWp cmp Q s';have e2:=HE A (P.lt k hk) (P.lt _<|by omega) bw e;refine HH A P hk hu f ((l+r) / 2+1) r Q s' h1 (by omega) (by omega) gu (λi hi=>?_) hb q
    by_cases d:i=(l+r) / 2
    ·rw [d];exact e2
    ·exact A.yv _ _ _ (hu _ _ (by omega) hmk) e2
theorem ve{p:Array Nat}{k m i:Nat}(hk:k < p.size)(hm:m<=k):g (bubble p k<|k - m) i=if i=m then g p k else if m < i/\i<=k then g p (i - 1) else g p i:=by
 have e:=getElem?_bubble (xs:=p) hk (k - m) (by omega) i;rw [show k - (k - m)=m by omega] at e
 by_cases c:i=m
 ·rw [BP c];rw [BP c] at e;exact ki e
 ·rw [BL c];rw [BL c] at e
  by_cases d:m < i/\i<=k
  ·rw [BP d];rw [BP d] at e;exact ki e
  ·rw [BL d];rw [BL d] at e;exact ki e
theorem q7v{p:Array Nat}{k m:Nat}(P:Pm p n)(hk:k < n)(hm:m<=k):Pm (bubble p k<|k - m) n:=by
 have hs:k < p.size:=by rw [P.size];exact hk
 refine⟨by rw [bubble_size];exact P.size,λi hi=>?_,λi j hi hj q=>?_⟩
 ·rw [ve hs hm]
  split
  ·exact P.lt k hk
  ·split
   ·exact P.lt _<|by omega
   ·exact P.lt _ hi
 ·rw [ve hs hm,ve hs hm] at q;have src:∀ a,a < n->∃ b,b < n/\(if a=m then g p k else if m < a/\a<=k then g p (a - 1) else g p a)=g p b/\((a=m/\b=k)\/(a≠m/\(m < a/\a<=k)/\b=a - 1)\/(a≠m/\¬(m < a/\a<=k)/\b=a)):=λa ha=>by
   by_cases c:a=m
   ·exact⟨k,hk,by rw [BP c],.inl ⟨c,rfl⟩⟩
   ·by_cases d:m < a/\a<=k
    ·exact⟨a - 1,by omega,by rw [BL c,BP d],.inr<|.inl ⟨c,d,rfl⟩⟩
    ·exact⟨a,ha,by rw [BL c,BL d],.inr<|.inr ⟨c,d,rfl⟩⟩
  obtain⟨x,x1,x2,x3⟩:=src i hi;obtain⟨y,y1,y2,y3⟩:=src j hj;rw [x2,y2] at q;have e:=P.inj x y x1 y1 q;subst e
  rcases x3 with ⟨a1,a2⟩ | ⟨a1,a2,a3⟩ | ⟨a1,a2,a3⟩
  ·rcases y3 with ⟨b1,b2⟩ | ⟨b1,b2,b3⟩ | ⟨b1,b2,b3⟩
   ·exact a1.trans b1.symm
   ·exact absurd (a2.symm.trans b3)<|Cy<|Bg (Nat.sub_lt (Gc b2.1) Fg) b2.2
   ·exact absurd ⟨Fw (by rw [<- b3,a2];exact hm)<|CG b1,by rw [<- b3,a2];exact Al _⟩ b2
  ·rcases y3 with ⟨b1,b2⟩ | ⟨b1,b2,b3⟩ | ⟨b1,b2,b3⟩
   ·exact absurd (b2.symm.trans a3)<|Cy<|Bg (Nat.sub_lt (Gc a2.1) Fg) a2.2
   ·exact Nat.sub_one_cancel (Gc a2.1) (Gc b2.1)<|a3.symm.trans b3
   ·exact absurd ⟨Fw (by rw [<- b3,a3];exact Nat.le_sub_one_of_lt a2.1)<|CG b1,by rw [<- b3,a3];exact Bs (Nat.sub_le _ _) a2.2⟩ b2
  ·rcases y3 with ⟨b1,b2⟩ | ⟨b1,b2,b3⟩ | ⟨b1,b2,b3⟩
   ·exact absurd ⟨Fw (by rw [<- a3,b2];exact hm)<|CG a1,by rw [<- a3,b2];exact Al _⟩ a2
   ·exact absurd ⟨Fw (by rw [<- a3,b3];exact Nat.le_sub_one_of_lt b2.1)<|CG a1,by rw [<- a3,b3];exact Bs (Nat.sub_le _ _) b2.2⟩ a2
   ·exact a3.symm.trans b3
theorem q66{p:Array Nat}{k m:Nat}(P:Pm p n)(hk:k < n)(hm:m<=k)(hu:Up lt p k)(ha:∀ i,i < m->lt (g p i) (g p k)=true)(hb:∀ i,m<=i->i < k->lt (g p k) (g p i)=true):Up lt (bubble p k<|k - m) (k+1):=λi j hi hj=>by
 have hs:k < p.size:=by rw [P.size];exact hk
 rw [ve hs hm,ve hs hm]
 by_cases c:i=m
 ·rw [BP c,BL (by omega),BP<|by omega];exact hb _ (by omega)<|by omega
 ·rw [BL c]
  by_cases d:j=m
  ·rw [BP d,BL<|by omega];exact ha i<|by omega
  ·rw [BL d]
   by_cases e:m < i/\i<=k
   ·rw [BP e,BP<|by omega];exact hu _ _ (by omega)<|by omega
   ·rw [BL e]
    by_cases f:m < j/\j<=k
    ·rw [BP f];exact hu _ _ (by omega)<|by omega
    ·rw [BL f];exact hu _ _ hi<|by omega
theorem Qa(A:dM lt cmp J n):∀(f:Nat) (p:Array Nat) (k:Nat) (Q:Array Nat->Shared->Prop) (s:Shared),Pm p n->1<=k->k+f=n->Up lt p k->J s->(∀ q s',J s'->Pm q n->Up lt q n->Q q s')->(kas_bin f p k).kasWp cmp Q s
 | 0,p,k,Q,s,P,h1,h2,hu,hJ,q=>by
  have:k=n:=by omega
  subst this;exact q p s hJ P hu
 | f+1,p,k,Q,s,P,h1,h2,hu,hJ,q=>by
  unfold kas_bin;rw [KC];refine HH A P (by omega) hu k 0 k _ s (Al _) (Bx _) (by omega) hJ (λi hi=>by omega) (λi hi P'=>by omega) λm s' gu hm ha hb=>?_;exact Qa A f _ (k+1) Q s' (q7v P (by omega) hm) (by omega) (by omega) (q66 P (by omega) hm hu ha hb) gu q
theorem q3e(A:dM lt cmp J n){Q:Array Nat->Shared->Prop}{s:Shared}(h2:2<=n)(hJ:J s)(q:∀ p s',J s'->Pm p n->Up lt p n->Q p s'):(kas_sort n).kasWp cmp Q s:=by
 unfold kas_sort;rw [KC];refine k9f A (P7 n) h2 hJ λr p s' gu r1 r2 P hu=>?_;show(if r < n then kas_bin (n - max r 1) p (max r 1) else .ret p:KasT _).kasWp cmp Q s';have em:max r 1=r:=by omega
 rw [em]
 by_cases c:r < n
 ·rw [BP c];exact Qa A (n - r) p r Q s' P r1 (by omega) hu gu q
 ·rw [BL c];have:r=n:=by omega
  subst this;exact q p s' gu P hu
end
theorem Qb{p:Array Nat}{n:Nat}(P:Pm p n):p.toList.Nodup:=by
 rw [Ce,Bn];intro i j hi hj d3 e;have qS:i < n:=by rw [Bm,P.size] at hi;exact hi
 have oU:j < n:=by rw [Bm,P.size] at hj;exact hj
 have e1:g p i=p.toList[i]:=jc (by rw [<- Bq];exact Ab hi);have e2:g p j=p.toList[j]:=jc (by rw [<- Bq];exact Ab hj);have:=P.inj i j qS oU (by rw [e1,e2,e]);omega
theorem HI{p:Array Nat}{n v:Nat}(P:Pm p n)(h:v∈p.toList):v < n:=by
 obtain⟨i,hi⟩:=Bp h;have hl:i < n:=by have:=(Ac.mp hi).1;rw [Bm,P.size] at this;exact this
 have e1:g p i=v:=jc (by rw [<- Bq];exact hi);rw [<- e1];exact P.lt i hl
theorem q2z{p:Array Nat}{n:Nat}(P:Pm p n):p.toList.Perm (List.range n):=by
 rw [QJ (Qb P) RD];intro v;rw [Br];refine⟨λh=>HI P h,λh=>DQ λhn=>?_⟩;have l1:p.toList.length<=((List.range n).erase v).length:=Nt.aX (Qb P) λz hz=>by
  have bw:z≠v:=λe=>hn<|e ▸ hz;exact(Ff bw).mpr<|Br.mpr<|HI P hz
 rw [Fr<|Br.mpr h,Bm,P.size,El] at l1;omega
def Hd(h:Heap)(v:Value)(z:Str):Prop:=∃ a o xs n t,v = .ref a/\h.get? a=some o/\o.cls = .type "tuple"/\o.data = .seq xs n/\xs[0]?=some (.str z t)
theorem Hd.keep{h h':Heap}{v:Value}{z:Str}(x:Hd h v z)(k:∀ a o,v = .ref a->h.get? a=some o->h'.get? a=some o):Hd h' v z:=by
 obtain⟨a,o,xs,n,t,e,h1,h2⟩:=x;exact⟨a,o,xs,n,t,e,k a o e h1,h2⟩
def qh(h:Heap)(vs:List Value)(zs:List Str):Prop:=vs.length=zs.length/\∀(i:Nat) v z,vs[i]?=some v->zs[i]?=some z->Hd h v z
def ltZ(zs:List Str)(i j:Nat):Bool:=decide ((zs.getD i ⟨#[]⟩).cps.toList < (zs.getD j ⟨#[]⟩).cps.toList)
section
variable{prog:Program}{w:World}{A:Around}{E:Value->Shared->Prop}{s:Shared}
theorem Qc:∀{h:Heap} {vs:List Value} {zs:List Str},qh h vs zs->∃ fs,KatTups h vs fs/\fs.length=vs.length/\∀ f∈fs,∃ z t,f=Value.str z t
 | h,[],_,_=>⟨[],KatTups.nil,rfl,λf hf=>by cases hf⟩
 | h,v :: vs,[],hh=>by have:=hh.1;simp at this
 | h,v :: vs,z :: zs,hh=>by
  obtain⟨fs,k1,k2,k3⟩:=Qc (h:=h) (vs:=vs) (zs:=zs) ⟨by have:=hh.1;simpa using this,λi a b h1 h2=>hh.2 (i+1) a b (by simpa using h1)<|by simpa using h2⟩;obtain⟨a,o,xs,n,t,rfl,h1,h2,h3,h4⟩:=hh.2 0 v z rfl rfl;refine⟨.str z t :: fs,KatTups.cons h1 h2 h3 h4 k1,by rw [Aq,Aq,k2],λf hf=>?_⟩
  rcases Ak.mp hf with rfl | hf
  ·exact⟨z,t,rfl⟩
  ·exact k3 f hf
theorem q8o{x y:Value}{z u:Str}{Q:Bool->Shared->Prop}(hx:Hd s.heap x z)(hy:Hd s.heap y u)(bw:z≠u)(h:Q (decide (z.cps.toList < u.cps.toList)) s):wpAny (model prog w) A (keyLt' (tuples' true) x y) Q E s:=by
 obtain⟨a,o,xs,n,t,rfl,h1,h2,h3,h4⟩:=hx;obtain⟨b,o',ys,n',t',rfl,g1,g2,g3,g4⟩:=hy;refine kat_lt h1 h3 g1 g3 ?_;have ex:∃ r,xs.toList = .str z t :: r:=by
  have:xs.toList[0]?=some (.str z t):=by rw [Bq];exact h4
  cases e:xs.toList with
  | nil=>rw [e] at this;cases this
  | cons c r=>rw [e] at this;cases this;exact⟨r,rfl⟩
 have ey:∃ r,ys.toList = .str u t' :: r:=by
  have:ys.toList[0]?=some (.str u t'):=by rw [Bq];exact g4
  cases e:ys.toList with
  | nil=>rw [e] at this;cases this
  | cons c r=>rw [e] at this;cases this;exact⟨r,rfl⟩
 obtain⟨rx,ex⟩:=ex;obtain⟨ry,ey⟩:=ey;rw [ex,ey];show KatLex prog w A true _ Q ((.str z t,.str u t') :: rx.zip ry) 0 s;refine kat_cons<|eqBool_str ?_;have:(z == u)=false:=beq_eq_false_iff_ne.mpr bw;rw [this];exact kat_no<|oneLt_str h
theorem q3y{a b:Str}(h:a.cps.toList=b.cps.toList):a=b:=by
 apply Str.ext';exact Array.toList_inj.mp h
theorem k9k{vs:List Value}{zs:List Str}(hh:qh s.heap vs zs)(hn:zs.Nodup):dM (ltZ zs) (kas_ask prog w A (tuples' true) vs) (λs'=>s'=s) vs.length:=by
 have hl:=hh.1;have gz:∀ i,(hi:i < zs.length)->zs.getD i ⟨#[]⟩=zs[i]:=λi hi=>by simp [hi]
 have gv:∀ i,(hi:i < vs.length)->vs.getD i Value.none=vs[i]:=λi hi=>by simp [hi]
 have ne:∀ i j,(hi:i < zs.length)->(hj:j < zs.length)->i≠j->zs[i]≠zs[j]:=λi j hi hj d3 e=>by
  rcases Nat.lt_or_gt_of_ne d3 with c | c
  ·exact Bn.mp (Ce.mp hn) i j hi hj c e
  ·exact Bn.mp (Ce.mp hn) j i hj hi c e.symm
 refine⟨λi j C s' hi hj d3 hs hC=>?_,λi j hi hj d3=>?_,λi j h=>?_,λi j k h1 h2=>?_⟩
 ·subst hs;unfold kas_ask;rw [gv i hi,gv j hj];have e:ltZ zs i j=decide (zs[i].cps.toList < zs[j].cps.toList):=by unfold ltZ;rw [gz i (by omega),gz j<|by omega]
  refine q8o (hh.2 i _ zs[i] (Ab hi)<|Ab<|by omega) (hh.2 j _ zs[j] (Ab hj)<|Ab<|by omega) (ne i j (by omega) (by omega) d3) ?_;rw [<- e];exact hC s' rfl
 ·unfold ltZ;rw [gz i (by omega),gz j (by omega),CK,CK]
  by_cases c:zs[i].cps.toList < zs[j].cps.toList
  ·exact .inl c
  ·by_cases d:zs[j].cps.toList < zs[i].cps.toList
   ·exact .inr d
   ·have:zs[i].cps.toList=zs[j].cps.toList:=List.le_antisymm (List.not_lt.mp d)<|List.not_lt.mp c;exact absurd (q3y this)<|ne i j (by omega) (by omega) d3
 ·unfold ltZ at h ⊢;have:=BX h;exact BR λq=>Ga _<|Gh this q
 ·unfold ltZ at h1 h2 ⊢;exact BW<|Gh (BX h1)<|BX h2
theorem map_range(vs:List Value):(List.range vs.length).map (λi=>vs.getD i Value.none)=vs:=by
 apply RG
 ·simp
 ·intro i h1 h2;simp [h2]
theorem q1j{a:Addr}{vs:List Value}{zs:List Str}{n:Nat}{P:Fin->Shared->Prop}(ho:s.heap.get? a=some (seqObj "list" vs.toArray n))(bY:∀ v∈vs,v ≠ .ref a)(hh:qh s.heap vs zs)(hn:zs.Nodup)(o7:vs.length < 64)
  (h:∀ p:Array Nat,Pm p vs.length->Up (ltZ zs) p vs.length->P (.done<|.ret .none) {s with heap:=sortedHeap s.heap a vs (List.toArray<|p.toList.map λi=>vs.getD i Value.none)}) :
  wpAny (model prog w) A (Builtin.«list.sort» ⟨[.ref a],[]⟩) P E s:=by
 rw [list_sort_plain];have ha:a < s.heap.objs.size:=Ay ho;have HK:vs.length<=sizeLine:=by rw [DW];omega
 refine BJ<|OD ho rfl ?_;refine BJ<|LC ho rfl ?_;obtain⟨e1,lT⟩:∃ e1,(s.heap.update a<|Obj.mapSeq λ_=>#[]).get? a=some (seqObj "list" #[] e1):=⟨_,get?_update_seq ho λ_=>#[]⟩;refine BJ<|PX lT rfl ?_;refine BJ<|PN ?_;refine BJ<|JT ?_;refine CJ ?_;have o8:(((s.heap.update a<|Obj.mapSeq λ_=>#[]).push<|seqObj "tuple" vs.toArray 0).push<|seqObj "list" #[] 0).get? a=some (seqObj "list" #[] e1):=Ag _<|Ag _ lT;show wpAny (model prog w) A _ P E {s with heap:=((s.heap.update a<|Obj.mapSeq λ_=>#[]).push<|seqObj "tuple" vs.toArray 0).push (seqObj "list" #[] 0)};have Qd:qh (((s.heap.update a<|Obj.mapSeq λ_=>#[]).push<|seqObj "tuple" vs.toArray 0).push<|seqObj "list" #[] 0) vs zs:=⟨hh.1,λi v z h1 h2=>(hh.2 i v z h1 h2).keep λb o e q=>by
  have hb:a≠b:=λe2=>bY v (Ap h1) (by rw [e,e2]);exact Ag _<|Ag _<|(De _ _ hb).trans q⟩
 dsimp only
 have hsz:vs.toArray.size=vs.length:=by simp
 by_cases h2:vs.toArray.size < 2
 ·rw [BP h2,BP h2];refine BJ<|BK ?_;rw [StateT.run_pure];refine BJ<|BK ?_
  dsimp only
  have e5:(arrOf<|SortSt.mk' general' (vs.toArray.zip vs.toArray) #[] 7 none).map (·.2)=vs.toArray:=by
   show(vs.toArray.zip vs.toArray).map (·.2)=_;apply Array.toList_inj.mp;simp [List.map_snd_zip]
  refine BJ<|PX o8 rfl ?_;refine BJ (LC o8 rfl ?_ (hsz2:=by rw [e5,hsz];omega));simp only [FT,Bb,CV];refine BK ?_;rw [e5];have fin:=h (List.toArray<|List.range vs.length) (P7 _) λi j hi hj=>by rw [hsz] at h2;omega
  have e6:(List.toArray<|List.range vs.length).toList.map (λi=>vs.getD i Value.none)=vs:=map_range vs;rw [e6] at fin;exact fin
 ·rw [BL h2,BL h2];obtain⟨fs,k1,k2,k3⟩:=Qc Qd;rw [hsz] at h2;refine BJ<|kat_kind (T:= .type "str") k1 (by omega) (λf hf=>?_) (by decide) ?_
  ·obtain⟨z,t,rfl⟩:=k3 f hf;exact Looks.of_pure rfl
  refine BJ<|CW (kat_run (prog:=prog) (w:=w) (A:=A) (E:=E) (κ:=tuples' true) (ks:=vs) (vs:=vs) (Q:=λcV s'=>s'={s with heap:=((s.heap.update a<|Obj.mapSeq λ_=>#[]).push<|seqObj "tuple" vs.toArray 0).push (seqObj "list" #[] 0)}/\∃ p:Array Nat,Pm p vs.length/\Up (ltZ zs) p vs.length/\arrOf cV=p.map (kas_item<|vs.toArray.zip vs.toArray)/\failedOf cV=none)
   (G:=λp s'=>s'={s with heap:=((s.heap.update a<|Obj.mapSeq λ_=>#[]).push<|seqObj "tuple" vs.toArray 0).push (seqObj "list" #[] 0)}/\Pm p vs.length/\Up (ltZ zs) p vs.length) rfl (by omega) o7 (λp cV s' _ a2 a3 a4=>⟨a4.1,p,a4.2.1,a4.2.2,a2,a3⟩)
   (q3e (k9k (s:={s with heap:=((s.heap.update a<|Obj.mapSeq λ_=>#[]).push<|seqObj "tuple" vs.toArray 0).push (seqObj "list" #[] 0)}) Qd hn) (by omega) rfl λp s' e P U=>⟨e,P,U⟩)) ?_ λ_ _ e=>e
  rintro ⟨⟨⟩,cV⟩ s' ⟨rfl,p,P,U,wZ,hf⟩
  dsimp only
  have e3:=kat_snds (ks:=vs) (vs:=vs) rfl wZ;refine BJ<|PX o8 rfl ?_;refine BJ (LC o8 rfl ?_ (hsz2:=by rw [e3,Au,Aa,Bm,P.size];omega));rw [hf];simp only [FT,Bb,CV];refine BK ?_;rw [e3];exact h p P U
theorem q3a{l:Addr}{vs:List Value}{zs:List Str}{Q:Value->Shared->Prop}(hl:s.heap.IsList l vs.toArray)(hh:qh s.heap vs zs)(hn:zs.Nodup)(o7:vs.length < 64)
  (h:∀(h':Heap) (e:Nat) (p:Array Nat),Pm p vs.length->Up (ltZ zs) p vs.length->(∀ b u,s.heap.get? b=some u->h'.get? b=some u)->h'.get? (s.heap.objs.size+1)=some (seqObj "list" (List.toArray<|p.toList.map λi=>vs.getD i Value.none) e)->Q (.ref<|s.heap.objs.size+1) {s with heap:=h'}) :
  wpAny (model prog w) A (call (.builtin "sorted") [.ref l]) Q E s:=by
 have HK:vs.length<=sizeLine:=by rw [DW];omega
 refine Calls.call_function_entry kind_sorted plain_sorted entry_sorted (args_sorted1 _) ?_;unfold Builtin.«sorted»;refine BJ (m:=checkCount "sorted" 1 1 _)<|BK ?_;refine BJ<|collect_list (vs:=vs) hl ?_;refine BJ<|JT ?_;have hsz:((s.heap.push<|seqObj "list" #[] 0).update s.heap.objs.size (Obj.mapSeq (·++vs.toArray))).objs.size=s.heap.objs.size+1:=by
  rw [Heap.size_update,size_push']
 have jG:(((s.heap.push<|seqObj "list" #[] 0).update s.heap.objs.size (Obj.mapSeq (·++vs.toArray))).push<|seqObj "list" vs.toArray 0).get? (s.heap.objs.size+1)=some (seqObj "list" vs.toArray 0):=by
  rw [<- hsz];exact At _ rfl
 have hhL:qh (((s.heap.push<|seqObj "list" #[] 0).update s.heap.objs.size (Obj.mapSeq (·++vs.toArray))).push<|seqObj "list" vs.toArray 0) vs zs:=⟨hh.1,λi v z h1 h2=>(hh.2 i v z h1 h2).keep λb o e q=>
  Ag _ ((De _ _<|Cy<|Ay q).trans<|Ag _ q)⟩
 have bw:∀ v∈vs,v ≠ .ref (s.heap.objs.size+1):=λv hv e=>by
  obtain⟨i,hi⟩:=Bp hv;have hl:=hh.1;have hiz:i < zs.length:=by have:=(Ac.mp hi).1;omega
  obtain⟨b,o,xs,n,t,e2,h1,_⟩:=hh.2 i v zs[i] hi<|Ab hiz;rw [e2] at e;cases e;exact absurd (Nat.lt_of_succ_lt<|Ay h1)<|Ds _
 show wpAny _ _ _ _ _ {s with heap:=((s.heap.push<|seqObj "list" #[] 0).update s.heap.objs.size (Obj.mapSeq (·++vs.toArray))).push (seqObj "list" vs.toArray 0)};rw [hsz];refine BJ<|CJ<|DG slot_list_sort ⟨_,jG,rfl⟩ entry_list_sort (q1j jG bw hhL hn o7 λp P U=>⟨_,rfl,?_⟩)<|args_list_sort _;obtain⟨e,he⟩:=sortedAll_at s.heap vs<|List.toArray<|p.toList.map λi=>vs.getD i Value.none;exact BK ⟨_,rfl,h _ e p P U (λb u hb=>sortedAll_old hb) he⟩
end
end nW
namespace L2
open PySem PySem.Spec PyProof.Rows nW
theorem Qe:∀{ts:List Addr} {its:List Value},az (ts.map V.ref) its->its=ts.map Value.ref
 | [],its,r=>r.zero
 | t :: ts,its,r=>by
  cases r with
  | cons h1 h2=>
   rw [Qe h2];have:_=Value.ref t:=h1;rw [this];rfl
theorem Qf:∀(ts:List Addr),az (ts.map V.ref)<|ts.map Value.ref
 | []=> .nil
 | t :: ts=> .cons rfl (Qf ts)
theorem k5p{α β:Type}(xs:List α)(ys:List β)(h:xs.length=ys.length)(a:α)(b:β):(List.range xs.length).map (λi=>(xs.getD i a,ys.getD i b))=xs.zip ys:=by
 apply RG
 ·simp [h]
 ·intro i h1 h2;have hx:i < xs.length:=by simp at h1;exact h1
  have hy:i < ys.length:=by omega
  simp [hx,hy]
section
variable{X:Cx}{σ:St}{H:Hp}
theorem k0l:fH X (.builtin "sorted") (λxs H Q=>∃(l:Addr) (ts:List Addr) (zs:List Str),xs=[.ref l]/\aq X.K H l (ts.map V.ref)/\ts.length=zs.length/\zs.Nodup/\ts.length < 64/\(∀(i:Nat) t z,ts[i]?=some t->zs[i]?=some z->∃ r,H t=some (.tup<|.str z :: r)) /\
  ∀(r:Addr) (ps:List<|Addr×Str),H r=none->ps.Perm (ts.zip zs)->ps.Pairwise (λa b=>a.2.cps.toList < b.2.cps.toList)->Q (.ref r) (upd H r<|.lst<|ps.map λp=> .ref p.1)):=by
 intro pins s σ H xs us Q I r h;obtain⟨l,ts,zs,rfl,hl,hlen,hn,o7,hd,q⟩:=h;obtain⟨u,rfl,ru⟩:=vals1 r;cases (show u=Value.ref l from ru);obtain⟨its,rv,pl,_⟩:=I.list hl;have ei:=Qe rv;subst ei;have hh:qh s.heap (ts.map Value.ref) zs:=by
  refine⟨by rw [Aa];exact hlen,λi v z h1 h2=>?_⟩;rw [Ah,Aw] at h1;obtain⟨t,ht,rfl⟩:=h1;obtain⟨rr,hr⟩:=hd i t z ht h2;obtain⟨its,r3,tp,_⟩:=I.tuple<|aJ.of hr;cases r3 with
  | cons a1 a2=>
   obtain⟨tk,rfl⟩:=a1;obtain⟨o,ho,hc,n,hd2⟩:=tp;exact⟨t,o,_,n,tk,rfl,ho,hc,hd2,rfl⟩
 refine q3a pl.isList hh hn (by rw [Aa];exact o7) λh' e p P U kp he=>?_;rw [Aa] at P U;have gp:∀ i,i < ts.length->g p i < ts.length:=P.lt;have pl2:p.toList.length=ts.length:=by rw [Bm];exact P.size
 have e1:(p.toList.map λi=>(ts.map Value.ref).getD i Value.none)=((p.toList.map λi=>(ts.getD i 0,zs.getD i ⟨#[]⟩)).map λx=>x.1).map Value.ref:=by
  rw [Ca,Ca];refine Ao λi hi=>?_;have a7:=HI P hi;show(ts.map Value.ref).getD i Value.none=Value.ref (ts.getD i 0);simp [a7]
 refine⟨.ref _,_,I.eG (s':={s with heap:=h'}) kp rfl rfl (Eh _) (show aD X.prog X.w _ h' _ (.lst<|(p.toList.map λi=>(ts.getD i 0,zs.getD i ⟨#[]⟩)).map λx=>V.ref x.1) from ?_),rfl,q _ (p.toList.map λi=>(ts.getD i 0,zs.getD i ⟨#[]⟩)) (I.aG.fresh<|Eh _) ?_ ?_⟩
 ·refine⟨by rw [Aa,Aa,pl2,DW];omega,_,e,?_,he⟩;rw [e1];have:=Qf<|(p.toList.map λi=>(ts.getD i 0,zs.getD i (⟨#[]⟩:Str))).map λx=>x.1;rw [Ca] at this;exact this
 ·rw [<- k5p ts zs hlen 0 ⟨#[]⟩];exact(q2z P).map _
 ·rw [Bn];intro i j hi hj d3;rw [Aa] at hi hj;have:=U i j d3 (by omega);have q1:g p i=p.toList[i]:=jc (by rw [<- Bq];exact Ab hi);have q2:g p j=p.toList[j]:=jc (by rw [<- Bq];exact Ab hj);rw [q1,q2] at this;rw [Dq,Dq];exact BX this
theorem k7n{e1 e2 e3:Expr}{k:Nat}{pos:Pos}{t:Addr}{x y z:V}{R:St->Hp->Prop}(hc:X.calm=true)(ht:aJ X.K H t [x,y,z])(h:Eg X e1 x σ H λσ1 H1=>Eg X e2 y σ1 H1 λσ2 H2=>Eg X e3 z σ2 H2 R)
  (hn:(assignEach [e1,e2,e3] X.env).length=3:=by rfl) (c9:(assignEach [e1,e2,e3] X.env).findIdx? (·.1)=none:=by rfl)
  (jq:(assignEach [e1,e2,e3] X.env).map (·.2)=assign e1 X.env :: (assignEach [e2,e3] X.env).map (·.2):=by rfl) (rj:(assignEach [e2,e3] X.env).map (·.2)=assign e2 X.env :: (assignEach [e3] X.env).map (·.2):=by rfl) (qN:(assignEach [e3] X.env).map (·.2)=assign e3 X.env :: (assignEach [] X.env).map (·.2):=by rfl) :
  Eg X (.Tuple [e1,e2,e3] k pos) (.ref t) σ H R:=
 AQ (Kr (t:=qC (λv σ H Q=>Eg X e1 v σ H Q)<|qC (λv σ H Q=>Eg X e2 v σ H Q)<|qC (λv σ H Q=>Eg X e3 v σ H Q) om) hc (sw oN (sw oN (sw oN Kq qN) rj) jq) hn c9)
  ⟨t,_,rfl,ht,rfl,_,_,rfl,h.mono λσ1 H1 h1=>⟨_,_,rfl,h1.mono λσ2 H2 h2=>⟨_,_,rfl,h2.mono λσ3 H3 q=>⟨rfl,q⟩⟩⟩⟩
end
end L2
namespace E5
open PySem L2 Nt bN
abbrev T3(x:Lk):HO:= .tup [.str x.1,.str x.2.1,.str x.2.2]
def mJ(H:Hp)(us:List Addr)(ls:List Lk):Prop:=us.length=ls.length/\∀(j:Nat) u x,us[j]?=some u->ls[j]?=some x->H u=some (T3 x)
theorem mJ.keep{H H':Hp}{us:List Addr}{ls:List Lk}(h:mJ H us ls)(k:∀ t xs,H t=some (.tup xs)->H' t=some (.tup xs)):mJ H' us ls:=⟨h.1,λj u x h1 h2=>k _ _<|h.2 j u x h1 h2⟩
theorem mJ.snoc{H:Hp}{us:List Addr}{ls:List Lk}{u:Addr}{x:Lk}(h:mJ H us ls)(hu:H u=some (T3 x)):mJ H (us++[u]) (ls++[x]):=by
 refine⟨by rw [Af,Af,h.1];rfl,λj v y h1 h2=>?_⟩;have hl:=h.1
 by_cases hj:j < us.length
 ·rw [As hj] at h1;rw [As<|by omega] at h2;exact h.2 j v y h1 h2
 ·rw [Az<|by omega] at h1 h2;have fB:j - us.length=0:=by
   have:=(Ac.mp h1).1;simp at this;omega
  rw [fB] at h1;rw [<- hl,fB] at h2;cases h1;cases h2;exact hu
def yw(ls:List Lk):Prop:=ls.Pairwise λx y=>x.1.cps.toList < y.1.cps.toList
def HL:Sp:=λvs H Q _=>∃(R:Addr) (as:List<|Addr×Addr) (n:Net),vs=[.ref R]/\ai H R as n/\ax n/\n.length<=1000/\(ag n).length<=60 /\
 ∀(L:Addr) (us:List Addr) (ls:List Lk) (H':Hp),aj H H'->H L=none->H' L=some (.lst<|us.map V.ref)->mJ H' us ls->yw ls->(∀ x,x∈ls↔nJ n x)->ls.length<=60->Q (.ref L) H'
theorem k9l{n:Net}(T:ax n){r p:Nat}{z:Str}(hr:r < n.length)(hz:(row n r)[p]?=some z):(bG (bo (n.take r)++bu r ((row n r).take p) 0) z).length<=1:=by
 obtain⟨rest,h⟩:=uv hr hz;have h1:bG (bo n) z=bG (bo (n.take r)++bu r ((row n r).take p) 0) z++(r,p) :: bG rest z:=by
  rw [h];unfold bG;rw [Cn,Aj,RQ<|by simp];rfl
 have h2:(bG (bo n) z).length=2:=by
  have:=o9 n z;rw [T z<|dZ (e:=(r,p)) hz] at this;exact this
 rw [h1,Af,Aq] at h2;omega
section
variable{P:Program}{w:World}{K:PySem.W.Frag}{mg:Str->Option Value}{base:Heap}
abbrev NLk:List Str:=["rows","met","links","point","ties","tie"]
theorem vf:ak NLk ["rows"] (a8 C1):=⟨rfl,rfl,rfl,by decide +kernel,rfl,by decide +kernel,by decide +kernel⟩
theorem q1x{f:Addr}{fd:FuncData}(F:bE K "links_of" "links_of" C1 f fd)(T:Txt mg):aI P w K mg base bB 1 f fd ["rows"] HL:=by
 refine F.gb vf (λvs H Q E h=>?_) λb0 H vs Q E hr h=>?_
 ·obtain⟨R,as,n,rfl,_⟩:=h;rfl
 obtain⟨R,as,n,rfl,hR,hT,hn,dw,q⟩:=h;have nd:=vf.nd;have bY:=hR.len;have hu:=hr.u1;show Run _ _ _ [some<|.ref R,none,none,none,none,none] H;refine aW 1 nd<|xc λdm pC=>?_;refine aW 2 nd<|cY<|ay ⟨Z0,λM hM=>?_⟩;have kW:M≠dm:=λe=>by rw [e,aw] at hM;cases hM
 have Qg:H M=none:=by rw [av kW] at hM;exact hM
 have s0:aj H (upd (upd H dm<|.dK []) M<|.lst []):=(aS pC _).trans<|aS hM _;have vg:(upd (upd H dm<|.dK []) M<|.lst []) dm=some (.dK []):=by rw [av<|CG kW,aw]
 have vh:(upd (upd H dm<|.dK []) M<|.lst []) M=some (.lst []):=aw;show Run _ _ _ [some<|.ref R,some<|.ref dm,some<|.ref M,none,none,none] (upd (upd H dm<|.dK []) M<|.lst []);generalize upd (upd H dm<|.dK []) M (.lst [])=H0 at s0 vg vh;have HM:(bo n).length=(ag n).length:=by rw [<- kJ n 0,Aa];rfl
 refine iS<|ae 0 ⟨R,rfl,⟨_,aq.of<|s0 _ _ hR.lst⟩,iT (xs:=as.map λa=>V.ref a.1) (λr σ H'=>∃(kM:List<|Key×V) (us:List Addr) (ls:List Lk) (u1 u2 u3:Option V),aj H H'/\H' dm=some (.dK kM)/\H' M=some (.lst<|us.map V.ref)/\mJ H' us ls/\iD n (bo<|n.take r) kM ls/\σ=[some<|.ref R,some<|.ref dm,some<|.ref M,u1,u2,u3])
  ⟨[],[],[],_,_,_,s0,vg,vh,⟨rfl,λj u x h=>by simp at h⟩,iD.start n,rfl⟩ ?_ ?_ ?_⟩
 ·rintro r σ H' _ ⟨_,_,_,_,_,_,sm,_⟩;exact aq.of<|sm _ _ hR.lst
 ·rintro r x σ H' hx ⟨kM,us,ls,u1,u2,u3,sm,ed,eM,gW,I,rfl⟩;have hi:r < n.length:=by
   have:=(Ac.mp hx).1;rw [Aa] at this;omega
  obtain⟨a,ea,dj,et,el,er⟩:=(hR.same sm).at hi;rw [Ah,ea] at hx;cases hx;refine iA rfl (aJ.of et) (bf 3 nd<|bf 4 nd ?_);refine iS<|ae 4 ⟨a.2,rfl,⟨_,aq.of el⟩,iT (xs:=(row n r).map V.str) (λp σ b8=>∃(kM:List<|Key×V) (us:List Addr) (ls:List Lk) (u3:Option V),aj H b8/\b8 a.2=some (Ls<|row n r)/\b8 dm=some (.dK kM)/\b8 M=some (.lst<|us.map V.ref)/\mJ b8 us ls/\iD n (bo (n.take r)++bu r ((row n r).take p) 0) kM ls/\σ=[some<|.ref R,some<|.ref dm,some<|.ref M,some<|.str n[r].1,some<|.ref a.2,u3])
   ⟨kM,us,ls,_,sm,el,ed,eM,gW,by simpa [bu] using I,rfl⟩ ?_ ?_ ?_⟩
  ·rintro p σ b8 _ ⟨_,_,_,_,_,e,_⟩;exact aq.of e
  ·rintro p x σ b8 hx ⟨kM,us,ls,u3,sm,el,ed,eM,gW,I,rfl⟩;have hp:p < (row n r).length:=by
    have:=(Ac.mp hx).1;rw [Aa] at this;exact this
   have hz:(row n r)[p]?=some (row n r)[p]:=Ab hp;rw [Ah,hz] at hx;cases hx;have jq:=ph (r:=r) hz;have hle:=k9l hT hi hz;have Qh:(bo (n.take r)++bu r ((row n r).take p) 0).length<=60:=by
    obtain⟨rest,vi⟩:=uv hi hz;have h1:=BZ List.length vi;simp only [Af] at h1 ⊢;omega
   have lM:=I.dL;have lL:=I.me;have lA:=gW.1;have Qi:aF n r=n[r].1:=i4 hi;have naM:a.2≠M:=λe=>by
    have:=(hR.tup r a n[r] ea<|Ab hi).2;rw [e,Qg] at this;cases this
   generalize (row n r)[p]=z at hz jq hle;refine bf 5 nd ?_;refine du<|MZ hu<|ae 5<|ae 1 ⟨dm,_,rfl,aV.k (k:=Sum.inr z) ed,?_⟩;cases jx:bG (bo (n.take r)++bu r ((row n r).take p) 0) z with
   | nil=>
    rw [I.m0 z jx];show if false=true then _ else _;rw [BL<|by decide];refine qZ hu<|ae 3<|ae 1<|ae 5 ⟨dm,_,rfl,bU.k (k:=Sum.inr z) ed (bS<|by omega),aY<|aY ⟨_,us,ls,_,dN sm pC,?_,aw,?_,gW.keep λt xs h=>?_,?_,rfl⟩⟩
    ·rw [av<|ce el ed λz=>nomatch z];exact el
    ·rw [av kW];exact eM
    ·rw [av<|ce h ed λz=>nomatch z];exact h
    ·rw [jq,<- Ar];have:=I.new (e:=(r,p)) jx;show iD n _ (putK kM (Sum.inr z)<|.str n[r].1) ls;rw [<- Qi];exact this
   | cons b rest=>
    have hr0:rest=[]:=by
     rw [jx] at hle;exact Bk.mp<|by have:rest.length+1<=1:=hle;omega
    subst hr0;have vm:=I.m1 z b [] jx;rw [vm];show if true=true then _ else _;rw [BP rfl];refine gC (jr<|ae 2 ⟨M,rfl,⟨_,eM⟩,eF<|ah<|ae 5<|ah<|f7 hu<|ae 1<|ae 5 ⟨dm,.str<|aF n b.1,rfl,by rw [<- vm];exact aV.k (k:=Sum.inr z) ed,ah<|ae 3<|ay ⟨(by show 3<=sizeLine;decide),λt ht=>?_⟩⟩⟩);have sT:=aS ht<|.tup [.str z,.str<|aF n b.1,.str n[r].1];have ntM:t≠M:=λe=>by rw [e,eM] at ht;cases ht
    have kU:(upd b8 t<|.tup [.str z,.str<|aF n b.1,.str n[r].1]) t=some (T3 (z,aF n b.1,aF n (r,p).1)):=by
     rw [aw];show _=some (HO.tup [.str z,.str<|aF n b.1,.str<|aF n r]);rw [Qi]
    have kT:∀ c xs,(upd b8 t<|.tup [.str z,.str<|aF n b.1,.str n[r].1]) c=some (.tup xs)->(upd (upd b8 t<|.tup [.str z,.str<|aF n b.1,.str n[r].1]) M<|.lst<|us.map V.ref++[.ref t]) c=some (.tup xs):=λc xs h=>by
     rw [av<|ce h (sT _ _ eM) λz=>nomatch z];exact h
    refine⟨_,sT _ _ eM,by rw [Aa];exact bS (by omega),aY<|aY ⟨kM,us++[t],ls++[(z,aF n b.1,aF n (r,p).1)],_,dN (sm.trans sT) Qg,?_,?_,?_,?_,?_,rfl⟩⟩
    ·rw [av naM];exact sT _ _ el
    ·rw [av<|CG kW];exact sT _ _ ed
    ·rw [aw,Aj];rfl
    ·exact((gW.keep λc xs h=>sT _ _ h).snoc kU).keep kT
    ·rw [jq,<- Ar];exact I.old (e:=(r,p)) jx
  ·rintro σ b8 ⟨kM,us,ls,u3,sm,_,ed,eM,gW,I,rfl⟩;rw [Aa,Bu] at I;refine aY ⟨kM,us,ls,_,_,_,sm,ed,eM,gW,?_,rfl⟩;rw [rh hi];exact I
 ·rintro σ H' ⟨kM,us,ls,u1,u2,u3,sm,ed,eM,gW,I,rfl⟩;rw [Aa,bY,Bu] at I;have lL:=I.me;have lA:=gW.1;have a7:us.length < 64:=by omega
  refine bO (bW k0l T.sorted DR (ah (ae 2 (ay ⟨M,us,ls.map (·.1),rfl,aq.of eM,by rw [Aa];exact lA,I.gI,a7,λi t z h1 h2=>?_,λL ps hL hp hs=>?_⟩))))
  ·rw [Ah,Aw] at h2;obtain⟨x,hx,rfl⟩:=h2;exact⟨_,gW.2 i t x h1 hx⟩
  have pick:∀ p∈ps,∃ x,x∈ls/\x.1=p.2/\H' p.1=some (T3 x):=λp iY=>by
   have hz:=hp.mem_iff.mp iY;obtain⟨i,hi⟩:=Bp hz;rw [List.getElem?_zip_eq_some] at hi;obtain⟨h1,h2⟩:=hi;rw [Ah,Aw] at h2;obtain⟨x,hx,e⟩:=h2;exact⟨x,Ap hx,e,gW.2 i _ x h1 hx⟩
  obtain⟨xs,gG⟩:∃ xs:List Lk,xs.length=ps.length/\∀(j:Nat) p x,ps[j]?=some p->xs[j]?=some x->x∈ls/\x.1=p.2/\H' p.1=some (T3 x):=by
   clear hs hp
   induction ps with
   | nil=>exact⟨[],rfl,λj p x h=>by simp at h⟩
   | cons p r ih=>
    obtain⟨x,q1,q2,q3⟩:=pick p<|Ae ..;obtain⟨xs,l1,l2⟩:=ih λc hc=>pick c<|Ai _ hc;refine⟨x :: xs,by rw [Aq,Aq,l1],λj c y h1 h2=>?_⟩;cases j with
    | zero=>
     cases h1;cases h2;exact⟨q1,q2,q3⟩
    | succ j=>exact l2 j c y (by simpa using h1)<|by simpa using h2
  obtain⟨lx,gG⟩:=gG;have lp:ps.length=ls.length:=by rw [hp.length_eq,List.length_zip,Aa];omega
  have sL:=aS hL<|.lst<|ps.map λp=> .ref p.1;have Qj:yw xs:=by
   unfold yw;rw [Bn];intro i j hi hj d3;have a1:=(gG i ps[i] xs[i] (Ab<|by omega)<|Ab hi).2.1;have a2:=(gG j ps[j] xs[j] (Ab<|by omega)<|Ab hj).2.1;rw [a1,a2];exact Bn.mp hs i j (by omega) (by omega) d3
  have qi:(xs.map (·.1)).Nodup:=by
   rw [Ce,Dx];exact Qj.imp λh e=>by rw [e] at h;exact Ga _ h
  have qj:∀ x,x∈xs↔x∈ls:=λx=>by
   constructor
   ·intro h;obtain⟨j,hj⟩:=Bp h;have nr:=(Ac.mp hj).1;exact(gG j ps[j] x (Ab<|by omega) hj).1
   ·intro h;refine DQ λhn=>?_;have HP:xs.Nodup:=by
     rw [Ce] at qi ⊢;rw [Dx] at qi;exact qi.imp λh e=>h<|by rw [e]
    have:=aX HP (b:=ls.erase x) λz hz=>by
     have hzl:z∈ls:=by
      obtain⟨j,hj⟩:=Bp hz;have nr:=(Ac.mp hj).1;exact(gG j ps[j] z (Ab<|by omega) hj).1
     exact(Ff λe:z=x=>hn<|e ▸ hz).mpr hzl
    rw [Fr h] at this;have:0 < ls.length:=SX h;omega
  refine q L (ps.map (·.1)) xs _ (sm.trans sL) (g6 sm hL) (by rw [aw,Ca];rfl) ⟨by rw [Aa];omega,λj u x h1 h2=>?_⟩ Qj (λx=>by rw [qj x];exact I.whole hT x) (by omega);rw [Ah,Aw] at h1;obtain⟨p,j8,rfl⟩:=h1;exact sL _ _ (gG j p x j8 h2).2.2
end
end E5
namespace L2
open PySem PySem.Spec PyProof.Rows
section
variable{X:Cx}{σ:St}{H:Hp}{Q:VK}
theorem q0v{k v:Expr}{pos:Pos}(hu:X.A.units+1 < cLine)(h:∀ d,H d=none->Ev X k σ (upd H d<|.dK []) λy H1=>Ev X v σ H1 λx H2=>∃ H3,bU H2 d y x H3/\Q (.ref d) H3):Ev X (.Dict [some k] [v] pos) σ H Q:=by
 refine⟨λpins s I=>wpAny_Dict_any rfl rfl (by simp) (by show 1<=15;decide) ?_⟩;have I0:Inv X pins σ (upd H s.heap.objs.size<|.dK []) {s with heap:=s.heap.push {cls:= .type "dict",data:= .dict #[]}}:=I.laid (a:=s.heap.objs.size) (o:= .dK []) (t':=s.toks) (λ_ _ q=>Ag _ q) (Al _)<|Lx s.heap I.big;show wpAny _ _ (evalPairs [(eval k X.env,do let x <- eval v X.env;standAt pos;pure x)]) _ _ _;unfold evalPairs;refine BJ<|aQ ((h _ I.fresh).run pins _ I0) λkv s1 ⟨y,H1,I1,r1,h1⟩=>?_;refine BJ<|CJ<|BJ<|aQ (h1.run pins s1 I1) λvv s2 ⟨x,H2,I2,r2,H3,dp,q⟩=>?_;refine BJ<|IK<|BK ?_;unfold evalPairs;refine BJ<|CJ<|BK<|BK ?_;unfold storeAll;rw [Gm];refine BJ<|BJ<|NU hu I2 dp r1 r2 λs' I'=>BK ?_;exact BK ⟨.ref _,H3,I',rfl,q⟩
end
open bM
section
variable{prog:Program}{w:World}{A:Around}{E:Value->Shared->Prop}{s:Shared}{T:String}{r d:Addr}{n:Nat}{P:Nat->Value->Prop}{OK:Heap->Prop}
end
section
variable{X:Cx}
end
end L2
namespace L2
open PySem PySem.Spec PyProof.Rows
section
end
section
variable{X:Cx}
theorem Qk(z:Str):∀ zs:List Str,countIn (.str z) (zs.map PyData.str)=(zs.count z:Int)
 | []=>rfl
 | y :: r=>by
  rw [Bj,countIn,Qk z r,Da];simp only [same]
  rcases Bool.eq_false_or_eq_true (y == z) with hb | hb <;> simp only [hb,Bb,DP,CV] <;> push_cast <;> omega
def q6o(K:PySem.W.Frag):V->List V->Hp->VK->Prop:=λx vs H Q=>∃(l:Addr) (zs:List Str) (z:Str),x = .ref l/\vs=[.str z]/\aq K H l (zs.map V.str)/\Q (.int (zs.count z:Int)) H
theorem q0w:oF X "list.count" (q6o X.K):=by
 intro pins s σ H x vs v us Q I rx rv h;obtain⟨l,zs,z,rfl,rfl,hH,q⟩:=h;cases rx;obtain⟨u,rfl,ru⟩:=rv.one;obtain⟨tk,rfl⟩:=ru;obtain⟨its,r,pl,hz⟩:=I.list hH;refine count_list_strs pl.isList (B6 r) ?_;rw [Qk];exact⟨.int (zs.count z:Int),H,I.tok _,⟨_,rfl⟩,q⟩
end
section
variable{X:Cx}{σ:St}{H:Hp}{D:Ends}{body:List Stmt}
end
end L2
namespace Nt
open PySem L2
theorem Ql(x:Str):∀{sd:List Str},cj sd->∃ g5,cj g5/\∀ y,y∈g5↔y=x\/y∈sd
 | [],_=>⟨[x],Eu _ _,λy=>by simp⟩
 | a :: r,h=>by
  have h':=Cr.mp h
  by_cases q:x.cps.toList < a.cps.toList
  ·refine⟨x :: a :: r,Cr.mpr ⟨λy hy=>?_,h⟩,λy=>by simp⟩
   rcases Ak.mp hy with e | e
   ·rw [e];exact q
   ·exact Gh q<|h'.1 y e
  ·rcases Gj.mp (List.not_lt.mp q) with q2 | q2
   ·obtain⟨g5,s1,s2⟩:=Ql x h'.2;refine⟨a :: g5,Cr.mpr ⟨λy hy=>?_,s1⟩,λy=>?_⟩
    ·rcases (s2 y).mp hy with e | e
     ·rw [e];exact q2
     ·exact h'.1 y e
    ·rw [Ak,s2,Ak]
     constructor
     ·rintro (e | e | e)
      ·exact .inr<|.inl e
      ·exact .inl e
      ·exact .inr<|.inr e
     ·rintro (e | e | e)
      ·exact .inr<|.inl e
      ·exact .inl e
      ·exact .inr<|.inr e
   ·refine⟨a :: r,h,λy=>?_⟩;have:a=x:=bM.fb q2;subst this;simp
theorem Qm:∀ L:List Str,∃ sd,cj sd/\∀ y,y∈sd↔y∈L
 | []=>⟨[],List.Pairwise.nil,λ_=>Iff.rfl⟩
 | x :: L=>by
  obtain⟨sd,h1,h2⟩:=Qm L;obtain⟨g5,h3,h4⟩:=Ql x h1;exact⟨g5,h3,λy=>by rw [h4,h2,Ak]⟩
theorem vj(z:Str):∀ L:List Str,decide (L.count z % 2=1)=ao (L.map λy=>decide (z=y))
 | []=>rfl
 | y :: L=>by
  show _=(decide (z=y) ^^ ao (L.map λy=>decide (z=y)));rw [<- vj z L,Da]
  by_cases h:z=y
  ·subst h;rw [BW rfl,LK,BP rfl,Bool.true_xor,<- decide_not];exact decide_eq_decide.mpr<|by omega
  ·rw [BR h,BL λq=>h (eq_of_beq q).symm,Fi];rfl
theorem vk{α β:Type}(f:α->β->Bool)(M:List β):∀ L:List α,ao (L.map λa=>ao<|M.map λb=>f a b)=ao (M.map λb=>ao<|L.map λa=>f a b)
 | []=>(iE M).symm
 | a :: L=>by
  show(ao (M.map λb=>f a b) ^^ ao (L.map λa=>ao<|M.map λb=>f a b))=ao (M.map λb=>f a b ^^ ao (L.map λa=>f a b));rw [vk f M L,gY (λb=>f a b) λb=>ao<|L.map λa=>f a b]
theorem map_range{α β:Type}(l:List α)(f:α->β)(g:Nat->β)(h:∀ k x,l[k]?=some x->g k=f x):l.map f=(List.range l.length).map g:=by
 apply Du;intro k;rw [Ah,Ah]
 by_cases hk:k < l.length
 ·rw [Ab hk,Eb hk];exact BZ some (h k _<|Ab hk).symm
 ·rw [Bd (by omega),Bd<|by simp;omega];rfl
theorem k6p{α:Type}(l:List α)(f g:α->Bool)(h:∀ k,k < l.length->∃ x y,l[k]?=some x/\l[(k+1) % l.length]?=some y/\g x=f y):ao (l.map g)=ao (l.map f):=by
 let F:Nat->Bool:=λk=>match l[k]? with | some x=>f x | none=>false
 have hf:l.map f=(List.range l.length).map F:=map_range l f F λk x hk=>by show(match l[k]? with | some x=>f x | none=>false)=_;rw [hk]
 have hg:l.map g=(List.range l.length).map λk=>F ((k+1) % l.length):=map_range l g _ λk x hk=>by
  obtain⟨x',y,h1,h2,h3⟩:=h k (Ac.mp hk).1;rw [hk] at h1;cases h1;show(match l[(k+1) % l.length]? with | some x=>f x | none=>false)=_;rw [h2];exact h3.symm
 rw [hf,hg,EJ]
theorem HQ(F:Nat->Bool):∀ m,(∀ i,i < m->F (2 * i+1)=F (2 * i))->ao ((List.range<|2 * m).map F)=false
 | 0,_=>rfl
 | m+1,h=>by
  rw [show 2 * (m+1)=2 * m+1+1 by omega,Do,Do,Aj,Aj,l9,l9,HQ F m λi hi=>h i<|by omega];show((false ^^ (F (2 * m) ^^ false)) ^^ (F (2 * m+1) ^^ false))=false;rw [h m<|by omega];cases F (2 * m) <;> rfl
theorem Qn{n:Net}(T:ax n){e:End}(h:e∈ends n):step n (other n<|go (-1) n e)=other n e:=by
 have h1:=gk (c:=-1) T h;obtain⟨z,hz⟩:=af.mp h1;show left n (other n<|other n<|go (-1) n e)=_;rw [(dG T hz).2.1,Oa h1];show dH 1 n (dH (-1) n<|other n e)=_;have:=pF (c:=-1)<|cZ T h;rw [Int.neg_neg] at this;exact this
def cw(n:Net)(w:List End)(z:Str):Bool:=decide ((w.map<|aE n).count z % 2=1)
theorem k78{n:Net}(T:ax n){w:List End}(W:jX n w):dQ n (cw n w):=λr=>by
 have e1:(row n r).map (cw n w)=(row n r).map λz=>ao (w.map λe=>decide (z=aE n e)):=Ao λz _=>by
  unfold cw;rw [vj,Ca];rfl
 rw [e1,vk λz e=>decide (z=aE n e)];have e2:(w.map λe=>ao<|(row n r).map λz=>decide (z=aE n e))=w.map λe=>(decide (r=e.1) ^^ decide (r=(other n e).1)):=Ao λe he=>by
  obtain⟨z,hz⟩:=af.mp<|W.ends e he;rw [fk hz];exact OS T hz r
 rw [e2,gY (λe=>decide (r=e.1)) λe=>decide (r=(other n e).1)];rw [k6p w (λe=>decide (r=e.1)) (λe=>decide (r=(other n e).1)) λk hk=>by
  obtain⟨c,h1,h2⟩:=W.at' k hk;exact⟨c,_,h1,h2,rfl⟩]
 cases ao (w.map λe=>decide (r=e.1)) <;> rfl
theorem k58{n:Net}(T:ax n){w:List End}(W:jX n w){t:Str->Bool}{χ:End->Bool}(h:a9 n t χ):ao (w.map λe=>t<|aE n e)=false:=by
 have e1:(w.map λe=>t<|aE n e)=w.map λe=>(χ e ^^ χ (other n e)):=Ao λe he=>by
  obtain⟨z,hz⟩:=af.mp<|W.ends e he;rw [fk hz];exact h.c6 e z hz
 rw [e1,gY χ λe=>χ<|other n e];obtain⟨m,hm⟩:∃ m,w.length=2 * m:=⟨w.length / 2,by have:=W.even;omega⟩;have a1:ao (w.map χ)=false:=by
  let F:Nat->Bool:=λk=>match w[k]? with | some x=>χ x | none=>false
  rw [map_range w χ F λk x hk=>by show(match w[k]? with | some x=>χ x | none=>false)=_;rw [hk],hm];refine HQ F m λi hi=>?_;obtain⟨c,h1,h2⟩:=W.at' (2 * i) (by omega);rw [Cb (by omega),show(1:Int) - 2 * (((2 * i:Nat):Int) % 2)=1 by omega] at h2;show(match w[2 * i+1]? with | some x=>χ x | none=>false)=(match w[2 * i]? with | some x=>χ x | none=>false);rw [h1,h2];have hc:=W.ends c<|Ap h1;show χ (go 1 n c)=χ c;rw [<- Ob T hc];exact h.go c hc
 have a2:ao (w.map λe=>χ<|other n e)=false:=by
  let F:Nat->Bool:=λk=>match w[k]? with | some x=>χ (other n x) | none=>false
  rw [map_range w (λe=>χ<|other n e) F λk x hk=>by show(match w[k]? with | some x=>χ (other n x) | none=>false)=_;rw [hk],<- EJ F,hm];refine HQ (λp=>F<|(p+1) % (2 * m)) m λi hi=>?_;obtain⟨c,h1,h2⟩:=W.at' (2 * i+1) (by omega);rw [hm,show(1:Int) - 2 * (((2 * i+1:Nat):Int) % 2)=-1 by omega] at h2;show(match w[(2 * i+1+1) % (2 * m)]? with | some x=>χ (other n x) | none=>false)=(match w[(2 * i+1) % (2 * m)]? with | some x=>χ (other n x) | none=>false);rw [h2,Cb (show 2 * i+1 < 2 * m by omega),h1];have hc:=W.ends c<|Ap h1;show χ (other n<|go (-1) n c)=χ (other n c);rw [<- Qn T hc];exact(h.go _<|cZ T<|gk T hc).symm
 rw [a1,a2];rfl
def bm(zs:List Str)(t s:Str->Bool):Bool:=ao<|zs.map λz=>t z && s z
theorem HR(zs:List Str)(t u s:Str->Bool):bm zs (λz=>t z ^^ u z) s=(bm zs t s ^^ bm zs u s):=by
 unfold bm;rw [<- gY (λz=>t z && s z) λz=>u z && s z]
 congr 1
 refine Ao λz _=>?_;show((t z ^^ u z) && s z)=_;cases t z <;> cases u z <;> cases s z <;> rfl
theorem yx{s:Str->Bool}{y:Str}:∀{zs:List Str},zs.Nodup->y∈zs->bm zs (λz=>decide (z=y)) s=s y
 | z :: zs,hn,hy=>by
  have hn:=Be.mp hn;show((decide (z=y) && s z) ^^ bm zs (λz=>decide (z=y)) s)=s y
  by_cases h:z=y
  ·subst h;have:bm zs (λx=>decide (x=z)) s=false:=by
    unfold bm;have e:(zs.map λx=>decide (x=z) && s x)=zs.map λ_=>false:=Ao λx hx=>by
     have ne:¬ x=z:=λq=>hn.1<|q ▸ hx;rw [BR ne];rfl
    rw [e,iE]
   rw [this,BW rfl];cases s z <;> rfl
  ·rw [BR h,yx hn.2<|(Ak.mp hy).resolve_left<|CG h];cases s y <;> rfl
theorem HU{n:Net}{zs:List Str}(hz:zs.Nodup){t:Str->Bool}:∀{L:List Str},(∀ y∈L,y∈zs)->bm zs t (λz=>decide (L.count z % 2=1))=ao (L.map t)
 | L,hL=>by
  unfold bm;have e:(zs.map λz=>t z && decide (L.count z % 2=1))=zs.map λz=>ao (L.map λy=>t z && decide (z=y)):=Ao λz _=>by
   rw [vj];cases t z
   ·show false=ao (L.map λ_=>false);rw [iE]
   ·rfl
  rw [e,vk λz y=>t z && decide (z=y)]
  congr 1
  refine Ao λy hy=>?_;have:=yx (s:=t) hz<|hL y hy;rw [<- this];unfold bm
  congr 1
  refine Ao λz _=>?_;rw [Fs]
theorem Qo{n:Net}(T:ax n)(hN:(n.map (·.1)).Nodup){ss zs:List Str}(hz:zs.Nodup)(hm:∀ z,z∈zs↔z∈ag n){x:Str}{b:Bool}(h:Way (c7 n ss) (bI n) x b) :
  ∃ t:Str->Bool,(∀ r,r < n.length->ao ((row n r).map t)=(decide (aF n r=bI n) ^^ decide (aF n r=x)))/\bm zs t (λz=>decide (z∈ss))=b:=by
 have add:∀{x y:Str} {o b:Bool},(∃ e z,aK n e=some z/\((x=aF n e.1/\y=aF n (other n e).1)\/(y=aF n e.1/\x=aF n (other n e).1))/\o=decide (z∈ss))->(∃ t:Str->Bool,(∀ r,r < n.length->ao ((row n r).map t)=(decide (aF n r=bI n) ^^ decide (aF n r=x)))/\bm zs t (λz=>decide (z∈ss))=b) ->
   ∃ t:Str->Bool,(∀ r,r < n.length->ao ((row n r).map t)=(decide (aF n r=bI n) ^^ decide (aF n r=y)))/\bm zs t (λz=>decide (z∈ss))=(b != o):=by
  rintro x y o b ⟨e,z,g8,DL,rfl⟩ ⟨t,h1,h2⟩;refine⟨λu=>t u ^^ decide (u=z),λr hr=>?_,?_⟩
  ·rw [gY t λu=>decide (u=z),h1 r hr,OS T g8 r];have e1:∀ i,i < n.length->decide (r=i)=decide (aF n r=aF n i):=λi hi=>decide_eq_decide.mpr ⟨λq=>by rw [q],λq=>rH hN hr hi q⟩;rw [e1 _<|cN g8,e1 _<|pK T g8]
   rcases DL with ⟨a1,a2⟩ | ⟨a1,a2⟩
   ·rw [<- a1,<- a2];cases decide (aF n r=bI n) <;> cases decide (aF n r=x) <;> cases decide (aF n r=y) <;> rfl
   ·rw [<- a1,<- a2];cases decide (aF n r=bI n) <;> cases decide (aF n r=x) <;> cases decide (aF n r=y) <;> rfl
  ·rw [HR,h2,yx hz<|(hm z).mpr<|dZ g8]
 have lk:∀{x y:Str} {o:Bool},(x,y,o)∈c7 n ss->∃ e z,aK n e=some z/\((x=aF n e.1/\y=aF n (other n e).1))/\o=decide (z∈ss):=λ{x y o} hm=>by
  obtain⟨e,z,h1,h2⟩:=(rG (n:=n) (ss:=ss)).Oz _ hm;exact⟨e,z,h1,⟨BZ (·.1) h2,BZ (·.2.1) h2⟩,BZ (·.2.2) h2⟩
 induction h with
 | here=>exact⟨λ_=>false,λr _=>by rw [iE];cases decide (aF n r=bI n) <;> rfl,by unfold bm;exact iE zs⟩
 | there _ ht ih=>
  obtain⟨e,z,h1,h2,h3⟩:=lk ht;exact add ⟨e,z,h1,.inl h2,h3⟩ ih
 | back _ ht ih=>
  obtain⟨e,z,h1,h2,h3⟩:=lk ht;exact add ⟨e,z,h1,.inr ⟨h2.1,h2.2⟩,h3⟩ ih
theorem k2h{n:Net}(T:ax n)(hg:dk n)(hN:(n.map (·.1)).Nodup)(h0:0 < n.length){ss zs:List Str}(hz:zs.Nodup)(hm:∀ z,z∈zs↔z∈ag n)(hs:∀ z∈ss,z∈ag n)(HV:∀ t,dQ n t->bm zs t (λz=>decide (z∈ss))=false):∃ sd,bC n ss sd:=by
 classical
 have uniq:∀{x b c},Way (c7 n ss) (bI n) x b->Way (c7 n ss) (bI n) x c->b=c:=λ{x b c} h1 h2=>by
  obtain⟨t,t1,t2⟩:=Qo T hN hz hm h1;obtain⟨u,u1,u2⟩:=Qo T hN hz hm h2;have:=HV (λz=>t z ^^ u z) λr=>by
   by_cases hr:r < n.length
   ·rw [gY t u,t1 r hr,u1 r hr];cases decide (aF n r=bI n) <;> cases decide (aF n r=x) <;> rfl
   ·have:row n r=[]:=by
     unfold row;rw [Bd<|by omega];rfl
    rw [this];rfl
  rw [HR,t2,u2] at this;cases b <;> cases c <;> first | rfl | cases this
 have next:∀{e:End} {z:Str} {b:Bool},aK n e=some z->Way (c7 n ss) (bI n) (aF n e.1) b->Way (c7 n ss) (bI n) (aF n (other n e).1) (b != decide (z∈ss)):=λ{e z b} he h=>by
  rcases (rG (n:=n) (ss:=ss)).to e z he with t | t
  ·exact .there h t
  ·exact .back h t
 have all:∀ r,r < n.length->∃ b,Way (c7 n ss) (bI n) (aF n r) b:=λr hr=>by
  have:=hg (λx=>∃ b,Way (c7 n ss) (bI n) x b) ⟨n[0],Bt h0,false,by rw [<- i4 h0];exact .here⟩ (λr hr s iW t tr ts ⟨b,hb⟩=>?_) n[r]<|Bt hr
  ·rw [<- i4 hr] at this;exact this
  ·obtain⟨i,hi,rfl⟩:=Cv.mp hr;obtain⟨j,hj,rfl⟩:=Cv.mp iW;obtain⟨p,hp⟩:=Bp tr;obtain⟨q,hq⟩:=Bp ts;have h1:aK n (i,p)=some t:=by show(row n i)[p]?=_;rw [iZ hi];exact hp
   have h2:aK n (j,q)=some t:=by show(row n j)[q]?=_;rw [iZ hj];exact hq
   rcases (kP T h1).mp h2 with e | e
   ·have:j=i:=BZ (·.1) e;subst this;exact⟨b,hb⟩
   ·rw [<- i4 hi] at hb;have:=next h1 hb;rw [<- e] at this;exact⟨_,by rw [<- i4 hj];exact this⟩
 obtain⟨sd,h1,h2⟩:=Qm<|((List.range n.length).filter λ(r:Nat)=>decide (Way (c7 n ss) (bI n) (aF n r) true)).map<|aF n;have mem:∀ r,r < n.length->∀ b,Way (c7 n ss) (bI n) (aF n r) b->decide (aF n r∈sd)=b:=λr hr b hb=>by
  have:aF n r∈sd↔b=true:=by
   rw [h2,An]
   constructor
   ·rintro ⟨i,hi,e⟩;rw [Bh,Br] at hi;have:=rH hN hi.1 hr e;subst this;exact uniq hb<|BX hi.2
   ·intro e;subst e;exact⟨r,Bh.mpr ⟨Br.mpr hr,BW hb⟩,rfl⟩
  by_cases q:b=true
  ·rw [q];exact BW<|this.mpr q
  ·rw [Bool.not_eq_true] at q;rw [q];exact BR λk=>by rw [this.mp k] at q;cases q
 refine⟨sd,h1,λx hx=>?_,λhx=>?_,λz=>?_⟩
 ·obtain⟨i,hi,rfl⟩:=An.mp<|(h2 x).mp hx;exact ju<|Br.mp (Bh.mp hi).1
 ·have:=mem 0 h0 false .here;exact absurd hx<|HX this
 ·by_cases g8:z∈ag n
  ·obtain⟨p,hp⟩:∃ p,p∈pos n z:=by
    have:pos n z≠[]:=λq=>by have:=o9 n z;rw [q,T z g8] at this;cases this
    exact Fo _ this
   have he:=aM.mp hp;obtain⟨b,hb⟩:=all p.1<|cN he;have hc:=next he hb;rw [mh T he,mem _ (cN he) b hb,mem _ (pK T he) _ hc]
   constructor
   ·intro h;rw [BW h];cases b <;> rfl
   ·intro h;refine DQ λk=>?_;rw [BR k] at h;cases b <;> cases h
  ·exact⟨λh=>absurd (hs z h) g8,λh=>absurd (xY h) g8⟩
theorem HZ{n:Net}(T:ax n){e:End}(h:e∈ends n):two n (other n<|two n e)=other n e:=by
 have g1:=gk (c:=1) T h;have h2:=lZ T h;obtain⟨z,hz⟩:=af.mp h2;obtain⟨y,hy⟩:=af.mp g1;have e1:go 1 n (other n<|two n e)=other n (go 1 n e):=by
  show dH 1 n (other n<|other n<|two n e)=_;rw [(dG T hz).2.1];show dH 1 n (dH (-1) n<|other n<|go 1 n e)=_;have:=pF (c:=-1)<|cZ T g1;rw [Int.neg_neg] at this;exact this
 show go (-1) n (go 1 n<|other n<|two n e)=_;rw [e1];show dH (-1) n (other n<|other n<|go 1 n e)=_;rw [(dG T hy).2.1];exact pF<|cZ T h
theorem jB{n:Net}(T:ax n){e:End}(h:e∈ends n)(k:Nat):it (two n) k e∈ends n:=jT (λa ha=>lZ T ha) h k
theorem Qp{α:Type}(f:α->α)(a:α):∀ k,it f k (f a)=it f (k+1) a
 | 0=>rfl
 | k+1=>by show f (it f k<|f a)=f (it f (k+1) a);rw [Qp f a k]
theorem rT{α:Type}(f:α->α)(a:α)(i:Nat):∀ j,it f (i+j) a=it f j (it f i a)
 | 0=>rfl
 | j+1=>by show f (it f (i+j) a)=f (it f j<|it f i a);rw [rT f a i j]
theorem q7s{n:Net}(T:ax n){e:End}(h:e∈ends n):two n e≠other n e:=λq=>by
 have g1:=gk (c:=1) T h;obtain⟨y,hy⟩:=af.mp g1;have h1:dH (-1) n (go 1 n e)=other n e:=pF<|cZ T h;have h2:dH (-1) n (other n<|go 1 n e)=other n e:=q;exact(dG T hy).2.2<|N9 (c:=-1) (cZ T g1) g1<|h2.trans h1.symm
theorem Qq{n:Net}(T:ax n):∀(k:Nat) {e:End},e∈ends n->it (two n) k e≠other n e
 | 0,e,h=>λq=>by
  obtain⟨z,hz⟩:=af.mp h;exact(dG T hz).2.2 q.symm
 | 1,e,h=>q7s T h
 | k+2,e,h=>λq=>by
  have e1:two n (it (two n) (k+1) e)=two n (other n<|two n e):=by rw [HZ T h];exact q
  have e2:=t6 T (jB T h<|k+1) (cZ T<|lZ T h) e1;rw [<- Qp] at e2;exact Qq T k (lZ T h) e2
theorem yy{n:Net}(T:ax n){a b:End}(ha:a∈ends n)(hb:b∈ends n)(h:aE n a=aE n b):b=a\/b=other n a:=by
 obtain⟨z,hz⟩:=af.mp ha;obtain⟨y,hy⟩:=af.mp hb;rw [fk hz,fk hy] at h;subst h;exact(kP T hz).mp hy
theorem q9q{n:Net}(T:ax n){e:End}(h:e∈ends n){k:Nat}(p:i0 n e k){i j:Nat}(d3:i < j)(hj:j < k):it (two n) i e≠it (two n) j e:=λq=>by
 have inj:∀(m:Nat) {a b:End},a∈ends n->b∈ends n->it (two n) m a=it (two n) m b->a=b:=λm=>by
  induction m with
  | zero=>intro a b _ _ q;exact q
  | succ m ih=>intro a b ha hb q;exact ih ha hb<|t6 T (jB T ha m) (jB T hb m) q
 have e1:it (two n) j e=it (two n) i (it (two n) (j - i) e):=by rw [<- rT,show j - i+i=j by omega]
 rw [e1] at q;have:=inj i h (jB T h _) q;exact p.first (j - i) (by omega) (by omega) this.symm
theorem k8l{n:Net}(T:ax n){e:End}(h:e∈ends n){k:Nat}(p:i0 n e k){i j:Nat}(d3:i < j)(hj:j < k):aE n (it (two n) i e)≠aE n (it (two n) j e):=λq=>by
 rcases yy T (jB T h i) (jB T h j) q with c | c
 ·exact q9q T h p d3 hj c.symm
 ·rw [show j=i+(j - i) by omega,rT] at c;exact Qq T (j - i) (jB T h i) c
theorem q5q{n:Net}(T:ax n){x y:End}(hx:x∈ends n)(hy:y∈ends n)(q:aE n (go 1 n x)=aE n (go 1 n y)):x=y\/two n y=other n x:=by
 have g1:=gk (c:=1) T hx
 rcases yy T g1 (gk (c:=1) T hy) q with c | c
 ·exact .inl (go_inj T hy hx c).symm
 ·refine .inr ?_;obtain⟨z,hz⟩:=af.mp g1;show go (-1) n (go 1 n y)=_;rw [c];show dH (-1) n (other n<|other n<|go 1 n x)=_;rw [(dG T hz).2.1];exact pF<|cZ T hx
theorem Qr(n:Net)(e:End):∀ k,((wk n e k).map<|aE n).Perm<|((List.range k).map λi=>aE n<|it (two n) i e)++(List.range k).map λi=>aE n<|go 1 n<|it (two n) i e
 | 0=>List.Perm.refl _
 | k+1=>by
  rw [Do,Aj,Aj];show((wk n e k++[it (two n) k e,go 1 n<|it (two n) k e]).map<|aE n).Perm _;rw [Aj];refine((Qr n e k).append_right _).trans ?_;generalize ((List.range k).map λi=>aE n<|it (two n) i e)=A;generalize ((List.range k).map λi=>aE n<|go 1 n<|it (two n) i e)=B;show(A++B++[aE n<|it (two n) k e,aE n<|go 1 n<|it (two n) k e]).Perm ((A++[aE n<|it (two n) k e])++(B++[aE n<|go 1 n<|it (two n) k e]));rw [Ar,Ar];refine LR A ?_;show(B++([aE n<|it (two n) k e]++[aE n<|go 1 n<|it (two n) k e])).Perm ([aE n<|it (two n) k e]++(B++[aE n<|go 1 n<|it (two n) k e]));rw [<- Ar,<- Ar];exact TQ _ Cf
noncomputable def dh(n:Net)(e:End):List End:=au<|walker n e
theorem Ia{n:Net}{e:End}{k:Nat}(p:i0 n e k):dh n e=(List.range k).map λi=>it (two n) i e:=by
 unfold dh walker;rw [t8 p,Zq]
theorem Qs{n:Net}{e:End}{k:Nat}(h:it (two n) k e=e):∀ m,it (two n) (k * m) e=e
 | 0=>rfl
 | m+1=>by rw [Nat.mul_succ,Nat.add_comm,rT,h,Qs h m]
theorem kX{n:Net}(T:ax n){e:End}(h:e∈ends n){x:End}:x∈dh n e↔∃ i,it (two n) i e=x:=by
 obtain⟨k,p,_⟩:=rA T h;rw [Ia p,An]
 constructor
 ·rintro ⟨i,_,q⟩;exact⟨i,q⟩
 ·rintro ⟨i,q⟩;have p0:=p.pos;refine⟨i % k,Br.mpr<|Gp _ p0,?_⟩;rw [<- q];have:=Nat.div_add_mod i k
  conv=>rhs;rw [<- this]
  rw [rT,Qs p.back]
theorem yz{n:Net}(T:ax n){e:End}(h:e∈ends n):∀ x∈dh n e,x∈ends n:=λx hx=>by
 obtain⟨i,q⟩:=(kX T h).mp hx;rw [<- q];exact jB T h i
theorem Qt{n:Net}(T:ax n){e:End}(h:e∈ends n){x:End}(hx:x∈dh n e):∃ y∈dh n e,two n y=x:=by
 obtain⟨i,q⟩:=(kX T h).mp hx;obtain⟨k,p,_⟩:=rA T h;have p0:=p.pos;refine⟨it (two n) (i+k - 1) e,(kX T h).mpr ⟨_,rfl⟩,?_⟩;show it (two n) (i+k - 1+1) e=x;rw [show i+k - 1+1=k+i by omega,rT,p.back,q]
theorem Ib{n:Net}(T:ax n){e:End}(h:e∈ends n){x:End}(hx:x∈dh n e):two n x∈dh n e:=by
 obtain⟨i,q⟩:=(kX T h).mp hx;exact(kX T h).mpr ⟨i+1,by rw [<- q];rfl⟩
theorem Qu{n:Net}(T:ax n){e:End}(h:e∈ends n){x:End}(hx:x∈ends n):aE n x∈(dh n e).map (aE n)↔x∈dh n e\/other n x∈dh n e:=by
 rw [An]
 constructor
 ·rintro ⟨y,hy,q⟩
  rcases yy T hx (yz T h y hy) q.symm with c | c
  ·exact .inl<|c ▸ hy
  ·exact .inr<|c ▸ hy
 ·rintro (c | c)
  ·exact⟨x,c,rfl⟩
  ·refine⟨_,c,?_⟩;obtain⟨z,hz⟩:=af.mp hx;rw [fk hz,fk (dG T hz).1]
theorem Qv{n:Net}(T:ax n){e:End}(h:e∈ends n):other n (other n e)=e:=by
 obtain⟨z,hz⟩:=af.mp h;exact(dG T hz).2.1
def vp(n:Net)(told:List Str):Prop:=∀ x∈ends n,(aE n (two n x)∈told↔aE n x∈told)
theorem Qw{n:Net}(T:ax n){told:List Str}(C:vp n told){e:End}(h:e∈ends n):∀ i,aE n (it (two n) i e)∈told↔aE n e∈told
 | 0=>Iff.rfl
 | i+1=>(C _<|jB T h i).trans<|Qw T C h i
theorem q79{n:Net}(T:ax n){e:End}(h:e∈ends n):vp n ((dh n e).map<|aE n):=λx hx=>by
 rw [Qu T h<|lZ T hx,Qu T h hx]
 constructor
 ·rintro (c | c)
  ·obtain⟨y,hy,q⟩:=Qt T h c;exact .inl<|t6 T (yz T h y hy) hx q ▸ hy
  ·have:=Ib T h c;rw [HZ T hx] at this;exact .inr this
 ·rintro (c | c)
  ·exact .inl<|Ib T h c
  ·obtain⟨y,hy,q⟩:=Qt T h c;have yA:=yz T h y hy;have e1:two n x=other n y:=by
    rw [<- Qv T hx,<- q,HZ T yA]
   exact .inr<|by rw [e1,Qv T yA];exact hy
structure nX(n:Net)(es:List End)(told:List Str)(ws:List<|List End):Prop where
 nd:((ws.flatMap au).map<|aE n).Nodup
 new:∀ x∈ws.flatMap au,x∈ends n/\aE n x∉told
 cov:∀ e∈es,aE n e∈told\/aE n e∈(ws.flatMap au).map (aE n)
 wk:∀ w∈ws,∃ e,e∈ends n/\w=walker n e
theorem Ic{n:Net}(T:ax n):∀(es:List End) (told:List Str),(∀ e∈es,e∈ends n)->vp n told->nX n es told (dI n es told)
 | [],told,_,_=>by
  unfold dI;exact⟨Ch,λx hx=>(nomatch hx),λe he=>(nomatch he),λw hw=>(nomatch hw)⟩
 | e :: r,told,he,C=>by
  have h:=he e<|Ae ..;unfold dI
  by_cases q:aE n e∈told
  ·rw [BP q];have I:=Ic T r told (λa ha=>he a<|Ai _ ha) C;refine⟨I.nd,I.new,λa ha=>?_,I.wk⟩
   rcases Ak.mp ha with rfl | ha
   ·exact .inl q
   ·exact I.cov a ha
  ·rw [BL q];have C':vp n (told++(au<|walker n e).map (aE n)):=λx hx=>by
    rw [Am,Am];exact or_congr (C x hx)<|q79 T h x hx
   have I:=Ic T r _ (λa ha=>he a<|Ai _ ha) C';have fresh:∀ x∈dh n e,x∈ends n/\aE n x∉told:=λx hx=>by
    obtain⟨i,k⟩:=(kX T h).mp hx;refine⟨yz T h x hx,λz=>q ?_⟩;rw [<- k] at z;exact(Qw T C h i).mp z
   refine⟨?_,λx hx=>?_,λa ha=>?_,λw hw=>?_⟩
   ·rw [Cd,Aj,Ci];refine⟨?_,I.nd,λa ha b hb k=>?_⟩
    ·obtain⟨k,p,_⟩:=rA T h;show((dh n e).map<|aE n).Nodup;rw [Ia p,Ca,Ce,Dx,Bn];intro i j hi hj d3;rw [Ey,Ey];rw [El] at hj;exact k8l T h p d3 hj
    ·subst k;obtain⟨x,hx,rfl⟩:=An.mp hb;exact(I.new x hx).2<|Ax _ ha
   ·rw [Cd] at hx
    rcases Am.mp hx with k | k
    ·exact fresh x k
    ·exact⟨(I.new x k).1,λz=>(I.new x k).2<|Ba _ z⟩
   ·rw [Cd,Aj]
    rcases Ak.mp ha with rfl | ha
    ·exact .inr<|Ba _<|An.mpr ⟨a,(kX T h).mpr ⟨0,rfl⟩,rfl⟩
    ·rcases I.cov a ha with k | k
     ·rcases Am.mp k with k | k
      ·exact .inl k
      ·exact .inr<|Ba _ k
     ·exact .inr<|Ax _ k
   ·rcases Ak.mp hw with rfl | hw
    ·exact⟨e,h,rfl⟩
    ·exact I.wk w hw
theorem Qx{n:Net}(T:ax n){e:End}(h:e∈ends n):((walker n e).map<|aE n).Perm ((dh n e).map (aE n)++(dh n e).map λx=>aE n<|go 1 n x):=by
 obtain⟨k,p,_⟩:=rA T h;rw [Ia p,Ca,Ca];unfold walker;rw [t8 p];exact Qr n e k
theorem Qy{n:Net}(T:ax n):∀{ws:List (List End)},(∀ w∈ws,∃ e,e∈ends n/\w=walker n e)->(ws.flatMap λw=>w.map<|aE n).Perm ((ws.flatMap au).map (aE n)++(ws.flatMap au).map λx=>aE n<|go 1 n x)
 | [],_=>List.Perm.refl _
 | w :: ws,h=>by
  obtain⟨e,he,rfl⟩:=h w<|Ae ..;have I:=Qy T (ws:=ws) λw hw=>h w<|Ai _ hw;rw [Cd,Cd,Aj,Aj];refine((Qx T he).append I).trans ?_;show(((dh n e).map (aE n)++(dh n e).map λx=>aE n<|go 1 n x)++_).Perm (((dh n e).map (aE n)++_)++((dh n e).map (λx=>aE n<|go 1 n x)++_));generalize (dh n e).map (aE n)=A;generalize ((dh n e).map λx=>aE n<|go 1 n x)=B;generalize (ws.flatMap au).map (aE n)=D;generalize ((ws.flatMap au).map λx=>aE n<|go 1 n x)=F;rw [Ar,Ar];refine LR A ?_;rw [<- Ar,<- Ar];exact TQ _ Cf
noncomputable abbrev bh(n:Net):List (List End):=dI n (ends n) []
theorem q44(n:Net):vp n []:=λx _=>by simp
theorem qk{n:Net}(T:ax n):nX n (ends n) [] (bh n):=Ic T (ends n) [] (λ_ h=>h)<|q44 n
theorem Ie{n:Net}(T:ax n){z:Str}(hz:z∈ag n):(((bh n).flatMap au).map<|aE n).count z=1:=by
 have I:=qk T;rw [List.Nodup.count I.nd,BP];have:pos n z≠[]:=λq=>by have:=o9 n z;rw [q,T z hz] at this;cases this
 obtain⟨p,hp⟩:=Fo _ this;have hp:=aM.mp hp;have:=I.cov p<|af.mpr ⟨z,hp⟩;rw [fk hp] at this
 rcases this with k | k
 ·cases k
 ·exact k
theorem q3l{n:Net}(T:ax n){x:End}(hx:x∈(bh n).flatMap au):two n x∈(bh n).flatMap au:=by
 obtain⟨w,hw,hx⟩:=Gg.mp hx;obtain⟨e,he,rfl⟩:=(qk T).wk w hw;exact Gg.mpr ⟨_,hw,Ib T he hx⟩
theorem Qz{α β:Type}{f:α->β}:∀{l:List α},l.Nodup->(∀ a∈l,∀ b∈l,f a=f b->a=b)->(l.map f).Nodup
 | [],_,_=>Ch
 | a :: l,h,inj=>by
  have h:=Be.mp h;refine Be.mpr ⟨λhm=>?_,Qz h.2 λx hx y hy=>inj x (Ai _ hx) y<|Ai _ hy⟩;obtain⟨b,hb,q⟩:=An.mp hm;have:=inj a (Ae ..) b (Ai _ hb) q.symm;exact h.1<|this ▸ hb
theorem Ig{α β:Type}{f:α->β}:∀{l:List α},(l.map f).Nodup->∀ a∈l,∀ b∈l,f a=f b->a=b
 | c :: l,h,a,ha,b,hb,q=>by
  rw [Bj,Be] at h
  rcases Ak.mp ha with ea | xX
  ·rcases Ak.mp hb with eb | iB
   ·rw [ea,eb]
   ·exact absurd (An.mpr ⟨b,iB,by rw [<- q,ea]⟩) h.1
  ·rcases Ak.mp hb with eb | iB
   ·exact absurd (An.mpr ⟨a,xX,by rw [q,eb]⟩) h.1
   ·exact Ig h.2 a xX b iB q
theorem Ih{α β:Type}{f:α->β}:∀{l:List α},(l.map f).Nodup->l.Nodup
 | [],_=>Ch
 | a :: l,h=>by
  rw [Bj,Be] at h;exact Be.mpr ⟨λk=>h.1<|An.mpr ⟨a,k,rfl⟩,Ih h.2⟩
theorem QA{n:Net}(T:ax n):(((bh n).flatMap au).map λx=>aE n<|go 1 n x).Perm (((bh n).flatMap au).map<|aE n):=by
 have I:=qk T;refine ua (Qz (Ih I.nd) λx hx y hy q=>?_) (λz hz=>?_)<|by rw [Aa,Aa];exact Al _
 ·have jN:=(I.new x hx).1;have yA:=(I.new y hy).1
  rcases q5q T jN yA q with c | c
  ·exact c
  ·exfalso
   have t:aE n (two n y)=aE n x:=by
    obtain⟨z,hz⟩:=af.mp jN;rw [c,fk hz,fk (dG T hz).1]
   have:=Ig I.nd _ (q3l T hy) x hx t;obtain⟨z,hz⟩:=af.mp jN;exact(dG T hz).2.2<|c.symm.trans this
 ·obtain⟨x,hx,rfl⟩:=An.mp hz;obtain⟨y,hy⟩:=af.mp<|gk (c:=1) T (I.new x hx).1;rw [fk hy];refine Cq.mp ?_;rw [Ie T<|dZ hy];exact Fg
theorem k6m{n:Net}(T:ax n){z:Str}(hz:z∈ag n):((bh n).flatMap λw=>w.map<|aE n).count z=2:=by
 rw [(Qy T (qk T).wk).count_eq,Dk,(QA T).count_eq,Ie T hz]
theorem QE(n:Net)(z:Str):∀ ws:List<|List End,(ws.flatMap λw=>w.map<|aE n).count z=(ws.map λw=>(w.map<|aE n).count z).sum
 | []=>rfl
 | w :: ws=>by rw [Cd,Dk,QE n z ws];rfl
theorem QH:∀(l:List Nat) (x:Nat),x∈l->x<=l.sum
 | y :: l,x,h=>by
  rw [Gi]
  rcases Ak.mp h with rfl | h
  ·omega
  ·have:=QH l x h;omega
theorem q1w{n:Net}(T:ax n){z:Str}(hz:z∈ag n){w:List End}(hw:w∈bh n):(w.map<|aE n).count z<=2:=by
 have h:=k6m T hz;rw [QE] at h;have:=QH ((bh n).map λw=>(w.map<|aE n).count z) _<|An.mpr ⟨w,hw,rfl⟩;omega
theorem yB{n:Net}{w:List End}{ss:List Str}(hw:∀ c∈w,c∈ends n)(h:∀ z,z∈ss↔(w.map<|aE n).count z=1):∀ z∈ss,z∈ag n:=λz hz=>by
 have:=Cq.mp (by rw [(h z).mp hz];exact Fg);obtain⟨e,he,rfl⟩:=An.mp this;obtain⟨y,hy⟩:=af.mp<|hw e he;rw [fk hy];exact dZ hy
theorem Ii{n:Net}(T:ax n){w:List End}(hw:w∈bh n){ss:List Str}(h:∀ z,z∈ss↔(w.map<|aE n).count z=1){z:Str}(hz:z∈ag n):decide (z∈ss)=cw n w z:=by
 have:=q1w T hz hw;unfold cw;refine decide_eq_decide.mpr<|(h z).trans ?_;omega
theorem k8d{n:Net}(T:ax n){w:List End}(hw:w∈bh n){ss:List Str}(h:∀ z,z∈ss↔(w.map<|aE n).count z=1):fm n ss=true:=by
 refine k67 (k78 T<|nA T (ends n) [] (λ_ h=>h) w hw) λz hz=>?_;rw [<- Ii T hw h hz]
 by_cases k:z∈ss
 ·rw [BW k];exact Ck.mpr k
 ·rw [BR k];exact Ek.mpr λq=>k<|Ck.mp q
theorem k8m{n:Net}(T:ax n)(hf:HF n)(hN:(n.map (·.1)).Nodup)(h0:0 < n.length){w:List End}(hw:w∈bh n){ss:List Str}(h:∀ z,z∈ss↔(w.map<|aE n).count z=1):∃ sd,bC n ss sd:=by
 have W:=nA T (ends n) [] (λ_ h=>h) w hw;have inT:=yB W.ends h;obtain⟨zs,sz,mz⟩:=pM<|ag n;refine k2h T hf.1 hN h0 (eQ sz) mz inT λt ht=>?_;obtain⟨χ,hχ⟩:=hf.2.2 t ht;have:=k58 T W hχ;have e:bm zs t (λz=>decide (z∈ss))=bm zs t (λz=>decide ((w.map<|aE n).count z % 2=1)):=by
  unfold bm
  congr 1
  refine Ao λz hz=>?_;show(t z && decide (z∈ss))=(t z && decide ((w.map<|aE n).count z % 2=1));rw [Ii T hw h<|(mz z).mp hz];rfl
 rw [e,HU (n:=n) (eQ sz) λy hy=>?_]
 ·rw [Ca];exact this
 ·obtain⟨x,hx,rfl⟩:=An.mp hy;obtain⟨y,hy⟩:=af.mp<|W.ends x hx;rw [fk hy];exact(mz y).mpr<|dZ hy
end Nt
namespace L2
open PySem PySem.Spec PyProof.Rows
section
variable{X:Cx}{σ:St}{H:Hp}
end
section
variable{M:Model}{A:Around}{E:Value->Shared->Prop}{s:Shared}
end
section
variable{P:Program}{w:World}{K:PySem.W.Frag}{mg:Str->Option Value}{base:Heap}{N:List Str}{qual:Str}{scope:Scope}{f:Addr}{cd:Value}{A:Around}{outer:List Env}{s:Shared}{H:Hp}{E:XK}
end
section
variable{X:Cx}{σ:St}{H:Hp}{D:Ends}{rest:List Stmt}
end
section
variable{P:Program}{w:World}{K:PySem.W.Frag}{mg:Str->Option Value}{base:Heap}{N:List Str}{qual:Str}{scope:Scope}{f:Addr}{cd:Value}{A:Around}{outer:List Env}{s:Shared}{H:Hp}{E:XK}
end
section
variable{X:Cx}{CX:gO}{k:Nat}{f:Addr}{fd:FuncData}{ps:List Str}{sp:Sp}{E:XK}{x:Str}{p pos:Pos}{e:Expr}{es:List Expr}{σ:St}{H:Hp}{Q:VK}
end
section
variable{X:Cx}{pins:List (Addr×Obj)}{σ:St}{H:Hp}{s:Shared}{b:Addr}
end
section
variable{M:Model}{A:Around}{E:Value->Shared->Prop}{K:PySem.W.Frag}{s:Shared}
end
section
variable{X:Cx}{pins:List (Addr×Obj)}{σ:St}{H:Hp}{s:Shared}
end
open PySem.W
section
variable{prog:Program}{w:World}{A:Around}{E:Value->Shared->Prop}{s:Shared}{K:Frag}{a C:Addr}{o:Obj}
end
end L2
namespace L2
open PySem PySem.Spec PyProof.Rows
section
variable{prog:Program}{w:World}{A:Around}{E:Value->Shared->Prop}{s:Shared}
end
open bN
section
variable{X:Cx}{a b e:Expr}{es:List Expr}{σ:St}{H:Hp}{Q:VK}{pos p kp cp:Pos}{j:Nat}
end
end L2
namespace L2
open PySem PySem.Spec PyProof.Rows bM
section
variable{X:Cx}{elt t1 i1 t2 i2 t3 i3:Expr}{f1 f2 f3:List Expr}{scope:Scope}{pos:Pos}{σ:St}{H:Hp}{acc:Value}{env:Env}
end
section
variable{X:Cx}{tg:Expr}{ifs:List Expr}{inner:Sem Unit}{σ:St}{H:Hp}{a:Addr}{xs:List V}{after:St->Hp->Prop}
end
section
variable{X:Cx}{σ:St}{H:Hp}{Q:VK}
end
end L2
namespace Nt
open PySem L2 Classical
def iI{α:Type}(k:Nat)(w:List α):List α:=au<|w.drop k
def fw(k:Nat):Nat->List (List End)->List (Nat×End)
 | _,[]=>[]
 | m,w :: ws=>((iI k w).map λe=>(m,e))++fw k (m+1) ws
def iJ(k:Nat)(ws:List<|List End):List (Nat×End):=fw k 0 ws
theorem QI(k:Nat):∀(m:Nat) (ws:List<|List End),(fw k m ws).map (·.2)=ws.flatMap (iI k)
 | m,[]=>rfl
 | m,w :: ws=>by
  unfold fw;rw [Aj,QI k (m+1) ws,Ca,Cd]
  congr 1
  exact List.map_id' _
theorem Ij{n:Net}{e:End}:iI 1 (walker n e)=(au<|walker n e).map (go 1 n):=by
 unfold walker iI;have l:=pG n e<|t7 n e;apply Du;intro i;rw [Ah,pE,pE,QG]
 by_cases h:i < t7 n e
 ·rw [show 1+2 * i=2 * i+1 by omega,xO n e _ i h,pH n e _ i h];rfl
 ·rw [Bd (by omega),Bd<|by omega];rfl
theorem QN{n:Net}:∀{ws:List (List End)},(∀ w∈ws,∃ e,e∈ends n/\w=walker n e)->ws.flatMap (iI 1)=(ws.flatMap au).map (go 1 n)
 | [],_=>rfl
 | w :: ws,h=>by
  obtain⟨e,_,rfl⟩:=h w<|Ae ..;rw [Cd,Cd,Aj,Ij,QN λv hv=>h v<|Ai _ hv]
theorem QO{n:Net}(T:ax n){k:Nat}(hk:k<=1):((iJ k<|bh n).map λp=>aE n p.2).Perm (((bh n).flatMap au).map<|aE n):=by
 have e:((iJ k<|bh n).map λp=>aE n p.2)=((bh n).flatMap<|iI k).map (aE n):=by
  unfold iJ;rw [<- QI k 0<|bh n,Ca];rfl
 rw [e]
 match k,hk with
 | 0,_=>exact List.Perm.refl _
 | 1,_=>
  rw [QN (qk T).wk,Ca];exact QA T
theorem k74{n:Net}(T:ax n){k:Nat}(hk:k<=1):((iJ k<|bh n).map λp=>aE n p.2).Nodup:=(QO T hk).nodup_iff.mpr (qk T).nd
theorem q5k{n:Net}(T:ax n){k:Nat}(hk:k<=1){z:Str}:z∈((iJ k<|bh n).map λp=>aE n p.2)↔z∈ag n:=by
 rw [(QO T hk).mem_iff];refine⟨λh=>?_,λh=>Cq.mp<|by rw [Ie T h];exact Fg⟩;obtain⟨x,hx,rfl⟩:=An.mp h;obtain⟨y,hy⟩:=af.mp ((qk T).new x hx).1;rw [fk hy];exact dZ hy
noncomputable def d7(n:Net)(k:Nat)(z:Str):List (Nat×End):=(iJ k<|bh n).filter λp=>decide (aE n p.2=z)
theorem QP{α:Type}{f:α->Str}:∀{l:List α},(l.map f).Nodup->∀{p:α},p∈l->(l.filter λx=>decide (f x=f p))=[p]
 | a :: l,hn,p,hp=>by
  rw [Bj,Be] at hn;rw [Dh]
  by_cases h:f a=f p
  ·rw [BP<|BW h];have e:a=p:=by
    rcases Ak.mp hp with q | q
    ·exact q.symm
    ·exact absurd (by rw [h];exact An.mpr ⟨p,q,rfl⟩) hn.1
   subst e
   congr 1
   rw [Gb];intro x hx q;exact hn.1<|by rw [<- BX q];exact An.mpr ⟨x,hx,rfl⟩
  ·rw [BL λq=>h<|BX q]
   rcases Ak.mp hp with q | q
   ·exact absurd (by rw [q]) h
   ·exact QP hn.2 q
theorem QQ{n:Net}(T:ax n){k:Nat}(hk:k<=1){z:Str}(hz:z∈ag n):∃ p,p∈iJ k (bh n)/\aE n p.2=z/\d7 n k z=[p]:=by
 obtain⟨p,hp,rfl⟩:=An.mp<|(q5k T hk).mpr hz;exact⟨p,hp,rfl,QP (k74 T hk) hp⟩
theorem Ik{n:Net}(T:ax n):∀(es:List End) (told:List Str),(∀ e∈es,e∈ends n)->∀(i:Nat) w,(dI n es told)[i]?=some w ->
  ∃ e l r,es=l++e :: r/\(∀ x∈l,aE n x∈told++(((dI n es told).take i).flatMap au).map (aE n))/\aE n e∉told++(((dI n es told).take i).flatMap au).map (aE n)/\w=walker n e
 | [],told,_,i,w,h=>by simp [dI] at h
 | e :: r,told,hE,i,w,h=>by
  have hr:∀ a∈r,a∈ends n:=λa ha=>hE a<|Ai _ ha;unfold dI at h ⊢
  by_cases c:aE n e∈told
  ·rw [BP c] at h ⊢;obtain⟨x,l,r',h1,h2,h3,h4⟩:=Ik T r told hr i w h;refine⟨x,e :: l,r',by rw [h1];rfl,λy hy=>?_,h3,h4⟩
   rcases Ak.mp hy with q | q
   ·rw [q];exact Ba _ c
   ·exact h2 y q
  ·rw [BL c] at h ⊢
   match i with
   | 0=>
    cases h;refine⟨e,[],r,rfl,λy hy=>(nomatch hy),?_,rfl⟩
    simpa using c
   | i+1=>
    obtain⟨x,l,r',h1,h2,h3,h4⟩:=Ik T r (told++(au<|walker n e).map (aE n)) hr i w h;have eq:(told++(((walker n e :: dI n r (told++(au<|walker n e).map (aE n))).take<|i+1).flatMap au).map (aE n))=(told++(au<|walker n e).map (aE n))++(((dI n r<|told++(au<|walker n e).map (aE n)).take i).flatMap au).map (aE n):=by
     rw [List.take_succ_cons,Cd,Aj,Ar]
    rw [eq];refine⟨x,e :: l,r',by rw [h1];rfl,λy hy=>?_,h3,h4⟩
    rcases Ak.mp hy with q | q
    ·rw [q];refine Ba _<|Ax _<|An.mpr ⟨e,?_,rfl⟩;exact(kX T<|hE e<|Ae ..).mpr ⟨0,rfl⟩
    ·exact h2 y q
noncomputable def QR(n:Net)(i:Nat):List Str:=(((bh n).take i).flatMap au).map<|aE n
theorem k8p{n:Net}(T:ax n){i:Nat}{w:List End}(h:(bh n)[i]?=some w):∃ e l r,ends n=l++e :: r/\(∀ x∈l,aE n x∈QR n i)/\aE n e∉QR n i/\w=walker n e:=by
 obtain⟨e,l,r,h1,h2,h3,h4⟩:=Ik T (ends n) [] (λ_ h=>h) i w h;exact⟨e,l,r,h1,h2,h3,h4⟩
theorem k1q{n:Net}(T:ax n){e:End}(h:e∈ends n):(walker n e)[0]?=some e:=by
 obtain⟨k,p,_⟩:=rA T h;unfold walker;rw [t8 p];have:=pH n e k 0 p.pos;exact this
structure gM(n:Net)(s:Str->Bool)(c:Nat->Bool)(χ:End->Bool):Prop where
 face:a9 n s χ
 cut:∀ e z,aK n e=some z->s z=(c e.1 ^^ c (other n e).1)
def jd(n:Net)(c:Nat->Bool)(χ:End->Bool)(x:End):Bool:=c x.1 ^^ χ (other n x)
def rV(c:Nat->Bool)(χ:End->Bool)(y:End):Bool:=c y.1 ^^ χ y
section
variable{n:Net}{s:Str->Bool}{c:Nat->Bool}{χ:End->Bool}
theorem gM.odd(T:ax n)(D:gM n s c χ){x:End}(hx:x∈ends n):rV c χ (go 1 n x)=jd n c χ x:=by
 obtain⟨z,hz⟩:=af.mp hx;have h1:=D.face.go x hx;rw [Ob T hx] at h1;have h2:=D.face.c6 x z hz;have h3:=D.cut x z hz;unfold rV jd;rw [h1,show(go 1 n x).1=(other n x).1 from rfl];rw [h2] at h3
 revert h3
 cases χ x <;> cases χ (other n x) <;> cases c x.1 <;> cases c (other n x).1 <;> simp
theorem gM.even(T:ax n)(D:gM n s c χ){y:End}(hy:y∈ends n):jd n c χ (go (-1) n y)=rV c χ y:=by
 obtain⟨z,hz⟩:=af.mp hy;have h1:=D.face.go _<|cZ T<|gk T hy (c:=-1);rw [Qn T hy] at h1;have h2:=D.face.c6 y z hz;have h3:=D.cut y z hz;unfold rV jd;rw [<- h1,show(go (-1) n y).1=(other n y).1 from rfl];rw [h2] at h3
 revert h3
 cases χ y <;> cases χ (other n y) <;> cases c y.1 <;> cases c (other n y).1 <;> simp
theorem gM.two(T:ax n)(D:gM n s c χ){x:End}(hx:x∈ends n):jd n c χ (Nt.two n x)=jd n c χ x:=by
 rw [show Nt.two n x=go (-1) n (go 1 n x) from rfl,D.even T<|gk T hx,D.odd T hx]
theorem gM.it(T:ax n)(D:gM n s c χ){x:End}(hx:x∈ends n):∀ k,jd n c χ (Nt.it (Nt.two n) k x)=jd n c χ x
 | 0=>rfl
 | k+1=>by
  show jd n c χ (Nt.two n<|Nt.it (Nt.two n) k x)=_;rw [D.two T<|jB T hx k,D.it T hx k]
theorem QU(k:Nat):∀(m:Nat) (ws:List<|List End) {i:Nat} {e:End},(i,e)∈fw k m ws->∃ j w,ws[j]?=some w/\i=m+j/\e∈iI k w
 | m,[],i,e,h=>by simp [fw] at h
 | m,w :: ws,i,e,h=>by
  unfold fw at h
  rcases Am.mp h with h | h
  ·obtain⟨x,hx,q⟩:=An.mp h;cases q;exact⟨0,w,rfl,rfl,hx⟩
  ·obtain⟨j,v,h1,h2,h3⟩:=QU k (m+1) ws h;exact⟨j+1,v,h1,by omega,h3⟩
theorem Il{k:Nat}{ws:List (List End)}{i:Nat}{e:End}(h:(i,e)∈iJ k ws):∃ w,ws[i]?=some w/\e∈iI k w:=by
 obtain⟨j,w,h1,h2,h3⟩:=QU k 0 ws h;rw [Ex] at h2;subst h2;exact⟨w,h1,h3⟩
noncomputable def je(n:Net)(c:Nat->Bool)(χ:End->Bool)(i:Nat):Bool:=match (bh n)[i]? with
 | some (e :: _)=>jd n c χ e
 | _=>false
theorem QY(T:ax n){i:Nat}{e:End}(he:e∈ends n)(h:(bh n)[i]?=some (walker n e)):je n c χ i=jd n c χ e:=by
 have h0:=k1q T he;unfold je;rw [h];cases hw:walker n e with
 | nil=>rw [hw] at h0;cases h0
 | cons a l=>rw [hw] at h0;cases h0;rfl
theorem Im(T:ax n){i:Nat}{w:List End}(h:(bh n)[i]?=some w):∃ e,e∈ends n/\w=walker n e:=by
 obtain⟨e,l,r,heq,_,_,hw⟩:=k8p T h;exact⟨e,by rw [heq];simp,hw⟩
theorem gM.jL(T:ax n)(D:gM n s c χ){i:Nat}{x:End}(h:(i,x)∈iJ 0 (bh n)):x∈ends n/\jd n c χ x=je n c χ i:=by
 obtain⟨w,hw,hx⟩:=Il h;obtain⟨e,he,rfl⟩:=Im T hw;have hx:x∈dh n e:=hx;obtain⟨k,rfl⟩:=(kX T he).mp hx;rw [QY T he hw];exact⟨jB T he k,D.it T he k⟩
theorem gM.vq(T:ax n)(D:gM n s c χ){i:Nat}{y:End}(h:(i,y)∈iJ 1 (bh n)):y∈ends n/\rV c χ y=je n c χ i:=by
 obtain⟨w,hw,hy⟩:=Il h;obtain⟨e,he,rfl⟩:=Im T hw;rw [Ij] at hy;obtain⟨x,hx,rfl⟩:=An.mp hy;have hx:x∈dh n e:=hx;obtain⟨k,rfl⟩:=(kX T he).mp hx;rw [QY T he hw];have:=jB T he k;exact⟨gk T this,by rw [D.odd T this,D.it T he k]⟩
theorem gM.c6(T:ax n)(D:gM n s c χ){p q:Nat×End}(hp:p∈iJ 0 (bh n))(hq:q∈iJ 1 (bh n))(h:aE n p.2=aE n q.2):s (aE n p.2)=(je n c χ p.1 ^^ je n c χ q.1):=by
 obtain⟨i,x⟩:=p;obtain⟨j,y⟩:=q;obtain⟨hx,e1⟩:=D.jL T hp;obtain⟨hy,e2⟩:=D.vq T hq;show s (aE n x)=(je n c χ i ^^ je n c χ j);obtain⟨z,hz⟩:=af.mp hx;have h2:=D.face.c6 x z hz;have h3:=D.cut x z hz;rw [<- e1,<- e2,fk hz];unfold jd rV
 rcases yy T hx hy h with k | k
 ·subst k;rw [h2];cases χ y <;> cases χ (other n y) <;> cases c y.1 <;> rfl
 ·subst k;rw [h3];cases χ (other n x) <;> cases c x.1 <;> cases c (other n x).1 <;> rfl
end
theorem q3f{α:Type}(k:Nat):iI k ([]:List α)=[]:=by unfold iI;rw [List.drop_nil];rfl
theorem Q0(k i:Nat):∀(m:Nat) (ws:List<|List End),((fw k m ws).filter λp=>decide (p.1=i))=if m<=i then((iI k<|ws[i - m]?.getD []).map λe=>(i,e)) else []
 | m,[]=>by
  rw [List.getElem?_nil];show []=if m<=i then((iI k ([]:List End)).map λe=>(i,e)) else [];rw [q3f]
  split <;> rfl
 | m,w :: ws=>by
  unfold fw;rw [Cn,Q0 k i (m+1) ws]
  by_cases h:m=i
  ·subst h;rw [BP<|Al _,BL (by omega),Bi,VG];rw [List.filter_eq_self.mpr λa ha=>by obtain⟨x,_,rfl⟩:=An.mp ha;exact BW rfl];rfl
  ·rw [Gb.mpr λa ha=>by obtain⟨x,_,rfl⟩:=An.mp ha;exact λq=>h<|BX q,Fc]
   by_cases c:m<=i
   ·rw [BP c,BP (by omega),show i - m=(i - (m+1))+1 by omega];rfl
   ·rw [BL c,BL<|by omega]
theorem Q1{α:Type}(f:α->Str)(z:Str):∀ l:List α,(l.map f).count z=(l.filter λx=>decide (f x=z)).length
 | []=>rfl
 | a :: l=>by
  rw [Bj,Da,Q1 f z l,Dh]
  by_cases h:f a=z
  ·rw [BP (by rw [h];exact LK z),BP<|BW h,Aq]
  ·rw [BL (by rw [KJ];exact h),BL λq=>h<|BX q];rfl
theorem Q2{n:Net}{k:Nat}{z:Str}{p:Nat×End}(hp:d7 n k z=[p]){i:Nat}{w:List End}(hw:(bh n)[i]?=some w):((iI k w).map<|aE n).count z=if p.1=i then 1 else 0:=by
 have h1:=Q0 k i 0<|bh n;rw [BP<|Bx _,VF,hw] at h1;have h1:(iJ k<|bh n).filter (λp=>decide (p.1=i))=(iI k w).map λe=>(i,e):=h1;have h2:(((iJ k<|bh n).filter λp=>decide (p.1=i)).filter λp=>decide (aE n p.2=z))=(d7 n k z).filter λp=>decide (p.1=i):=by
  unfold d7;rw [List.filter_filter,List.filter_filter]
  congr 1
  funext p
  exact Fs ..
 rw [h1,hp,List.filter_map] at h2;have h3:=BZ List.length h2;rw [Aa] at h3;rw [Q1];refine Eq.trans h3 ?_;rw [Dh]
 by_cases c:p.1=i
 ·rw [BP<|BW c,BP c];rfl
 ·rw [BL λq=>c<|BX q,BL c];rfl
theorem k88{n:Net}(T:ax n){z:Str}{p q:Nat×End}(hp:d7 n 0 z=[p])(hq:d7 n 1 z=[q]){i:Nat}{w:List End}(hw:(bh n)[i]?=some w):cw n w z=(decide (p.1=i) ^^ decide (q.1=i)):=by
 obtain⟨e,he,rfl⟩:=Im T hw;have c0:=Q2 hp hw;have c1:=Q2 hq hw;rw [Ij,Ca] at c1;have c0:((dh n e).map<|aE n).count z=_:=c0;have c1:((dh n e).map λx=>aE n<|go 1 n x).count z=_:=c1;unfold cw;rw [(Qx T he).count_eq,Dk,c0,c1]
 by_cases a:p.1=i <;> by_cases b:q.1=i <;> simp [a,b]
theorem Q3{m a:Nat}(h:a < m)(f:Nat->Bool):ao ((List.range m).map λi=>f i && decide (a=i))=f a:=by
 induction m with
 | zero=>omega
 | succ m ih=>
  rw [Do,Aj,l9];show(_ ^^ ((f m && decide (a=m)) ^^ false))=_;rw [Fj]
  by_cases c:a=m
  ·subst c;have:ao ((List.range a).map λi=>f i && decide (a=i))=false:=by
    have e:((List.range a).map λi=>f i && decide (a=i))=(List.range a).map λ_=>false:=Ao λi hi=>by
     rw [BR (λq=>by have:=Br.mp hi;omega),Go]
    rw [e,iE]
   rw [this,BW rfl,Bool.and_true,Fi]
  ·rw [ih (by omega),BR c,Go,Fj]
theorem k44{n:Net}(T:ax n)(ch:Nat->Bool){z:Str}{p q:Nat×End}(hp:d7 n 0 z=[p])(hq:d7 n 1 z=[q]) :
  ao ((List.range (bh n).length).map λi=>ch i && cw n ((bh n)[i]?.getD []) z)=(ch p.1 ^^ ch q.1):=by
 have lt:∀{k:Nat} {p:Nat×End},d7 n k z=[p]->p.1 < (bh n).length:=λ{k p} h=>by
  have:p∈d7 n k z:=by rw [h];exact Ad.mpr rfl
  obtain⟨w,hw,_⟩:=Il (i:=p.1) (e:=p.2) (Bh.mp this).1;exact(Ac.mp hw).1
 have e:((List.range (bh n).length).map λi=>ch i && cw n ((bh n)[i]?.getD []) z)=(List.range (bh n).length).map λi=>(ch i && decide (p.1=i)) ^^ (ch i && decide (q.1=i)):=Ao λi hi=>by
  have hw:=Ab<|Br.mp hi;have ho:=k88 T hp hq hw;rw [hw,Option.getD_some,ho];cases ch i <;> rfl
 rw [e,gY,Q3<|lt hp,Q3<|lt hq]
structure di(n:Net)(cs:List<|List Str):Prop where
 len:cs.length=(bh n).length
 mem:∀(i:Nat) c w,cs[i]?=some c->(bh n)[i]?=some w->∀ z,z∈c↔(w.map<|aE n).count z=1
 nK:∀ c∈cs,cj c
section
variable{n:Net}{cs:List (List Str)}{ss zs:List Str}{c:Nat->Bool}{χ:End->Bool}
theorem di.at'(C:di n cs)(T:ax n){i:Nat}(hi:i < (bh n).length){z:Str}(hz:z∈ag n):decide (z∈cs[i]?.getD [])=cw n ((bh n)[i]?.getD []) z:=by
 have h1:=Ab hi;have h2:=Ab (show i < cs.length by rw [C.len];exact hi);rw [h1,h2];exact Ii T (Bt hi) (C.mem i _ _ h2 h1) hz
theorem Io{α:Type}(g f:α->Bool):∀ l:List α,ao ((l.filter g).map f)=ao (l.map λi=>g i && f i)
 | []=>rfl
 | a :: l=>by
  rw [Dh];have ih:=Io g f l;cases h:g a with
  | true=>
   rw [BP rfl];show(f a ^^ ao ((l.filter g).map f))=((g a && f a) ^^ ao (l.map λi=>g i && f i));rw [ih,h,Gr]
  | false=>
   rw [BL (by decide),ih];show _=((g a && f a) ^^ ao (l.map λi=>g i && f i));rw [h,TV,Fi]
end
section
variable{n:Net}
end
abbrev cm(n:Net):List Str:=n.map (·.1)
noncomputable def bv(n:Net)(p:Str->Bool)(z:Str):Bool:=ao<|n.map λr=>p r.1 && decide (r.2.count z % 2=1)
noncomputable def kY(n:Net)(p s:Str->Bool):Bool:=ao<|n.map λr=>p r.1 && ao (r.2.map s)
noncomputable def pr(f:Str->Bool)(os:List Str):Bool:=ao<|os.map f
theorem Ip{α:Type}(b:Bool)(f:α->Bool)(l:List α):(b && ao (l.map f))=ao (l.map λx=>b && f x):=by
 cases b
 ·show false=ao (l.map λ_=>false);rw [iE]
 ·rfl
theorem Iq{α:Type}(b:Bool)(f:α->Bool)(l:List α):(ao (l.map f) && b)=ao (l.map λx=>f x && b):=by
 rw [Fs,Ip]
 congr 1
 exact Ao λx _=>Fs _ _
theorem Ir{n:Net}{Z:List Str}(hz:Z.Nodup)(hm:∀ z∈ag n,z∈Z)(p s:Str->Bool):kY n p s=bm Z (bv n p) s:=by
 unfold kY bm bv;have e:(Z.map λz=>ao (n.map λr=>p r.1 && decide (r.2.count z % 2=1)) && s z)=Z.map λz=>ao (n.map λr=>p r.1 && (s z && decide (r.2.count z % 2=1))):=Ao λz _=>by
  rw [Iq]
  congr 1
  refine Ao λr _=>?_;cases p r.1 <;> cases s z <;> simp
 rw [e,vk λz (r:Str×List Str)=>p r.1 && (s z && decide (r.2.count z % 2=1))]
 congr 1
 refine Ao λr hr=>?_;rw [<- Ip]
 congr 1
 exact(HU (n:=n) hz λy hy=>hm y<|Gg.mpr ⟨r,hr,hy⟩).symm
theorem vt(Z:List Str)(s t:Str->Bool):bm Z s t=bm Z t s:=by
 unfold bm
 congr 1
 exact Ao λz _=>Fs _ _
theorem Iu{Z:List Str}{s s' t t':Str->Bool}(h:∀ z∈Z,s z=s' z)(k:∀ z∈Z,t z=t' z):bm Z s t=bm Z s' t':=by
 unfold bm
 congr 1
 exact Ao λz hz=>by rw [h z hz,k z hz]
theorem sym{n:Net}(p q:Str->Bool):kY n p (bv n q)=kY n q (bv n p):=by
 obtain⟨Z,hs,hm⟩:=pM<|ag n;rw [Ir (eQ hs) λz hz=>(hm z).mpr hz,Ir (eQ hs) λz hz=>(hm z).mpr hz,vt]
theorem k7b{c:List Str}(h:c.Nodup)(z:Str):decide (c.count z % 2=1)=decide (z∈c):=by
 by_cases k:z∈c
 ·have:c.count z=1:=Nat.le_antisymm (Fk.mp h z)<|Cq.mpr k;rw [this,BW k];rfl
 ·rw [Cw k,BR k];rfl
theorem vw{Z c:List Str}(hz:Z.Nodup)(hc:c.Nodup)(hm:∀ z∈c,z∈Z)(f:Str->Bool):pr f c=bm Z f (λz=>decide (z∈c)):=by
 unfold pr;rw [<- HU (n:=[]) hz hm];exact Iu (λ_ _=>rfl) λz _=>k7b hc z
abbrev kj(a b c:List Str):Prop:=∀ z,z∈c↔(if z∈a then z∉b else z∈b)
theorem yC{a b c:List Str}(h:kj a b c)(z:Str):decide (z∈c)=(decide (z∈a) ^^ decide (z∈b)):=by
 have:=h z
 by_cases x:z∈a <;> by_cases y:z∈b <;> simp [x,y] at this <;> simp [x,y,this]
theorem q6j{a b c:List Str}(ha:a.Nodup)(hb:b.Nodup)(hc:c.Nodup)(h:kj a b c)(f:Str->Bool):pr f c=(pr f a ^^ pr f b):=by
 obtain⟨Z,hs,hm⟩:=pM<|a++b;have nz:=eQ hs;rw [vw nz ha λz hz=>(hm z).mpr<|Am.mpr<|.inl hz,vw nz hb λz hz=>(hm z).mpr<|Am.mpr<|.inr hz,
  vw nz hc (λz hz=>(hm z).mpr (by
   have:=(h z).mp hz;rw [Am]
   by_cases k:z∈a
   ·exact .inl k
   ·rw [BL k] at this;exact .inr this))]
 rw [vt Z f,vt Z f,vt Z f,<- HR];exact Iu (λz _=>yC h z) λ_ _=>rfl
noncomputable def cz(s:Str->Bool)(r:Str×List Str):Bool:=ao<|r.2.map s
def cQ(n:Net)(s:Str->Bool)(os:List Str):Prop:=os.Perm ((n.filter<|cz s).map (·.1))
theorem cQ.pr{n:Net}{s:Str->Bool}{os:List Str}(h:cQ n s os)(f:Str->Bool):pr f os=kY n f s:=by
 unfold Nt.pr kY;rw [Ot<|h.map f,Ca,Io]
 congr 1
 exact Ao λr _=>Fs _ _
theorem cQ.nd{n:Net}{s:Str->Bool}{os:List Str}(h:cQ n s os)(hN:(cm n).Nodup):os.Nodup:=h.nodup_iff.mpr<|hN.sublist<|List.filter_sublist.map _
theorem cQ.sub{n:Net}{s:Str->Bool}{os:List Str}(h:cQ n s os):∀ x∈os,x∈cm n:=λx hx=>by
 obtain⟨r,hr,rfl⟩:=An.mp<|h.mem_iff.mp hx;exact An.mpr ⟨r,(Bh.mp hr).1,rfl⟩
theorem Q4{n:Net}(hN:(cm n).Nodup){r q:Str×List Str}(hr:r∈n)(hq:q∈n)(h:r.1=q.1):r=q:=Ig hN r hr q hq h
theorem cQ.mem{n:Net}{s:Str->Bool}{os:List Str}(h:cQ n s os)(hN:(cm n).Nodup){r:Str×List Str}(hr:r∈n):decide (r.1∈os)=cz s r:=by
 cases k:cz s r
 ·refine BR λhx=>?_;obtain⟨q,hq,e⟩:=An.mp<|h.mem_iff.mp hx;obtain⟨q1,q2⟩:=Bh.mp hq;rw [Q4 hN q1 hr e,k] at q2;cases q2
 ·exact BW<|h.mem_iff.mpr<|An.mpr ⟨r,Bh.mpr ⟨hr,k⟩,rfl⟩
theorem q4k{n:Net}(hN:(cm n).Nodup){r:Str×List Str}(hr:r∈n)(s:Str->Bool):kY n (λx=>decide (x=r.1)) s=cz s r:=by
 unfold kY;have e:(n.map λq=>decide (q.1=r.1) && ao (q.2.map s))=n.map λq=>decide (q=r) && ao (r.2.map s):=Ao λq hq=>by
  by_cases k:q.1=r.1
  ·rw [Q4 hN hq hr k,BW rfl,BW rfl]
  ·rw [BR k,BR λe=>k<|by rw [e]];rfl
 rw [e,<- Iq];have one:∀{l:List (Str×List Str)},l.Nodup->r∈l->ao (l.map λq=>decide (q=r))=true:=by
  intro l
  induction l with
  | nil=>intro _ h;cases h
  | cons a l ih=>
   intro nd h;have rB:=Be.mp nd;show(decide (a=r) ^^ ao (l.map _))=true
   by_cases k:a=r
   ·have:(l.map λq=>decide (q=r))=l.map λ_=>false:=Ao λq hq=>BR λe=>rB.1 (by rw [k,<- e];exact hq);rw [this,iE,BW k];rfl
   ·rw [BR k,ih rB.2<|by rcases Ak.mp h with e | e;exact absurd e.symm k;exact e];rfl
 rw [one (Ih hN) hr];rfl
noncomputable def cn(n:Net)(ps:List Str)(r:Str×List Str):Bool:=cz (bv n λy=>decide (y∈ps)) r
theorem k89(n:Net)(p q:Str->Bool)(z:Str):bv n (λy=>p y ^^ q y) z=(bv n p z ^^ bv n q z):=by
 unfold bv;rw [<- gY]
 congr 1
 refine Ao λr _=>?_;show((p r.1 ^^ q r.1) && decide (r.2.count z % 2=1))=_;generalize decide (r.2.count z % 2=1)=c;generalize p r.1=a;generalize q r.1=b;cases a <;> cases b <;> cases c <;> rfl
theorem q0f{n:Net}{a b c:List Str}(h:kj a b c)(r:Str×List Str):cn n c r=(cn n a r ^^ cn n b r):=by
 unfold cn cz;rw [<- gY]
 congr 1
 refine Ao λz _=>?_;rw [<- k89]
 congr 1
 funext y
 exact yC h y
theorem Iv{n:Net}(T:ax n)(ps:List Str)(z:Str):bv n (λy=>decide (y∈ps)) z=decide (dv n ps z):=by
 have h:=q5f T ps z;rw [decide_eq_decide.mpr h];unfold bv;rw [vj];have fl:∀ l:Net,ao ((ag l).map λy=>decide (z=y))=ao (l.map λr=>decide (r.2.count z % 2=1)):=by
  intro l
  induction l with
  | nil=>rfl
  | cons a l ih=>
   show ao ((a.2++ag l).map _)=(_ ^^ ao (l.map _));rw [Aj,l9,ih,<- vj]
 rw [fl,Io]
abbrev cR:=List<|List Str×List Str
structure Iw(n:Net)(st:cR):Prop where
 ne:∀ s∈st,s.2≠[]
 nd:∀ s∈st,s.1.Nodup/\s.2.Nodup
 sub:∀ s∈st,(∀ x∈s.1,x∈cm n)/\∀ x∈s.2,x∈cm n
 im:∀ s∈st,∀ r∈n,cn n s.1 r=decide (r.1∈s.2)
 Iy:st.Pairwise λa b=>∀ p,a.2.head?=some p->p∉b.2
structure gx(n:Net)(st:cR)(ps os cC bV:List Str):Prop where
 nd:cC.Nodup/\bV.Nodup
 sub:(∀ x∈cC,x∈cm n)/\∀ x∈bV,x∈cm n
 fn:∀ f:Str->Bool,(∀ s∈st,pr f s.2=false)->pr f bV=pr f os
 yD:∀ s∈st,∀ p,s.2.head?=some p->p∉bV
 im:∀ r∈n,(decide (r.1∈bV) ^^ cn n cC r)=(decide (r.1∈os) ^^ cn n ps r)
theorem gx.start{n:Net}{ps os:List Str}(h1:ps.Nodup)(h2:os.Nodup)(h3:∀ x∈ps,x∈cm n)(h4:∀ x∈os,x∈cm n):gx n [] ps os ps os:=⟨⟨h1,h2⟩,⟨h3,h4⟩,λ_ _=>rfl,λs h=>(by cases h),λ_ _=>rfl⟩
theorem vx{α:Type}{l:List α}{i:Nat}{a:α}(h:l[i]?=some a):l.take (i+1)=l.take i++[a]:=by rw [Cg,h];rfl
theorem gx.skip{n:Net}{st:cR}{i:Nat}{s:List Str×List Str}{ps os cC bV:List Str}(h:gx n (st.take i) ps os cC bV)(hs:st[i]?=some s){p:Str}(hp:s.2.head?=some p)(hn:p∉bV):gx n (st.take<|i+1) ps os cC bV:=by
 rw [vx hs];refine⟨h.nd,h.sub,λf hf=>h.fn f λs hs=>hf s<|Am.mpr<|.inl hs,λt ht q hq=>?_,h.im⟩
 rcases Am.mp ht with k | k
 ·exact h.yD t k q hq
 ·rw [Ad.mp k,hp] at hq;cases hq;exact hn
theorem Q5{l:List Str}{p:Str}(h:l.head?=some p):p∈l:=by
 cases l with
 | nil=>cases h
 | cons a l=>cases h;exact Ae
theorem gx.step{n:Net}{st:cR}(I:Iw n st){i:Nat}{s:List Str×List Str}{ps os cC bV p2 o2:List Str}(h:gx n (st.take i) ps os cC bV)(hs:st[i]?=some s){p:Str}(hp:s.2.head?=some p)(hn:p∈bV)
  (n1:p2.Nodup) (n2:o2.Nodup) (x1:kj cC s.1 p2) (x2:kj bV s.2 o2):gx n (st.take<|i+1) ps os p2 o2:=by
 have iF:=Ap hs;have jo:=(Ac.mp hs).1;rw [vx hs];have un:∀{a b c:List Str},kj a b c->(∀ x∈a,x∈cm n)->(∀ x∈b,x∈cm n)->∀ x∈c,x∈cm n:=λ{a b c} X ha hb x hx=>by
  have:=(X x).mp hx
  by_cases k:x∈a
  ·exact ha x k
  ·rw [BL k] at this;exact hb x this
 refine⟨⟨n1,n2⟩,⟨un x1 h.sub.1 (I.sub s iF).1,un x2 h.sub.2 (I.sub s iF).2⟩,λf hf=>?_,λt ht q hq=>?_,λr hr=>?_⟩
 ·rw [q6j h.nd.2 (I.nd s iF).2 n2 x2,hf s<|Am.mpr<|.inr<|Ad.mpr rfl,Fj];exact h.fn f λs hs=>hf s<|Am.mpr<|.inl hs
 ·rw [x2 q]
  rcases Am.mp ht with k | k
  ·rw [BL<|h.yD t k q hq];obtain⟨j,hj⟩:=Bp k;have nr:=(Ac.mp hj).1;rw [Bf] at nr;have fB:st[j]?=some t:=by rw [Dm<|by omega] at hj;exact hj
   have ej:=(Ac.mp fB).2;have ei:=(Ac.mp hs).2;have:=Bn.mp I.Iy j i (by omega) jo (by omega);rw [ej,ei] at this;exact this q hq
  ·rw [Ad.mp k] at hq;rw [hp] at hq;cases hq;rw [BP hn];exact λk=>k<|Q5 hp
 ·rw [yC x2,q0f x1,I.im s iF r hr,<- h.im r hr];cases decide (r.1∈bV) <;> cases decide (r.1∈s.2) <;> cases cn n cC r <;> rfl
theorem Q6:∀{st:cR},(∀ s∈st,s.2≠[])->(∀ s∈st,s.2.Nodup)->(st.Pairwise λa b=>∀ p,a.2.head?=some p->p∉b.2)->∀{o:List Str},o.Nodup->o≠[]->(∀ s∈st,∀ p,s.2.head?=some p->p∉o)->∃ f:Str->Bool,(∀ s∈st,pr f s.2=false)/\pr f o=true
 | [],_,_,_,o,nd,ne,_=>by
  cases o with
  | nil=>exact absurd rfl ne
  | cons a o=>
   refine⟨λx=>decide (x=a),λs h=>(by cases h),?_⟩;have:(o.map λx=>decide (x=a))=o.map λ_=>false:=Ao λx hx=>BR λe=>(Be.mp nd).1 (by rw [<- e];exact hx);show(decide (a=a) ^^ ao (o.map λx=>decide (x=a)))=true;rw [this,iE,BW rfl];rfl
 | s :: st,h1,h2,h3,o,nd,ne,hp=>by
  obtain⟨f,f1,f2⟩:=Q6 (st:=st) (λt ht=>h1 t<|Ai _ ht) (λt ht=>h2 t<|Ai _ ht) (Cr.mp h3).2 nd ne λt ht=>hp t<|Ai _ ht;obtain⟨p,Iz⟩:∃ p,s.2.head?=some p:=by
   cases k:s.2 with
   | nil=>exact absurd k<|h1 s Ae
   | cons a l=>exact⟨a,rfl⟩
  have add:∀(l:List Str),l.Nodup->pr (λx=>f x ^^ decide (x=p)) l=(pr f l ^^ decide (p∈l)):=λl hl=>by
   show ao (l.map _)=_;rw [gY]
   congr 1
   have:=vw (Z:=l) hl hl (λ_ h=>h) λx=>decide (x=p);have e2:ao (l.map λx=>decide (x=p))=pr (λx=>decide (x=p)) l:=rfl
   by_cases k:p∈l
   ·rw [e2,this,yx hl k]
   ·rw [BR k];have:(l.map λx=>decide (x=p))=l.map λ_=>false:=Ao λx hx=>BR λe=>k (by rw [<- e];exact hx);rw [this,iE]
  cases k:pr f s.2
  ·refine⟨f,λt ht=>?_,f2⟩
   rcases Ak.mp ht with rfl | ht
   ·exact k
   ·exact f1 t ht
  ·refine⟨λx=>f x ^^ decide (x=p),λt ht=>?_,?_⟩
   ·rw [add _<|h2 t ht]
    rcases Ak.mp ht with rfl | ht
    ·rw [k,BW<|Q5 Iz];rfl
    ·rw [f1 t ht,BR<|(Cr.mp h3).1 t ht p Iz];rfl
   ·rw [add _ nd,f2,BR<|hp s Ae p Iz];rfl
structure jC(n:Net)(k:Nat)(st:cR):Prop where
 cq:Iw n st
 len:st.length<=k
 span:∀ f:Str->Bool,(∀ s∈st,pr f s.2=false)->∀ x∈(cm n).take k,kY n f (bv n λy=>decide (y∈[x]))=false
theorem jC.start(n:Net):jC n 0 []:=⟨⟨λs h=>(by cases h),λs h=>(by cases h),λs h=>(by cases h),λs h=>(by cases h),List.Pairwise.nil⟩,Al _,λf _ x hx=>(by rw [List.take_zero] at hx;cases hx)⟩
theorem q7h{n:Net}{x:Str}{st:cR}(hN:(cm n).Nodup){os cC bV:List Str}(hO:cQ n (bv n λy=>decide (y∈[x])) os)(h:gx n st [x] os cC bV):∀ r∈n,cn n cC r=decide (r.1∈bV):=λr hr=>by
 have a:=h.im r hr;rw [hO.mem hN hr] at a;have:cn n [x] r=cz (bv n λy=>decide (y∈[x])) r:=rfl;rw [this,Bool.xor_self] at a
 revert a
 cases decide (r.1∈bV) <;> cases cn n cC r <;> simp
theorem jC.skip{n:Net}(hN:(cm n).Nodup){k:Nat}{st:cR}(I:jC n k st){x:Str}(hx:(cm n)[k]?=some x){os cC:List Str}(hO:cQ n (bv n λy=>decide (y∈[x])) os)(h:gx n st [x] os cC []):jC n (k+1) st:=by
 refine⟨I.cq,Nat.le_succ_of_le I.len,λf hf y hy=>?_⟩;rw [vx hx] at hy
 rcases Am.mp hy with q | q
 ·exact I.span f hf y q
 ·rw [Ad.mp q,<- hO.pr,<- h.fn f hf];rfl
theorem jC.step{n:Net}(hN:(cm n).Nodup){k:Nat}{st:cR}(I:jC n k st){x:Str}(hx:(cm n)[k]?=some x){os cC bV:List Str}(hO:cQ n (bv n λy=>decide (y∈[x])) os)(h:gx n st [x] os cC bV)(bw:bV≠[]):jC n (k+1) (st++[(cC,bV)]):=by
 have al:∀{P:List Str×List Str->Prop},(∀ s∈st,P s)->P (cC,bV)->∀ s∈st++[(cC,bV)],P s:=λ{P} a b s hs=>by
  rcases Am.mp hs with q | q
  ·exact a s q
  ·rw [Ad.mp q];exact b
 refine⟨⟨al I.cq.ne bw,al I.cq.nd h.nd,al I.cq.sub h.sub,al I.cq.im<|q7h hN hO h,?_⟩,by rw [Af];exact Nat.succ_le_succ I.len,λf hf y hy=>?_⟩
 ·rw [List.pairwise_append];refine⟨I.cq.Iy,Eu _ _,λa ha b hb p hp=>?_⟩;rw [Ad.mp hb];exact h.yD a ha p hp
 ·have Q7:∀ s∈st,pr f s.2=false:=λs hs=>hf s<|Am.mpr<|.inl hs;rw [vx hx] at hy
  rcases Am.mp hy with q | q
  ·exact I.span f Q7 y q
  ·rw [Ad.mp q,<- hO.pr,<- h.fn f Q7];exact hf (cC,bV)<|Am.mpr<|.inr<|Ad.mpr rfl
def mK(n:Net)(s:Str->Bool):Prop:=∀ f:Str->Bool,(∀ r∈n,cz (bv n f) r=false)->kY n f s=false
theorem jC.whole{n:Net}(hN:(cm n).Nodup){st:cR}(I:jC n n.length st){s:Str->Bool}(ho:mK n s){os cC bV:List Str}(hO:cQ n s os)(h:gx n st [] os cC bV):∀ r∈n,cn n cC r=cz s r:=by
 have he:bV=[]:=by
  refine DQ λbw=>?_;obtain⟨f,f1,f2⟩:=Q6 I.cq.ne (λs hs=>(I.cq.nd s hs).2) I.cq.Iy h.nd.2 bw h.yD;have hd:∀ r∈n,cz (bv n f) r=false:=λr hr=>by
   rw [<- q4k hN hr,sym];have:=I.span f f1 r.1 (by rw [Cp<|by rw [Aa];exact Al _];exact An.mpr ⟨r,hr,rfl⟩);have e:(λy=>decide (y∈[r.1]))=λy=>decide (y=r.1):=by
    funext y
    exact decide_eq_decide.mpr Ad
   rw [e] at this;exact this
  have:=ho f hd;rw [<- hO.pr,<- h.fn f f1,f2] at this;cases this
 subst he;intro r hr;have a:=h.im r hr;have z:cn n [] r=false:=by
  unfold cn cz bv;have:(r.2.map λz=>ao<|n.map λq=>decide (q.1∈([]:List Str)) && decide (q.2.count z % 2=1))=r.2.map λ_=>false:=Ao λz _=>by
   have:(n.map λq=>decide (q.1∈([]:List Str)) && decide (q.2.count z % 2=1))=n.map λ_=>false:=Ao λq _=>by
    rw [BR (λh=>by cases h),TV]
   rw [this,iE]
  rw [this,iE]
 rw [z,hO.mem hN hr,Fj,BR (λh=>by cases h),Fi] at a;exact a
theorem q4q{n:Net}{i:Nat}(h:i < n.length):∃ r∈n,row n i=r.2:=⟨n[i],Bt h,by unfold row;rw [Ab h];rfl⟩
theorem q3t{n:Net}(T:ax n)(hf:HF n){cs:List (List Str)}(C:di n cs){s:Str->Bool}(h:∀ c∈cs,ao (c.map s)=false):mK n s:=λf hd=>by
 obtain⟨Z,hs,hm⟩:=pM<|ag n;have nz:=eQ hs;have Q8:∀ z∈ag n,z∈Z:=λz hz=>(hm z).mpr hz;rw [Ir nz Q8];have ev:dQ n (bv n f):=λi=>by
  by_cases hi:i < n.length
  ·obtain⟨r,hr,e⟩:=q4q hi;rw [e];exact hd r hr
  ·unfold row;rw [Bd<|by omega];rfl
 obtain⟨χ,hχ⟩:=hf.2.2 _ ev;have g9:∀ e z,aK n e=some z->bv n f z=(f (aF n e.1) ^^ f (aF n (other n e).1)):=λe z hz=>by
  have hp:∀ x∈cm n,decide (x∈(cm n).filter f)=f x:=λx hx=>by
   cases k:f x
   ·exact BR λq=>by rw [(Bh.mp q).2] at k;cases k
   ·exact BW<|Bh.mpr ⟨hx,k⟩
  have e1:bv n f z=bv n (λy=>decide (y∈(cm n).filter f)) z:=by
   unfold bv
   congr 1
   refine Ao λr hr=>?_;have:=hp r.1<|An.mpr ⟨r,hr,rfl⟩;show(f r.1 && _)=(decide (r.1∈(cm n).filter f) && _);rw [<- this]
  have c:=mh T (ps:=(cm n).filter f) hz;rw [hp _<|ju<|cN hz,hp _<|ju<|pK T hz] at c;rw [e1,Iv T,Cm,CK,c]
 have D:gM n (bv n f) (λr=>f<|aF n r) χ:=⟨hχ,g9⟩;have e:∀ z∈Z,bv n f z=ao ((List.range (bh n).length).map λi=>je n (λr=>f<|aF n r) χ i && cw n ((bh n)[i]?.getD []) z):=λz hz=>by
  have g8:=(hm z).mp hz;obtain⟨p,p1,p2,hpk⟩:=QQ T (k:=0) (by decide) g8;obtain⟨q,q1,q2,hqk⟩:=QQ T (k:=1) (by decide) g8;rw [k44 T _ hpk hqk,<- gM.c6 T D p1 q1<|p2.trans q2.symm,p2]
 rw [Iu e λ_ _=>rfl];unfold bm;have e2:(Z.map λz=>ao ((List.range (bh n).length).map λi=>je n (λr=>f<|aF n r) χ i && cw n ((bh n)[i]?.getD []) z) && s z)=Z.map λz=>ao ((List.range (bh n).length).map λi=>je n (λr=>f<|aF n r) χ i && (cw n ((bh n)[i]?.getD []) z && s z)):=Ao λz _=>by
  rw [Iq]
  congr 1
  exact Ao λi _=>Bool.and_assoc _ _ _
 rw [e2,vk λz i=>je n (λr=>f<|aF n r) χ i && (cw n ((bh n)[i]?.getD []) z && s z)];have e3:((List.range (bh n).length).map λi=>ao<|Z.map λz=>je n (λr=>f<|aF n r) χ i && (cw n ((bh n)[i]?.getD []) z && s z))=(List.range (bh n).length).map λ_=>false:=Ao λi hi=>by
  have hi:=Br.mp hi;rw [<- Ip];have Q9:=Ab (show i < cs.length by rw [C.len];exact hi);have gK:cs[i]'(by rw [C.len];exact hi)∈cs:=Bt _;have jD:=Ab hi;have a:=h _ gK;have nd:=eQ<|C.nK _ gK;have wU:∀ z∈cs[i]'(by rw [C.len];exact hi),z∈ag n:=yB (λc hc=>(nA T (ends n) [] (λe he=>he) _<|Bt hi).ends c hc)<|C.mem i _ _ Q9 jD;have b:=vw nz nd (λz hz=>Q8 z<|wU z hz) s;have c:ao (Z.map λz=>cw n ((bh n)[i]?.getD []) z && s z)=bm Z s (λz=>decide (z∈cs[i]'(by rw [C.len];exact hi))):=by
   rw [vt];unfold bm
   congr 1
   refine Ao λz hz=>?_;rw [<- C.at' T hi<|(hm z).mp hz,Q9,Option.getD_some]
  rw [c,<- b];show(_ && ao _)=false;rw [a,Go]
 rw [e3,iE]
theorem k1y{n:Net}(T:ax n){ss ps cs rs:List Str}(h:∀ r∈n,cn n ps r=cz (λz=>decide (z∈ss)) r)(hc:∀ z,z∈cs↔dv n ps z)(hx:kj ss cs rs):fm n rs=true:=by
 refine gm.mpr λr hr=>?_;have a:=h r hr;unfold cn cz at a;have e:(r.2.map<|bv n λy=>decide (y∈ps))=r.2.map λz=>decide (z∈cs):=Ao λz _=>by rw [Iv T,decide_eq_decide.mpr<|hc z]
 rw [e] at a;have b:ao (r.2.map λz=>decide (z∈rs))=false:=by
  have:(r.2.map λz=>decide (z∈rs))=r.2.map λz=>decide (z∈ss) ^^ decide (z∈cs):=Ao λz _=>yC hx z;rw [this,gY,a,Bool.xor_self]
 have c:(r.2.filter λz=>rs.contains z)=r.2.filter λz=>decide (z∈rs):=by
  congr 1
  funext z
  rw [Cm,CK];exact Ck
 rw [c];rw [ud] at b;have:=HX b;omega
def IA(n:Net)(ss:List Str):Prop:=∃ cs,di n cs/\∀ c∈cs,(c.filter λz=>ss.contains z).length % 2=0
end Nt
namespace E5
open PySem L2 Nt bN bM
open PyProof.Rows (sortedS)
def yE:Sp:=λvs H Q _=>∃(R p:Addr) (as:List<|Addr×Addr) (n:Net) (ps:List Str),vs=[.ref R,.ref p]/\ai H R as n/\ax n/\n.length<=60/\(ag n).length<=60/\H p=some (Ls ps) /\
 ∀(L:Addr) (cs:List Str) (H':Hp),aj H H'->H L=none->H' L=some (Ls cs)->cj cs->(∀ z,z∈cs↔dv n ps z)->cs.length<=60->Q (.ref L) H'
def yF:Sp:=λvs H Q _=>∃(a b:Addr) (xs ys:List Str),vs=[.ref a,.ref b]/\H a=some (Ls xs)/\H b=some (Ls ys)/\xs.length+ys.length < 64 /\
 ∀ l ss H',aj H H'->H l=none->H' l=some (Ls ss)->sortedS ss=true->ss.Nodup->(∀ z,z∈ss↔(if z∈xs then z∉ys else z∈ys))->Q (.ref l) H'
def IB:Sp:=λvs H Q _=>∃(R:Addr) (as:List<|Addr×Addr) (n:Net),vs=[.ref R]/\ai H R as n/\n.length<=1000/\∀ L H',aj H H'->H L=none->H' L=some (Ls (n.map (·.1)))->Q (.ref L) H'
section
variable{P:Program}{w:World}{K:PySem.W.Frag}{mg:Str->Option Value}{base:Heap}
def vy(ps:List Str)(x:Lk):Bool:=decide (x.2.1∈ps) != decide (x.2.2∈ps)
def dq(ps:List Str)(ls:List Lk):List Str:=(ls.filter<|vy ps).map (·.1)
theorem q0c{ps:List Str}{ls:List Lk}(h:yw ls):cj (dq ps ls):=by
 unfold cj dq;rw [Dx];exact h.sublist List.filter_sublist
theorem q1k{n:Net}(T:ax n){ps:List Str}{ls:List Lk}(h:∀ x,x∈ls↔nJ n x)(z:Str):z∈dq ps ls↔dv n ps z:=by
 unfold dq;rw [An]
 constructor
 ·rintro ⟨x,hx,rfl⟩;rw [Bh] at hx;exact(xZ T<|(h x).mp hx.1).mpr hx.2
 ·intro hc;obtain⟨e,he,_⟩:=id hc
  rcases k9a T he with q | q
  ·exact⟨_,Bh.mpr ⟨(h _).mpr q,(xZ T q).mp hc⟩,rfl⟩
  ·exact⟨_,Bh.mpr ⟨(h _).mpr q,(xZ T q).mp hc⟩,rfl⟩
theorem Ra(ps:List Str)(ls:List Lk):(dq ps ls).length<=ls.length:=by
 unfold dq;rw [Aa];exact Ct _ _
theorem k5n(ps:List Str)(ls:List Lk)(x:Lk):dq ps (ls++[x])=dq ps ls++(if vy ps x=true then [x.1] else []):=by
 unfold dq;rw [Cn,Aj]
 congr 1
 cases h:vy ps x <;> simp [h]
theorem yG(zs:List Str)(z:Str):zs.contains z=decide (z∈zs):=by
 rw [Cm,CK];exact Ck
abbrev Rb:List Str:=["rows","points"]
abbrev vz:List Str:=["rows","points","tie","one","other"]
theorem IC:ak Rb ["rows","points"] (a8 xv):=⟨rfl,rfl,rfl,by decide +kernel,rfl,by decide +kernel,by decide +kernel⟩
theorem IE:vz.Nodup:=by decide +kernel
theorem q6k{f:Addr}{fd:FuncData}(F:bE K "cut_of" "cut_of" xv f fd)(T:Txt mg)
  (G:aO P w K mg base 1 "links_of" ["rows"] HL) :
  aI P w K mg base bB 2 f fd ["rows","points"] yE:=by
 refine F.gb IC (λvs H Q E h=>?_) λb0 H vs Q E hr h=>?_
 ·obtain⟨R,p,as,n,ps,rfl,_⟩:=h;rfl
 obtain⟨R,p,as,n,ps,rfl,hR,hT,hn,ht,hp,q⟩:=h;show Run _ _ _ [some<|.ref R,some<|.ref p] H;refine bO (gR (a8 xv) Rb vz 3 (gA bt)<|bn G hr<|ah<|ae 0<|ay ⟨R,as,n,rfl,hR,hT,by omega,ht,λL us ls H1 s1 n1 eL gW fc qj hlen=>?_⟩);refine⟨L,rfl,⟨_,aq.of eL⟩,λD hD=>?_⟩;have Gu:L≠D:=bg eL hD;have Hx:p≠D:=bg (s1 _ _ hp) hD;have uW:=gW.1;refine nj (xs:=us.map V.ref) (λi σ' H'=>(∃ v1 v2 v3,σ'=[some<|.ref R,some<|.ref p]++[v1,v2,v3])/\H'=upd H1 D (Ls<|dq ps<|ls.take i)) ⟨⟨_,_,_,rfl⟩,rfl⟩ ?_ ?_ ?_
 ·rintro i σ' H' _ ⟨_,rfl⟩;exact aq.of<|by rw [av Gu];exact eL
 ·rintro i x σ' H' hx ⟨⟨v1,v2,v3,rfl⟩,rfl⟩;rw [Ah,Aw] at hx;obtain⟨u,eI,rfl⟩:=hx;have hi:i < ls.length:=by
   have:=(Ac.mp eI).1;omega
  have qU:ls[i]?=some ls[i]:=Ab hi;have uZ:=gW.2 i u _ eI qU;have jA:ls.take (i+1)=ls.take i++[ls[i]]:=by rw [Cg,qU];rfl
  rw [jA,k5n];generalize ls[i]=lx at uZ;obtain⟨ti,on,ot⟩:=lx;have IG:(upd H1 D<|Ls<|dq ps<|ls.take i) u=some (.tup [.str ti,.str on,.str ot]):=by rw [av<|bg uZ hD];exact uZ
  have gJ:(upd H1 D<|Ls<|dq ps<|ls.take i) p=some (Ls ps):=by rw [av Hx];exact s1 _ _ hp
  intro cl C' s₀ H₀ ex;refine k7n rfl (aJ.of IG) (bf 2 IE<|bf 3 IE<|bf 4 IE ?_);intro cl C' s₀ H₀ ex;refine lK<|cb sK<|kA mU<|ae 3<|ae 1 ⟨p,_,rfl,.inl<|aq.of gJ,rfl,nq _,?_⟩;refine kA mU<|ae 4<|ae 1 ⟨p,_,rfl,.inl<|aq.of gJ,rfl,nq _,rfl,_,rfl,?_⟩;have fF:∀(x y:Bool),(if false=true then x else y)=y:=λ_ _=>rfl;rw [fF,fF,nn,nn,yG,yG,wA];show if vy ps (ti,on,ot)=true then _ else _;have iX:=Bs (Ra ps<|ls.take i) (show(ls.take i).length<=ls.length by rw [Bf];omega)
  by_cases hc:vy ps (ti,on,ot)=true
  ·rw [BP hc];intro cl C' s₀ H₀ ex;refine ae 2 ⟨_,aw,by rw [Aa];exact bS (by omega),⟨_,_,_,rfl⟩,?_⟩;rw [oe,BP hc];exact tR
  ·rw [BL hc];refine⟨⟨_,_,_,rfl⟩,?_⟩;rw [BL hc,Bi]
 ·rintro σ' H' ⟨_,rfl⟩;rw [Aa,uW,Bu];have iX:=Ra ps ls;exact q D _ _ (s1.trans<|aS hD _) (g6 s1 hD) aw (q0c fc) (q1k hT qj)<|by omega
def km(ss:List Str)(r:Str×List Str):Bool:=(r.2.filter λz=>ss.contains z).length % 2 == 0
def yH:Sp:=λvs H Q _=>∃(R a:Addr) (as:List<|Addr×Addr) (n:Net) (ss:List Str),vs=[.ref R,.ref a]/\ai H R as n/\n.length<=60/\(ag n).length<=1000/\H a=some (Ls ss) /\
 ∀(L:Addr) (zs:List Str) (H':Hp),aj H H'->H L=none->H' L=some (Ls zs)->zs.Perm ((n.filter λr=>!km ss r).map (·.1))->Q (.ref L) H'
abbrev NR:List Str:=["rows","some"]
abbrev IH:List Str:=["rows","some","point","ties"]
abbrev Rc:List Str:=["rows","some","point","ties","tie"]
theorem q6m:ak NR ["rows","some"] (a8 gX):=⟨rfl,rfl,rfl,by decide +kernel,rfl,by decide +kernel,by decide +kernel⟩
theorem vA:IH.Nodup:=by decide +kernel
theorem q9g:Rc.Nodup:=by decide +kernel
def q9b:Scope:=match jK gX with
 | [.Return (some<|.Call _ [.ListComp _ _ sc _] _ _) _]=>sc
 | _=>a8 gX
def II:Scope:=relabel q9b<|PyProof.Rows.envOfC "odd_points" (a8 gX) 0 0 .none
theorem q6e{f:Addr}{fd:FuncData}(F:bE K "odd_points" "odd_points" gX f fd)(T:Txt mg):aI P w K mg base bB 1 f fd ["rows","some"] yH:=by
 refine F.gb q6m (λvs H Q E h=>?_) λb0 H vs Q E hr h=>?_
 ·obtain⟨R,a,as,n,ss,rfl,_⟩:=h;rfl
 obtain⟨R,a,as,n,ss,rfl,hR,hn,ht,ha,q⟩:=h;have bY:=hR.len;show Run _ _ _ [some<|.ref R,some<|.ref a] H;refine bO<|bW tL T.sorted DR<|ah<|gR (a8 gX) NR IH 2 (gA bt)<|ae 0 ⟨R,rfl,⟨_,aq.of hR.lst⟩,λD hD=>?_⟩;refine nj (xs:=as.map λa=>V.ref a.1) (λi σ' H'=>(∃ v1 v2,σ'=[some<|.ref R,some<|.ref a]++[v1,v2])/\H' D=some (.lst<|((n.take i).filter λr=>!km ss r).map λr=>V.str r.1)/\aj H H') ⟨⟨none,none,rfl⟩,aw,aS hD _⟩ ?_ ?_ ?_
 ·rintro i σ' H' _ ⟨_,_,sm⟩;exact aq.of<|sm _ _ hR.lst
 ·rintro i x σ' H' hx ⟨⟨v1,v2,rfl⟩,eD,sm⟩;have hi:i < n.length:=by
   have:=(Ac.mp hx).1;rw [Aa] at this;omega
  obtain⟨b,eb,dj,et,el,er⟩:=(hR.same sm).at hi;rw [Ah,eb] at hx;cases hx;have fq:(row n i).length<=1000:=Bs (iq n i) ht;have pP:n.take (i+1)=n.take i++[n[i]]:=by rw [Cg,Ab hi];rfl
  intro cl C' s₀ H₀ ex;refine iA rfl (aJ.of et) (bf 2 vA<|bf 3 vA ?_);intro cl C' s₀ H₀ ex;refine lK<|cb gN<|aZ cG<|bW cX T.len DK<|ah<|gR II IH Rc 1 (gA bt)<|ae 3 ⟨b.2,rfl,⟨_,aq.of el⟩,λD2 mI=>?_⟩;refine tU (σ:=[some<|.ref R,some<|.ref a,some<|.str n[i].1,some<|.ref b.2]) (λz=>ss.contains z) (bS<|by omega) el mI (λcl C s₀ H₀ ex v v0 H' R' h=>bf 4 q9g h) (λcl C s₀ H₀ ex z ys T' h=>?_) (λcl C s₀ H₀ ex z H' R' h=>ae 4 h) ?_
  ·refine lK (cb mU<|ae 4<|ae 1 ⟨a,_,rfl,.inl (aq.of<|by rw [av<|bg (sm _ _ ha) mI];exact sm _ _ ha),rfl,nq _,_,rfl,?_⟩);show T' (qH (.str z)<|ss.map V.str) _;rw [nn];exact h
  ·have nDD:D≠D2:=bg eD mI;have s2:=aS mI<|.lst<|((row n i).filter λz=>ss.contains z).map V.str;refine ay ⟨D2,_,rfl,.inl<|aq.of aw,aC ⟨_,_,rfl,rfl,(by show(0:Int) < 2;decide),aC ⟨rfl,_,rfl,?_⟩⟩⟩;have ek:decide (V.int ((((((row n i).filter λz=>ss.contains z).map V.str).length:Nat):Int) % 2)=V.int 1) = !km ss n[i]:=by
    unfold km;rw [Aa,er]
    by_cases hc:(n[i].2.filter λz=>ss.contains z).length % 2=0
    ·rw [BR (λh=>by have:=V.int.inj h;omega),beq_iff_eq.mpr hc];rfl
    ·rw [BW (BZ V.int<|by omega),beq_eq_false_iff_ne.mpr hc];rfl
   show if decide (V.int ((((((row n i).filter λz=>ss.contains z).map V.str).length:Nat):Int) % 2)=V.int 1)=true then _ else _;rw [ek];refine jM (λc=>?_) λc=>?_
   ·intro cl C' s₀ H₀ ex;refine ae 2 ⟨_,s2 _ _ eD,?_,⟨_,_,rfl⟩,?_,dN (sm.trans s2) hD⟩
    ·rw [Aa];refine bS<|Bs (Ct ..) ?_;rw [Bf];omega
    ·rw [aw,pP,Cn,Aj];have:[n[i]].filter (λr=>!km ss r)=[n[i]]:=by rw [RQ<|by simpa using c];rfl
     rw [this];rfl
   ·refine⟨⟨_,_,rfl⟩,?_,sm.trans s2⟩;rw [pP,Cn];have:[n[i]].filter (λr=>!km ss r)=[]:=by rw [List.filter_cons_of_neg<|by simpa using c];rfl
    rw [this,Bi];exact s2 _ _ eD
 ·rintro σ' H' ⟨_,eD,sm⟩;rw [Aa,bY,Bu] at eD;have e2:((n.filter λr=>!km ss r).map λr=>V.str r.1)=(((n.filter λr=>!km ss r).map (·.1)).map V.str):=by rw [Ca];rfl
  rw [e2] at eD;refine ay ⟨D,_,rfl,aq.of eD,?_,λl zs hl hp _=>?_⟩
  ·rw [Aa];exact QD (Ct ..)<|by omega
  ·exact q l zs _ (sm.trans<|aS hl _) (g6 sm hl) aw hp
theorem q1a:ak ["one","other"] ["one","other"] (a8 C2):=⟨rfl,rfl,rfl,by decide +kernel,rfl,by decide +kernel,by decide +kernel⟩
theorem k6q{f:Addr}{fd:FuncData}(F:bE K "summed" "summed" C2 f fd)(T:Txt mg):aI P w K mg base bB 1 f fd ["one","other"] yF:=by
 refine F.gb q1a (λvs H Q E h=>?_) λb0 H vs Q E hr h=>?_
 ·obtain⟨a,b,xs,ys,rfl,_⟩:=h;rfl
 obtain⟨a,b,xs,ys,rfl,ha,hb,hl,q⟩:=h;show Run _ _ _ [some<|.ref a,some<|.ref b] H;refine bO (bW (Xz rfl) T.sorted DR<|ah<|aZ Xy<|lG (MR rfl) T.py MJ<|ah<|ae 0<|ay ⟨a,xs,rfl,aq.of ha,by omega,λc hc=>?_⟩);have h1:=aS hc<|bA P w c<|made xs;refine lG (MR rfl) T.py MJ (ah<|ae 1<|ay ⟨b,ys,rfl,aq.of<|h1 _ _ hb,by omega,λd hd=>?_⟩);have h2:=aS hd<|bA P w d<|made ys;have l1:=B0 xs;have l2:=B0 ys;refine⟨c,d,made xs,made ys,rfl,rfl,h2 _ _ aw,aw,by omega,by omega,λe zc he hn hm=>?_⟩;have h3:=aS he<|bA P w e zc;have Rf:∀ z,z∈zc↔(if z∈xs then z∉ys else z∈ys):=λz=>by
  rw [hm z];simp only [W']
 have hlen:zc.length<=(xs++ys).length:=aX hn λz hz=>by
  have:=(Rf z).mp hz;rw [Am]
  by_cases c:z∈xs
  ·exact .inl c
  ·rw [BL c] at this;exact .inr this
 rw [Af] at hlen;refine ay ⟨e,zc,rfl,aw,by omega,λl ss hl hp hs=>?_⟩;have h4:=aS hl<|Ls ss;exact q l ss _ (h1.trans<|h2.trans<|h3.trans h4) (h1.free<|h2.free<|h3.free hl) aw hs (hp.nodup_iff.mpr hn) λz=>by
  rw [hp.mem_iff];exact Rf z
abbrev Rg:List Str:=["rows"]
abbrev vB:List Str:=["rows","point","ties"]
theorem IJ:ak Rg ["rows"] (a8 xu):=⟨rfl,rfl,rfl,by decide +kernel,rfl,by decide +kernel,by decide +kernel⟩
theorem Rh:vB.Nodup:=by decide +kernel
theorem q8w{f:Addr}{fd:FuncData}(F:bE K "points_of" "points_of" xu f fd)(T:Txt mg):aI P w K mg base bB 1 f fd ["rows"] IB:=by
 refine F.gb IJ (λvs H Q E h=>?_) λb0 H vs Q E hr h=>?_
 ·obtain⟨R,as,n,rfl,_⟩:=h;rfl
 obtain⟨R,as,n,rfl,hR,hn,q⟩:=h;have bY:=hR.len;show Run _ _ _ [some<|.ref R] H;refine bO<|gR (a8 xu) Rg vB 2 (gA bt)<|ae 0 ⟨R,rfl,⟨_,aq.of hR.lst⟩,λD hD=>?_⟩;refine nj (xs:=as.map λa=>V.ref a.1) (λi σ' H'=>(∃ v1 v2,σ'=[some<|.ref R]++[v1,v2])/\H' D=some (Ls ((n.take i).map (·.1)))/\aj H H') ⟨⟨none,none,rfl⟩,aw,aS hD _⟩ ?_ ?_ ?_
 ·rintro i σ' H' _ ⟨_,_,sm⟩;exact aq.of<|sm _ _ hR.lst
 ·rintro i x σ' H' hx ⟨⟨v1,v2,rfl⟩,eD,sm⟩;have hi:i < n.length:=by
   have:=(Ac.mp hx).1;rw [Aa] at this;omega
  obtain⟨b,eb,dj,et,el,er⟩:=(hR.same sm).at hi;rw [Ah,eb] at hx;cases hx;intro cl C' s₀ H₀ ex;refine iA rfl (aJ.of et) (bf 1 Rh<|bf 2 Rh ?_);intro cl C' s₀ H₀ ex;refine jm<|cM ?_;intro cl C' s₀ H₀ ex;refine ae 1 ⟨_,eD,?_,⟨_,_,rfl⟩,?_,dN sm hD⟩
  ·rw [Aa,Aa,Bf];exact bS<|by omega
  ·rw [aw,Cg,Ab hi,Aj];show _=some (HO.lst<|List.map V.str<|_++_);rw [Aj];rfl
 ·rintro σ' H' ⟨_,eD,sm⟩;rw [Aa,bY,Bu] at eD;exact q D H' sm hD eD
end
end E5
namespace E5
open PySem L2 Nt bN
open PyProof.Rows (sortedS)
def IL:Sp:=λvs H Q _=>∃(R W:Addr) (as:List<|Addr×Addr) (n:Net) (ts:List Addr) (es:List Nt.End),vs=[.ref R,.ref W]/\ai H R as n/\(n.map (·.1)).Nodup/\n.length<=1000/\(ag n).length<=1000/\H W=some (.lst<|ts.map V.ref)/\dR n H ts es/\(∀ e∈es,e∈ends n)/\es.length<=1000/\(∀ l:List Str,l.Nodup->(∀ z∈l,z∈es.map (aE n))->l.length < 64) /\
 ∀(l:Addr) (ss:List Str) (H':Hp),aj H H'->H l=none->H' l=some (Ls ss)->cj ss->(∀ z,z∈ss↔(es.map<|aE n).count z=1)->Q (.ref l) H'
theorem Ri(L:List Str):(L.filter λz=>decide (L.count z=1)).Nodup:=by
 rw [Fk];intro z
 by_cases h:L.count z=1
 ·rw [List.count_filter<|by simpa using h];omega
 ·rw [Cw]
  ·omega
  ·intro hm;exact h<|BX (Bh.mp hm).2
theorem k9c(L:List Str)(z:Str):z∈(L.filter λz=>decide (L.count z=1))↔L.count z=1:=by
 rw [Bh,CK];exact⟨λh=>h.2,λh=>⟨Cq.mp (by omega),h⟩⟩
section
variable{P:Program}{w:World}{K:PySem.W.Frag}{mg:Str->Option Value}{base:Heap}
abbrev IM:List Str:=["rows","walker","names","gone"]
abbrev vC:List Str:=["rows","walker","names","gone","end"]
abbrev vD:List Str:=["rows","walker","names","gone","tie"]
theorem vE:ak IM ["rows","walker"] (a8 tP):=⟨rfl,rfl,rfl,by decide +kernel,rfl,by decide +kernel,by decide +kernel⟩
theorem q8s:vC.Nodup:=by decide +kernel
theorem q8j:vD.Nodup:=by decide +kernel
theorem q5e{f:Addr}{fd:FuncData}(F:bE K "core_of" "core_of" tP f fd)(T:Txt mg)
  (GT:aO P w K mg base 2 "ties_by_end" ["rows"] mF):aI P w K mg base bB 3 f fd ["rows","walker"] IL:=by
 refine F.gb vE (λvs H Q E h=>?_) λb0 H vs Q E hr h=>?_
 ·obtain⟨R,W,as,n,ts,es,rfl,_⟩:=h;rfl
 obtain⟨R,W,as,n,ts,es,rfl,hR,hN,hn,dw,hW,hE,tY,hle,vF,q⟩:=h;have nd:=vE.nd;have eI:=hr.u1;have hl:=hE.1;show Run _ _ _ [some<|.ref R,some<|.ref W,none,none] H;refine aW 2 nd<|bn GT hr<|ah<|ae 0<|ay ⟨R,as,n,rfl,hR,hN,hn,dw,λd kvs H1 s1 EH ed oY=>?_⟩;show Run _ _ _ [some<|.ref R,some<|.ref W,some<|.ref d,none] H1;have Rj:=s1 _ _ hW;have hE1:=hE.same s1;refine aW 3 nd<|gR (a8 tP) IM vC 1 (gA bt)<|ae 1 ⟨W,rfl,⟨_,aq.of Rj⟩,λD hD=>?_⟩;refine nj (xs:=ts.map V.ref) (λi σ' H'=>(∃ v,σ'=[some<|.ref R,some<|.ref W,some<|.ref d,none]++[v])/\aj H1 H'/\H' D=some (Ls<|(es.take i).map<|aE n)) ⟨⟨none,rfl⟩,aS hD _,aw⟩ ?_ ?_ ?_
 ·rintro i σ' H' _ ⟨_,sm,_⟩;exact aq.of<|sm _ _ Rj
 ·rintro i x σ' H' hx ⟨⟨v,rfl⟩,sm,eD⟩;rw [Ah,Aw] at hx;obtain⟨t,ht,rfl⟩:=hx;have hi:i < es.length:=by have:=(Ac.mp ht).1;omega
  have he:es[i]?=some es[i]:=Ab hi;have pP:es.take (i+1)=es.take i++[es[i]]:=by rw [Cg,he];rfl
  generalize rR:es[i]=e at he pP;have nR:=sm _ _<|hE1.2 i t e ht he;have xN:=tY e<|Ap he;obtain⟨z,hz⟩:=af.mp xN;have mw:aE n e=z:=fk hz;intro cl C s₀ H₀ ex;refine bf 4 q8s ?_;intro cl C s₀ H₀ ex;refine jm ?_;rw [BP rfl];intro cl C s₀ H₀ ex;refine f7 eI<|ae 2<|ae 4 ⟨d,.str z,rfl,(by rw [<- oY e z hz];exact aV.t (k:=key n e) (sm _ _ ed) nR),_,eD,?_,⟨_,rfl⟩,dN sm hD,?_⟩
  ·rw [Aa,Aa,Bf];exact bS<|by omega
  ·rw [aw,pP,Aj];show some (HO.lst<|((es.take i).map<|aE n).map V.str++[V.str z])=some (HO.lst<|((es.take i).map (aE n)++[aE n e]).map V.str);rw [Aj];show some (HO.lst<|((es.take i).map<|aE n).map V.str++[V.str z])=some (HO.lst<|((es.take i).map<|aE n).map V.str++[V.str<|aE n e]);rw [mw]
 rintro σ' H' ⟨_,sm,eD⟩;have IP:es.take (ts.map V.ref).length=es:=Cp (by rw [Aa];omega);rw [IP] at eD;show Run _ _ _ [some<|.ref R,some<|.ref W,some<|.ref d,some<|.ref D] H';generalize hLL:es.map (aE n)=L at eD vF q;have yl:L.length<=1000:=by rw [<- hLL,Aa];exact hle
 refine bO<|bW tL T.sorted DR<|ah<|gR (a8 tP) IM vD 1 (gA bt)<|ae 3 ⟨D,rfl,⟨_,aq.of eD⟩,λD3 rW=>?_⟩;have n3:D≠D3:=bg eD rW;refine tU (λz=>decide (L.count z=1)) (bS<|by omega) eD rW (λcl C s0 H0 ex v v0 H' R' h=>bf 4 q8j h) (λcl C s0 H0 ex z zs T' h=>lK<|cb gN<|CD DY PySem.F.slot_list_count PySem.F.type_list_count q0w<|ae 3 (v:= .ref D) ⟨Or.inl ⟨rfl,_,aq.of<|by rw [av n3];exact eD⟩,ae 4 ⟨D,L,z,rfl,rfl,aq.of (by rw [av n3];exact eD),aC ⟨rfl,_,rfl,?_⟩⟩⟩) (λcl C s0 H0 ex z H' R' h=>ae 4 h) ?_
 ·have ek:decide (V.int (L.count z:Int)=V.int 1)=decide (L.count z=1):=decide_eq_decide.mpr ⟨λk=>by have:=V.int.inj k;omega,λk=>by rw [k];rfl⟩;show T' (decide (V.int (L.count z:Int)=V.int 1)) _;rw [ek];exact h
 refine ay ⟨D3,_,rfl,aq.of aw,vF _ (Ri L) λz hz=>(Bh.mp hz).1,λl ss fN iY fc=>?_⟩;have s3:=s1.trans<|sm.trans<|aS rW<|Ls<|L.filter λz=>decide (L.count z=1);exact q l ss _ (s3.trans<|aS fN _) (s3.free fN) aw (rF fc<|iY.nodup_iff.mpr<|Ri L) λz=>by rw [iY.mem_iff];exact k9c L z
end
end E5
namespace L2
open PySem PySem.Spec PyProof.Rows bN
section
variable{X:Cx}
end
end L2
namespace L2
open PySem PySem.Spec PyProof.Rows
section
variable{X:Cx}{σ:St}{H:Hp}{D:Ends}{body rest:List Stmt}{a b:Expr}
end
end L2
namespace bM
open PySem SetTable
section
variable{t:SetTable}{es:Array (Int×Value)}{Z:List Ze}
end
section
variable{prog:Program}{w:World}{K:Type} [DecidableEq K]
variable{A:Around}{E:Value->Shared->Prop}{s:Shared}{a b:Addr}{knd:HeapKind prog w K}{k:K}{Y:List (Nat×K×Addr)}
end
section
variable{prog:Program}{w:World}{K:Type} [DecidableEq K] {knd:KeyKind prog w K}
end
end bM
namespace L2
open PySem PySem.Spec PyProof.Rows bM Classical
section
variable{prog:Program}{w:World}{A:Around}{E:Value->Shared->Prop}{s:Shared}{a b:Addr}{Y:List Yt}{k:List Key}
end
section
variable{X:Cx}{σ:St}{H:Hp}{Q:VK}{pins:List (Addr×Obj)}{s:Shared}{a b:Addr}{Y:List Yt}
end
end L2
namespace L2
open PySem PySem.Spec PyProof.Rows
section
variable{X:Cx}{σ:St}{H:Hp}{Q:VK}
end
section
variable{X:Cx}{elt tg:Expr}{ifs:List Expr}{scope:Scope}{σ:St}{H:Hp}{N':List Str}{A a:Addr}{xs:List V}{after:Hp->Prop}
end
end L2
namespace E5
open PySem L2 Nt bN bM
open PyProof.Rows (sortedS)
open Classical
def vG(H:Hp)(L:Addr)(us:List Addr)(cs:List<|List Str):Prop:=H L=some (.lst<|us.map V.ref)/\us.length=cs.length/\∀(i:Nat) u c,us[i]?=some u->cs[i]?=some c->H u=some (Ls c)
def IQ:Sp:=λvs H Q _=>∃(R:Addr) (as:List<|Addr×Addr) (n:Net),vs=[.ref R]/\ai H R as n/\(n.map (·.1)).Nodup/\ax n/\n.length<=60/\(ag n).length<=60 /\
 ∀(L:Addr) (us:List Addr) (cs:List<|List Str) (H':Hp),aj H H'->H L=none->vG H' L us cs->di n cs->(∀ u∈us,H u=none)->Q (.ref L) H'
structure mN(n:Net)(H:Hp)(D:Addr)(us:List Addr)(cs:List<|List Str)(i:Nat):Prop where
 lst:H D=some (.lst<|us.map V.ref)
 lu:us.length=i
 lc:cs.length=i
 at':∀(j:Nat) u c,us[j]?=some u->cs[j]?=some c->H u=some (Ls c)/\u≠D
 mem:∀(j:Nat) c w,cs[j]?=some c->(bh n)[j]?=some w->∀ z,z∈c↔(w.map<|aE n).count z=1
 nK:∀ c∈cs,cj c
theorem mN.step{n:Net}{H H2:Hp}{D k:Addr}{us:List Addr}{cs:List (List Str)}{i:Nat}{ks:List Str}{es:List Nt.End}(I:mN n H D us cs i)(s2:aj H H2)(nk:H k=none)(e2:H2 k=some (Ls ks))(so:cj ks)(hw:(bh n)[i]?=some es)(m2:∀ z,z∈ks↔(es.map<|aE n).count z=1):mN n (upd H2 D<|.lst<|us.map V.ref++[.ref k]) D (us++[k]) (cs++[ks]) (i+1):=by
 have lu:=I.lu;have lc:=I.lc;have vH:k≠D:=λe=>by rw [e,I.lst] at nk;cases nk
 have zero:∀{α:Type} {l:List α} {a b:α} {j:Nat},¬ j < l.length->(l++[a])[j]?=some b->j=l.length/\a=b:=λ{α l a b j} h e=>by
  rw [Az<|by omega] at e;have hj:j - l.length=0:=by have:=(Ac.mp e).1;simp at this;omega
  rw [hj] at e;exact⟨by omega,by cases e;rfl⟩
 refine⟨by rw [aw,Aj];rfl,by rw [Af,lu];rfl,by rw [Af,lc];rfl,λj u c h1 h2=>?_,λj c w h1 h2=>?_,λc hc=>?_⟩
 ·by_cases hj:j < us.length
  ·rw [As hj] at h1;rw [As<|by omega] at h2;obtain⟨q1,q2⟩:=I.at' j u c h1 h2;exact⟨by rw [av q2];exact s2 _ _ q1,q2⟩
  ·obtain⟨_,rfl⟩:=zero hj h1;obtain⟨_,rfl⟩:=zero (by omega) h2;exact⟨by rw [av vH];exact e2,vH⟩
 ·by_cases hj:j < cs.length
  ·rw [As hj] at h1;exact I.mem j c w h1 h2
  ·obtain⟨ej,rfl⟩:=zero hj h1;rw [ej,lc,hw] at h2;cases h2;exact m2
 ·rcases Am.mp hc with h | h
  ·exact I.nK c h
  ·rw [Ad.mp h];exact so
theorem mN.start{n:Net}{H:Hp}{D:Addr}(h:H D=some (.lst [])):mN n H D [] [] 0:=⟨h,rfl,rfl,λj u c h=>by simp at h,λj c w h=>by simp at h,λc h=>by cases h⟩
theorem mN.whole{n:Net}{H:Hp}{D:Addr}{us:List Addr}{cs:List (List Str)}(I:mN n H D us cs (bh n).length):vG H D us cs/\di n cs:=⟨⟨I.lst,I.lu.trans I.lc.symm,λi u c a b=>(I.at' i u c a b).1⟩,I.lc,I.mem,I.nK⟩
theorem q87{n:Net}{es:List Nt.End}(h:∀ e∈es,e∈ends n):∀ z∈es.map (aE n),z∈ag n:=λz hz=>by
 obtain⟨e,he,rfl⟩:=An.mp hz;obtain⟨y,hy⟩:=af.mp<|h e he;rw [fk hy];exact dZ hy
section
variable{P:Program}{w:World}{K:PySem.W.Frag}{mg:Str->Option Value}{base:Heap}
abbrev Rk:List Str:=["rows"]
abbrev vI:List Str:=["rows","walker"]
theorem vJ:ak Rk ["rows"] (a8 xx):=⟨rfl,rfl,rfl,by decide +kernel,rfl,by decide +kernel,by decide +kernel⟩
theorem q8h:vI.Nodup:=by decide +kernel
theorem q0g{f:Addr}{fd:FuncData}(F:bE K "cores_of" "cores_of" xx f fd)(T:Txt mg)(GW:aO P w K mg base 4 "walkers_of" ["rows"] Hg)(GC:aO P w K mg base 4 "core_of" ["rows","walker"] IL):aI P w K mg base bB 5 f fd ["rows"] IQ:=by
 refine F.gb vJ (λvs H Q E h=>?_) λb0 H vs Q E hr h=>?_
 ·obtain⟨R,as,n,rfl,_⟩:=h;rfl
 obtain⟨R,as,n,rfl,hR,hN,hT,hn,dw,q⟩:=h;have nd:=vJ.nd;have rJ:=jt n;show Run _ _ _ [some<|.ref R] H;refine bO (gR (a8 xx) Rk vI 1 (gA bt)<|bn GW hr<|ah<|ae 0<|ay ⟨R,as,n,rfl,hR,hN,hT,by omega,by omega,λW ls H1 s1 n1 hW fW=>⟨W,rfl,⟨_,aq.of hW.lst⟩,λD hD=>?_⟩⟩);have wl:(bh n).length<=(ends n).length:=xP n (ends n) [];have ql:=nA hT (ends n) [] λe he=>he;have Rl:ls.length=(bh n).length:=hW.len;refine nj (xs:=ls.map V.ref) (λi σ' H'=>(∃ v,σ'=[some<|.ref R]++[v])/\aj H1 H'/\∃ us cs,mN n H' D us cs i/\∀ u∈us,H u=none) ⟨⟨none,rfl⟩,aS hD _,[],[],mN.start aw,λu h=>(by cases h)⟩ ?_ ?_ ?_
 ·rintro i σ' H' _ ⟨_,sm,_⟩;exact aq.of<|sm _ _ hW.lst
 ·rintro i x σ' H' hx ⟨⟨v,rfl⟩,sm,us,cs,I,fu⟩;rw [Ah,Aw] at hx;obtain⟨l,hl,rfl⟩:=hx;have jo:i < (bh n).length:=by have:=(Ac.mp hl).1;rw [<- Rl];exact this
  have jD:=Ab jo;obtain⟨ts,el,hE⟩:=(hW.same sm).at' i l _ hl jD;have wk:=ql _<|Ap jD;generalize (bh n)[i]=es at jD hE wk;have few:=wk.few;have lu:=I.lu;intro cl C s₀ H₀ ex;refine bf 1 q8h ?_;intro cl C s₀ H₀ ex;refine jm<|cM ?_;intro cl C s₀ H₀ ex;refine bn GC hr<|ah<|ae 0<|ah<|ae 1<|ay ⟨R,l,as,n,ts,es,rfl,hR.same<|s1.trans sm,hN,by omega,by omega,el,hE,wk.ends,by omega,λl hn hm=>?_,λk ks H2 s2 n2 e2 so2 m2=>?_⟩
  ·have:=aX hn λz hz=>q87 wk.ends z<|hm z hz;omega
  exact⟨_,s2 _ _ I.lst,by rw [Aa];exact bS (by omega),⟨_,rfl⟩,dN (sm.trans s2) hD,_,_,I.step s2 n2 e2 so2 jD m2,λu hu=>(Am.mp hu).elim (fu u) λh=>by rw [Ad.mp h];exact(s1.trans sm).free n2⟩
 ·rintro σ' H' ⟨_,sm,us,cs,I,fu⟩;rw [Aa,Rl] at I;exact q D us cs H' (s1.trans sm) (s1.free hD) I.whole.1 I.whole.2 fu
open PyProof.Rows (sortedS)
open Classical
structure gy(H:Hp)(S:Addr)(us:List<|Addr×Addr×Addr)(st:cR):Prop where
 lst:H S=some (.lst<|us.map λu=>V.ref u.1)
 len:us.length=st.length
 at':∀(i:Nat) u s,us[i]?=some u->st[i]?=some s->H u.1=some (.tup [.ref u.2.1,.ref u.2.2])/\H u.2.1=some (Ls s.1)/\H u.2.2=some (Ls s.2)
theorem gy.same{H H':Hp}{S:Addr}{us:List (Addr×Addr×Addr)}{st:cR}(h:gy H S us st)(s:aj H H'):gy H' S us st:=⟨s _ _ h.lst,h.len,λi u x a b=>let q:=h.at' i u x a b;⟨s _ _ q.1,s _ _ q.2.1,s _ _ q.2.2⟩⟩
theorem q4b(ss:List Str):(λr:Str×List Str=>!km ss r)=cz λz=>decide (z∈ss):=by
 funext r
 unfold km cz;rw [ud];have c:(r.2.filter λz=>ss.contains z)=r.2.filter λz=>decide (z∈ss):=by
  congr 1
  funext z
  rw [Cm,CK];exact Ck
 rw [c];generalize (r.2.filter λz=>decide (z∈ss)).length=k
 rcases QK k with h | h <;> rw [h] <;> rfl
theorem Rm{n:Net}{ss os:List Str}(h:os.Perm ((n.filter λr=>!km ss r).map (·.1))):cQ n (λz=>decide (z∈ss)) os:=by
 rw [q4b] at h;exact h
theorem sub_len{n:Net}{l:List Str}(hn:n.length<=31)(h1:l.Nodup)(h2:∀ x∈l,x∈cm n):l.length<=31:=by
 have:=aX h1 h2;rw [Aa] at this;omega
def IT:Sp:=λvs H Q _=>∃(S p o:Addr) (us:List<|Addr×Addr×Addr) (n:Net) (st:cR) (ps os:List Str),vs=[.ref S,.ref p,.ref o]/\gy H S us st/\Iw n st/\n.length<=31/\H p=some (Ls ps)/\H o=some (Ls os)/\gx n [] ps os ps os /\
 ∀(L p' o':Addr) (cC bV:List Str) (H':Hp),aj H H'->H L=none->H' L=some (.tup [.ref p',.ref o'])->H' p'=some (Ls cC)->H' o'=some (Ls bV)->(p'=p\/H p'=none)->(o'=o\/H o'=none)->gx n st ps os cC bV->Q (.ref L) H'
noncomputable def qm:Sp:=λvs H Q _=>∃(R o:Addr) (as:List<|Addr×Addr) (n:Net) (os:List Str) (s:Str->Bool),vs=[.ref R,.ref o]/\ai H R as n/\(cm n).Nodup/\ax n/\n.length<=31/\(ag n).length<=60/\H o=some (Ls os)/\cQ n s os/\mK n s /\
 ∀(L:Addr) (ps:List Str) (H':Hp),aj H H'->H' L=some (Ls ps)->(∀ r∈n,cn n ps r=cz s r)->Q (.ref L) H'
def yI:Sp:=λvs H Q _=>∃(R p:Addr) (as:List<|Addr×Addr) (n:Net) (ss:List Str),vs=[.ref R,.ref p]/\ai H R as n/\(cm n).Nodup/\ax n/\HF n/\n.length<=31/\(ag n).length<=60/\H p=some (Ls ss)/\ss.Nodup/\(∀ z∈ss,z∈ag n) /\
 (∀(t L:Addr) (c:List Str) (H':Hp),aj H H'->H t=none->H L=none->H' t=some (.tup [.str "odd",.ref L])->H' L=some (Ls c)->(∃ cs,di n cs/\c∈cs)->(c.filter λz=>ss.contains z).length % 2=1->Q (.ref t) H') /\
 (∀(t L M:Addr) (rs cs ps:List Str) (H':Hp),aj H H'->H t=none->H L=none->H M=none->L≠M->H' t=some (.tup [.str "parts",.ref L,.ref M])->H' L=some (Ls rs)->H' M=some (Ls cs)->IA n ss->cj rs->cj cs->fm n rs=true->(∀ z,z∈cs↔dv n ps z)->kj ss cs rs->Q (.ref t) H')
theorem q01{n:Net}(T:ax n)(hf:HF n){ss:List Str}(h:IA n ss):mK n λz=>decide (z∈ss):=by
 obtain⟨cs,C,he⟩:=h;refine q3t T hf C λc hc=>?_;have:=he c hc;rw [ud];have e:(c.filter λz=>ss.contains z)=c.filter λz=>decide (z∈ss):=by
  congr 1
  funext z
  rw [Cm,CK];exact Ck
 rw [e] at this;exact BR<|by omega
abbrev NLo:List Str:=["steps","points","odds","tried","left"]
theorem vK:ak NLo ["steps","points","odds"] (a8 C4):=⟨rfl,rfl,rfl,by decide +kernel,rfl,by decide +kernel,by decide +kernel⟩
theorem q6u{f:Addr}{fd:FuncData}(F:bE K "lowered" "lowered" C4 f fd)(T:Txt mg)(GM:aO P w K mg base 1 "summed" ["one","other"] yF):aI P w K mg base bB 2 f fd ["steps","points","odds"] IT:=by
 refine F.gb vK (λvs H Q E h=>?_) λb0 H vs Q E hr h=>?_
 ·obtain⟨S,p,o,us,n,st,ps,os,rfl,_⟩:=h;rfl
 obtain⟨S,p,o,us,n,st,ps,os,rfl,hS,I,hn,hp,ho,lw,q⟩:=h;have nd:=vK.nd;have hl:=hS.len;show Run _ _ _ [some<|.ref S,some<|.ref p,some<|.ref o,none,none] H;refine iS<|ae 0 ⟨S,rfl,⟨_,aq.of hS.lst⟩,?_⟩;refine iT (xs:=us.map λu=>V.ref u.1) (λi σ H'=>∃(p1 o1:Addr) (ps1 os1:List Str) (u3 u4:Option V),aj H H'/\H' p1=some (Ls ps1)/\H' o1=some (Ls os1)/\(p1=p\/H p1=none)/\(o1=o\/H o1=none)/\gx n (st.take i) ps os ps1 os1/\σ=[some<|.ref S,some<|.ref p1,some<|.ref o1,u3,u4]) ⟨p,o,ps,os,_,_,aj.refl H,hp,ho,.inl rfl,.inl rfl,lw,rfl⟩ ?_ ?_ ?_
 ·rintro i σ H' _ ⟨_,_,_,_,_,_,sm,_⟩;exact aq.of<|sm _ _ hS.lst
 ·rintro i x σ H1 hx ⟨p1,o1,ps1,os1,u3,u4,sm,e1,e2,f1,f2,lo,rfl⟩;rw [Ah,Aw] at hx;obtain⟨u,hu,rfl⟩:=hx;have hi:i < st.length:=by have:=(Ac.mp hu).1;omega
  have hs:=Ab hi;generalize st[i]=s at hs;have iF:=Ap hs;obtain⟨a1,a2,a3⟩:=(hS.same sm).at' i u s hu hs;obtain⟨y,l',hy⟩:∃ y l',s.2=y :: l':=by
   cases k:s.2 with
   | nil=>exact absurd k<|I.ne s iF
   | cons y l'=>exact⟨y,l',rfl⟩
  have hd:s.2.head?=some y:=by rw [hy];rfl
  have l1:=sub_len hn lo.nd.1 lo.sub.1;have l2:=sub_len hn lo.nd.2 lo.sub.2;have l3:=sub_len hn (I.nd s iF).1 (I.sub s iF).1;have l4:=sub_len hn (I.nd s iF).2 (I.sub s iF).2;refine iA rfl (aJ.of a1) (bf 3 nd<|bf 4 nd ?_);show Run _ _ _ [some<|.ref S,some<|.ref p1,some<|.ref o1,some<|.ref u.2.1,some<|.ref u.2.2] H1;have ha:dD (s.2.map V.str) ((0:Nat):Int)=some (.str y):=pf (by rw [hy];rfl);refine du<|cb mU<|aU cH<|ae 4<|aC ⟨u.2.2,_,_,.str y,rfl,rfl,aq.of a3,ha,ae 2 ⟨o1,_,rfl,.inl<|aq.of e2,rfl,nq _,_,rfl,?_⟩⟩;have fF:∀(x y:Bool),(if false=true then x else y)=y:=λ_ _=>rfl;rw [fF,nn,yG]
  by_cases hb:y∈os1
  ·rw [BW hb];refine cM (aW 1 nd<|bn GM hr<|ah<|ae 1<|ah<|ae 3<|ay ⟨p1,u.2.1,ps1,s.1,rfl,e1,a2,by omega,λm ms H2 s2 n2 em _ ndm mm=>?_⟩);refine aW 2 nd (bn GM hr<|ah<|ae 2<|ah<|ae 4<|ay ⟨o1,u.2.2,os1,s.2,rfl,s2 _ _ e2,s2 _ _ a3,by omega,λk ks H3 s3 n3 ek _ ndk mk=>?_⟩);exact aY<|aY ⟨m,k,ms,ks,_,_,(sm.trans s2).trans s3,s3 _ _ em,ek,.inr<|sm.free n2,.inr<|(sm.trans s2).free n3,lo.step I hs hd hb ndm ndk mm mk,rfl⟩
  ·rw [BR hb];exact bj<|aY<|aY ⟨p1,o1,ps1,os1,_,_,sm,e1,e2,f1,f2,lo.skip hs hd hb,rfl⟩
 ·rintro σ H1 ⟨p1,o1,ps1,os1,u3,u4,sm,e1,e2,f1,f2,lo,rfl⟩;rw [Aa,hl,Bu] at lo;refine bO<|eF<|ah<|ae 1<|ah<|ae 2<|ay ⟨Z2,λt ht=>?_⟩;have sT:=aS ht<|.tup [.ref p1,.ref o1];exact q t p1 o1 ps1 os1 _ (sm.trans sT) (sm.free ht) aw (sT _ _ e1) (sT _ _ e2) f1 f2 lo
theorem q31{n:Net}(T:ax n){ps cs:List Str}(h:∀ z,z∈cs↔dv n ps z):(λz=>decide (z∈cs))=bv n λy=>decide (y∈ps):=by
 funext z
 rw [Iv T,decide_eq_decide.mpr<|h z]
abbrev NPb:List Str:=["rows","odds","steps","point","tried","left"]
theorem vL:ak NPb ["rows","odds"] (a8 C3):=⟨rfl,rfl,rfl,by decide +kernel,rfl,by decide +kernel,by decide +kernel⟩
theorem q85{f:Addr}{fd:FuncData}(F:bE K "points_by" "points_by" C3 f fd)(T:Txt mg)(GP:aO P w K mg base 3 "points_of" ["rows"] IB)(GL:aO P w K mg base 3 "lowered" ["steps","points","odds"] IT)(GO:aO P w K mg base 3 "odd_points" ["rows","some"] yH)(GC:aO P w K mg base 3 "cut_of" ["rows","points"] yE):aI P w K mg base bB 4 f fd ["rows","odds"] qm:=by
 refine F.gb vL (λvs H Q E h=>?_) λb0 H vs Q E hr h=>?_
 ·obtain⟨R,o,as,n,os,s,rfl,_⟩:=h;rfl
 obtain⟨R,o,as,n,os,s,rfl,hR,hN,hT,hn,dw,ho,hO,qW,q⟩:=h;have nd:=vL.nd;show Run _ _ _ [some<|.ref R,some<|.ref o,none,none,none,none] H;refine aW 2 nd<|cY<|ay ⟨Z0,λS hS=>?_⟩;have s0:=aS hS<|.lst [];have IU:(upd H S<|.lst []) S=some (.lst []):=aw;show Run _ _ _ [some<|.ref R,some<|.ref o,some<|.ref S,none,none,none] (upd H S<|.lst []);generalize upd H S (.lst [])=H0 at s0 IU;refine iS (bn GP hr<|ah<|ae 0<|ay ⟨R,as,n,rfl,hR.same s0,by omega,λN H1 s1 n1 eN=>⟨N,rfl,⟨_,aq.of eN⟩,?_⟩⟩);have nNS:N≠S:=λe=>by rw [e,IU] at n1;cases n1
 refine iT (xs:=(cm n).map V.str) (λi σ H'=>∃(us:List<|Addr×Addr×Addr) (st:cR) (u3 u4 u5:Option V),aj H H'/\H' N=some (Ls<|cm n)/\gy H' S us st/\(∀ u∈us,u.2.1≠S/\u.2.2≠S)/\jC n i st/\σ=[some<|.ref R,some<|.ref o,some<|.ref S,u3,u4,u5]) ⟨[],[],_,_,_,s0.trans s1,eN,⟨s1 _ _ IU,rfl,λi u s h=>by simp at h⟩,λu h=>(by cases h),jC.start n,rfl⟩ ?_ ?_ ?_
 ·rintro i σ H' _ ⟨_,_,_,_,_,_,eN,_⟩;exact aq.of eN
 ·rintro i x σ H2 hx ⟨us,st,u3,u4,u5,sm,Rn,rX,fS,I,rfl⟩;rw [Ah,Aw] at hx;obtain⟨x,hx,rfl⟩:=hx;have EF:=Ap hx;have rY:=hR.same sm;have yJ:=rX.lst;refine bf 3 nd ?_;show Run _ _ _ [some<|.ref R,some<|.ref o,some<|.ref S,some<|.str x,u4,u5] H2;refine qM<|bn GL hr<|ah<|ae 2<|ah<|cY<|ah<|ae 3<|ay ⟨Z1,λA hA=>ah<|bn GO hr<|ah<|ae 0<|ah<|bn GC hr<|ah<|ae 0<|ah<|cY<|ah<|ae 3<|ay ⟨Z1,λB hB=>?_⟩⟩;have sA:=aS hA<|.lst [.str x];have sB:=aS hB<|.lst [.str x];have eA:(upd H2 A<|.lst [.str x]) A=some (Ls [x]):=aw;have eB:(upd (upd H2 A<|.lst [.str x]) B<|.lst [.str x]) B=some (Ls [x]):=aw;have eA:=sB _ _ eA;have vM:=sA.trans sB;generalize upd (upd H2 A<|.lst [.str x]) B (.lst [.str x])=H3 at eA eB vM;refine ay ⟨R,B,as,n,[x],rfl,rY.same vM,hT,by omega,dw,eB,λC cs H4 s4 n4 eC soC mC lC=>?_⟩;refine ay ⟨R,C,as,n,cs,rfl,(rY.same vM).same s4,by omega,by omega,eC,λO zs H5 s5 n5 eO pO=>?_⟩;have vN:=Rm pO;rw [q31 hT mC] at vN;have rZ:=s4.trans s5;have vO:=vM.trans rZ;refine ay ⟨S,A,O,us,n,st,[x],zs,rfl,rX.same vO,I.cq,hn,rZ _ _ eA,eO,gx.start (Be.mpr ⟨Cj,Ch⟩) (vN.nd hN) (λy hy=>by rw [Ad.mp hy];exact EF) vN.sub,λL p' o' cC bV H6 s6 n6 eL e1 e2 f1 f2 lo=>?_⟩;have kZ:=vO.trans s6;have Ro:=sm.trans kZ;have IY:=kZ _ _ yJ;have Rp:=vO _ _ yJ;have fp:p'≠S:=by
   rcases f1 with rfl | f1
   ·exact λe=>by rw [e,yJ] at hA;cases hA
   ·exact λe=>by rw [e,Rp] at f1;cases f1
  have fo:o'≠S:=by
   rcases f2 with rfl | f2
   ·exact λe=>by rw [e,s4 _ _<|vM _ _ yJ] at n5;cases n5
   ·exact λe=>by rw [e,Rp] at f2;cases f2
  refine iA rfl (aJ.of eL) (bf 4 nd<|bf 5 nd ?_);show Run _ _ _ [some<|.ref R,some<|.ref o,some<|.ref S,some<|.str x,some<|.ref p',some<|.ref o'] H6;refine du (V7<|ae 5 (v:= .ref o') ⟨!bV.isEmpty,Or.inl ⟨_,aq.of e2,by cases bV <;> rfl⟩,?_⟩);have Rq:=kZ _ _ Rn;have vP:=rX.same kZ;have lI:=I.len;have lN:=(Ac.mp hx).1;rw [Aa] at lN;cases bV with
  | nil=>exact bj<|aY<|aY ⟨us,st,_,_,_,Ro,Rq,vP,fS,I.skip hN hx vN lo,rfl⟩
  | cons y l'=>
   refine cM<|gC<|jr<|ae 2 ⟨S,rfl,⟨_,IY⟩,eF<|ah<|ae 4<|ah<|ae 5<|ay ⟨Z2,λt ht=>?_⟩⟩;have sT:=aS ht<|.tup [.ref p',.ref o'];have eT:(upd H6 t<|.tup [.ref p',.ref o']) t=some (.tup [.ref p',.ref o']):=aw;have tS:t≠S:=λe=>by rw [e,IY] at ht;cases ht
   have hl:=rX.len;generalize upd H6 t (.tup [.ref p',.ref o'])=H7 at sT eT;have vQ:=vP.same sT;refine⟨_,sT _ _ IY,by rw [Aa];exact bS (by omega),aY<|aY ⟨us++[(t,p',o')],st++[(cC,y :: l')],_,_,_,dN (Ro.trans sT) hS,by rw [av nNS];exact sT _ _ Rq,⟨?_,by rw [Af,Af,hl];rfl,λj u s hu hs=>?_⟩,λu hu=>?_,I.step hN hx vN lo (λe=>by cases e),rfl⟩⟩
   ·rw [aw,Aj];rfl
   ·by_cases hj:j < us.length
    ·rw [As hj] at hu;rw [As<|by omega] at hs;obtain⟨b1,b2,b3⟩:=vQ.at' j u s hu hs;obtain⟨g1,g2⟩:=fS u<|Ap hu;exact⟨by rw [av<|ce b1 vQ.lst λz=>nomatch z];exact b1,by rw [av g1];exact b2,by rw [av g2];exact b3⟩
    ·rw [Az<|by omega] at hu hs;have fB:j - us.length=0:=by
      have:=(Ac.mp hu).1;simp at this;omega
     rw [fB] at hu;rw [<- hl,fB] at hs;cases hu;cases hs;exact⟨by rw [av tS];exact eT,by rw [av fp];exact sT _ _ e1,by rw [av fo];exact sT _ _ e2⟩
   ·rcases Am.mp hu with k | k
    ·exact fS u k
    ·rw [Ad.mp k];exact⟨fp,fo⟩
 ·rintro σ H2 ⟨us,st,u3,u4,u5,sm,Rn,rX,fS,I,rfl⟩;rw [Aa,Aa] at I;refine bO<|aU bJ<|bn GL hr<|ah<|ae 2<|ah<|cY<|ay ⟨Z0,λA hA=>ah<|ae 1<|ay ?_⟩;have sA:=aS hA<|.lst [];have eA:(upd H2 A<|.lst []) A=some (Ls []):=aw;generalize upd H2 A (.lst [])=H3 at sA eA;refine⟨S,A,o,us,n,st,[],os,rfl,rX.same sA,I.cq,hn,eA,sA _ _<|sm _ _ ho,gx.start Ch (hO.nd hN) (λy hy=>by cases hy) hO.sub,λL p' o' cC bV H6 s6 n6 eL e1 e2 f1 f2 lo=>aC ⟨L,_,_,.ref p',rfl,rfl,aJ.of eL,rfl,?_⟩⟩;exact q p' cC H6 ((sm.trans sA).trans s6) e1<|I.whole hN qW hO lo
abbrev Rr:List Str:=["rows","some","core","cut"]
abbrev vR:List Str:=["rows","some","core","cut","tie"]
theorem vS:ak Rr ["rows","some"] (a8 xA):=⟨rfl,rfl,rfl,by decide +kernel,rfl,by decide +kernel,by decide +kernel⟩
theorem q8d:vR.Nodup:=by decide +kernel
theorem k7x{f:Addr}{fd:FuncData}(F:bE K "parted" "parted" xA f fd)(T:Txt mg)(GK:aO P w K mg base 5 "cores_of" ["rows"] IQ)(GC:aO P w K mg base 5 "cut_of" ["rows","points"] yE)(GB:aO P w K mg base 5 "points_by" ["rows","odds"] qm)(GO:aO P w K mg base 5 "odd_points" ["rows","some"] yH)(GM:aO P w K mg base 5 "summed" ["one","other"] yF):aI P w K mg base bB 6 f fd ["rows","some"] yI:=by
 refine F.gb vS (λvs H Q E h=>?_) λb0 H vs Q E hr h=>?_
 ·obtain⟨R,p,as,n,ss,rfl,_⟩:=h;rfl
 obtain⟨R,p,as,n,ss,rfl,hR,hN,hT,hf,hn,dw,hp,jv,c9,q1,q2⟩:=h;have nd:=vS.nd;have rJ:=jt n;have HK:=j6 hT jv c9;show Run _ _ _ [some<|.ref R,some<|.ref p,none,none] H;refine iS (bn GK hr<|ah<|ae 0<|ay ⟨R,as,n,rfl,hR,hN,hT,by omega,dw,λC cu cs H1 s1 n1 hC jH fC=>⟨C,rfl,⟨_,aq.of hC.1⟩,?_⟩⟩);have hCl:=hC.2.1;have wl:(bh n).length<=(ends n).length:=xP n (ends n) [];have ql:=nA hT (ends n) [] λe he=>he;have lcs:=jH.len;refine iT (xs:=cu.map V.ref) (λi σ H'=>∃(u2:Option V),aj H1 H'/\(∀ c∈cs.take i,(c.filter λz=>ss.contains z).length % 2=0)/\σ=[some<|.ref R,some<|.ref p,u2,none]) ⟨_,aj.refl _,λc h=>(by rw [List.take_zero] at h;cases h),rfl⟩ ?_ ?_ ?_
 ·rintro i σ H' _ ⟨_,sm,_⟩;exact aq.of<|sm _ _ hC.1
 ·rintro i x σ H2 hx ⟨u2,sm,jz,rfl⟩;rw [Ah,Aw] at hx;obtain⟨u,hu,rfl⟩:=hx;have hi:i < cs.length:=by have:=(Ac.mp hu).1;omega
  have hc:=Ab hi;have eI:=hC.2.2 i u _ hu hc;have gK:cs[i]∈cs:=Bt hi;have jD:=Ab (show i < (bh n).length by omega);have wk:=ql _<|Ap jD;have cin:=yB wk.ends<|jH.mem i _ _ hc jD;have Rt:=jH.nK _ gK;have jA:=vx hc;generalize cs[i]=c at hc eI gK cin Rt jA;have iX:=j6 hT (eQ Rt) cin;refine bf 2 nd ?_;show Run _ _ _ [some<|.ref R,some<|.ref p,some<|.ref u,none] H2;refine du<|cb gN<|aZ cG<|bW cX T.len DK<|ah<|gR (a8 xA) Rr vR 1 (gA bt)<|ae 2 ⟨u,rfl,⟨_,aq.of<|sm _ _ eI⟩,λD hD=>?_⟩;refine tU (λz=>ss.contains z) (bS<|by omega) (sm _ _ eI) hD (λcl C s0 H0 ex v v0 H' R' h=>bf 4 q8d h) (λcl C s0 H0 ex z zs T' h=>lK<|cb mU<|ae 4<|ae 1 ⟨p,_,rfl,.inl (aq.of<|by rw [av<|bg (sm _ _<|s1 _ _ hp) hD];exact sm _ _<|s1 _ _ hp),rfl,nq _,_,rfl,?_⟩) (λcl C s0 H0 ex z H' R' h=>ae 4 h) ?_
  ·have fF:∀(x y:Bool),(if false=true then x else y)=y:=λ_ _=>rfl;rw [fF,nn];exact h
  have s2:=aS hD<|.lst<|(c.filter λz=>ss.contains z).map V.str;refine ay ⟨D,_,rfl,.inl<|aq.of aw,aC ⟨_,_,rfl,rfl,(by show(0:Int) < 2;decide),aC ⟨rfl,_,rfl,?_⟩⟩⟩;generalize upd H2 D (.lst<|(c.filter λz=>ss.contains z).map V.str)=H3 at s2;rw [Aa]
  by_cases k:(c.filter λz=>ss.contains z).length % 2=1
  ·rw [BW<|BZ V.int<|by omega];refine cM<|bO<|eF<|ah<|m4<|ah<|ae 2<|ay ⟨Z2,λt ht=>?_⟩;have s3:=aS ht<|.tup [.str "odd",.ref u];have vT:=(s1.trans sm).trans s2;exact q1 t u c _ (vT.trans s3) (vT.free ht) (fC u<|Ap hu) aw (s3 _ _<|s2 _ _<|sm _ _ eI) ⟨cs,jH,gK⟩ k
  ·rw [BR λh=>k<|by have:=V.int.inj h;omega];refine bj<|aY<|aY ⟨_,sm.trans s2,λd hd=>?_,rfl⟩;rw [jA] at hd
   rcases Am.mp hd with h | h
   ·exact jz d h
   ·rw [Ad.mp h];omega
 ·rintro σ H2 ⟨u2,sm,jz,rfl⟩;rw [Aa,hCl,Bu] at jz;have ec:IA n ss:=⟨cs,jH,jz⟩;have qo:=s1.trans sm;refine aW 3 nd (bn GC hr<|ah<|ae 0<|ah<|bn GB hr<|ah<|ae 0<|ah<|bn GO hr<|ah<|ae 0<|ah<|ae 1<|ay ⟨R,p,as,n,ss,rfl,hR.same qo,by omega,by omega,qo _ _ hp,λO os H3 s3 n3 eO pO=>?_⟩);have vT:=qo.trans s3;refine ay ⟨R,O,as,n,os,_,rfl,hR.same vT,hN,hT,hn,dw,eO,Rm pO,q01 hT hf ec,λA ps H4 s4 eA w6=>?_⟩;have IZ:=vT.trans s4;refine ay ⟨R,A,as,n,ps,rfl,hR.same IZ,hT,by omega,dw,eA,λM ms H5 s5 n5 eM k4 mM lM=>?_⟩;have Ja:=IZ.trans s5;show Run _ _ _ [some<|.ref R,some<|.ref p,u2,some<|.ref M] H5;have hml:=j6 hT (eQ k4) λz hz=>xY<|(mM z).mp hz;refine bO (eF<|ah<|m4<|ah<|bn GM hr<|ah<|ae 1<|ah<|ae 3<|ay ⟨p,M,ss,ms,rfl,Ja _ _ hp,eM,by omega,λL rs H6 s6 n6 eL sL nL mL=>ah<|ae 3<|ay ⟨(by show 3<=sizeLine;decide),λt ht=>?_⟩⟩);have Ru:=Ja.trans s6;have s7:=aS ht<|.tup [.str "parts",.ref L,.ref M];exact q2 t L M rs ms ps _ (Ru.trans s7) (Ru.free ht) (Ja.free n6) (IZ.free n5) (λe=>by rw [e,eM] at n6;cases n6) aw (s7 _ _ eL) (s7 _ _<|s6 _ _ eM) ec (rF sL nL) k4 (k1y hT w6 mM mL) mM mL
end
end E5
namespace PySem
section
variable{prog:Program}{w:World}{K:Type} [DecidableEq K] {knd:HeapKind prog w K} {A:Around} {E:Value->Shared->Prop} {s:Shared}
end
end PySem
namespace L2
open PySem PySem.Spec PyProof.Rows
section
variable{X:Cx}{σ:St}{H:Hp}{Q:VK}{o e:Expr}{pos:Pos}
end
end L2
namespace E5
open PySem L2 Nt bN
open PyProof.Rows (sortedS)
open Classical
def Jb:Sp:=λvs H Q _=>∃(R a:Addr) (as:List<|Addr×Addr) (n:Net) (ss:List Str),vs=[.ref R,.ref a]/\ai H R as n/\n.length<=60/\(ag n).length<=1000/\H a=some (Ls ss)/\∀ H',aj H H'->Q (.bl<|fm n ss) H'
def Jc:Sp:=λvs H Q _=>∃(a d:Addr) (xs:List Str) (n:Net) (ks:List Str),vs=[.ref a,.ref d]/\H a=some (Ls xs)/\xs.length<=1000/\bH H d n ks/\cj xs/\(∀ z∈xs,z∈ag n)/\Q (.bl true) H
def Jd:Sp:=λvs H Q _=>∃(R p:Addr) (as:List<|Addr×Addr) (n:Net) (ss:List Str),vs=[.ref R,.ref p]/\ai H R as n/\ax n/\dk n/\(n.map (·.1)).Nodup/\0 < n.length/\n.length<=60/\(ag n).length<=60/\H p=some (Ls ss)/\(∀ z∈ss,z∈ag n) /\
 (∀(L:Addr) (sd:List Str) (H':Hp),aj H H'->H L=none->H' L=some (Ls sd)->bC n ss sd->Q (.ref L) H')/\(∀ H',aj H H'->(∀ sd,¬ bC n ss sd)->Q .non H')
theorem Je{kvs:List (Key×V)}(hn:(kvs.map (·.1)).Nodup){k:Key}{v:V}:(k,v)∈kvs↔aB kvs k=some v:=by
 induction kvs with
 | nil=>exact⟨λh=>(by cases h),λh=>(by cases h)⟩
 | cons c r ih=>
  rw [Bj,Be] at hn;obtain⟨c1,c2⟩:=c
  by_cases hc:c1=k
  ·subst hc;rw [gQ rfl]
   constructor
   ·intro h
    rcases Ak.mp h with e | e
    ·cases e;rfl
    ·exact absurd (An.mpr ⟨_,e,rfl⟩) hn.1
   ·intro h;cases h;exact Ae ..
  ·rw [gB hc,<- ih hn.2]
   constructor
   ·intro h
    rcases Ak.mp h with e | e
    ·cases e;exact absurd rfl hc
    ·exact e
   ·exact Ai _
def qp:V->Bool
 | .bl b=>b
 | _=>false
def qt:Key->Nat
 | Sum.inl i=>i.toNat
 | _=>0
def jE(n:Net)(kvs:List<|Key×V):List Str:=(kvs.filter λp=>qp p.2).map λp=>aF n<|qt p.1
theorem Rv(n:Net)(kvs:List<|Key×V):(jE n kvs).length<=kvs.length:=by
 unfold jE;rw [Aa];exact Ct _ _
theorem k1n(n:Net)(kvs:List<|Key×V)(p:Key×V):jE n (kvs++[p])=jE n kvs++(if qp p.2=true then [aF n<|qt p.1] else []):=by
 unfold jE;rw [Cn,Aj]
 congr 1
 cases h:qp p.2 <;> simp [h]
theorem k4x{n:Net}{kvs:List (Key×V)}(hn:(kvs.map (·.1)).Nodup)(ht:∀ k∈kvs.map (·.1),∃ r:Nat,k=Sum.inl (r:Int)/\r < n.length)(x:Str):x∈jE n kvs↔∃ r:Nat,c8 kvs r true/\x=aF n r:=by
 unfold jE;rw [An]
 constructor
 ·rintro ⟨⟨k,v⟩,hp,rfl⟩;rw [Bh] at hp;obtain⟨r,hy,_⟩:=ht k<|An.mpr ⟨_,hp.1,rfl⟩;have hv:qp v=true:=hp.2;subst hy;refine⟨r,(Je hn).mp ?_,?_⟩
  ·cases v with
   | bl b=>
    have:b=true:=hv;subst this;exact hp.1
   | _=>cases hv
  ·show aF n ((r:Int).toNat)=aF n r;rw [Bc]
 ·rintro ⟨r,hb,rfl⟩;refine⟨(Sum.inl (r:Int),.bl true),Bh.mpr ⟨(Je hn).mpr hb,rfl⟩,?_⟩;show aF n ((r:Int).toNat)=aF n r;rw [Bc]
theorem k0k{n:Net}(sf:(n.map (·.1)).Nodup){kvs:List (Key×V)}(hn:(kvs.map (·.1)).Nodup)(ht:∀ k∈kvs.map (·.1),∃ r:Nat,k=Sum.inl (r:Int)/\r < n.length):(jE n kvs).Nodup:=by
 have e:((kvs.filter λp=>qp p.2).map (·.1)).Nodup:=hn.sublist<|List.filter_sublist.map _;unfold jE;rw [Ce,Dx] at e ⊢;refine List.Pairwise.imp_of_mem (λ{a b} ha hb h q=>h ?_) e;obtain⟨r,hr,lr⟩:=ht a.1<|An.mpr ⟨a,(Bh.mp ha).1,rfl⟩;obtain⟨r',pI,lr'⟩:=ht b.1<|An.mpr ⟨b,(Bh.mp hb).1,rfl⟩;rw [hr,pI] at q ⊢;have q:aF n ((r:Int).toNat)=aF n ((r':Int).toNat):=q;rw [Bc,Bc] at q;rw [rH sf lr lr' q]
abbrev Li(lf:List Nat):HO:= .lst<|lf.map λ(r:Nat)=>V.int (r:Int)
theorem k6v(lf:List Nat)(h:Nat):(((lf++[h]).map λ(r:Nat)=>V.int (r:Int))[((lf++[h]).map λ(r:Nat)=>V.int (r:Int)).length - 1]?=some (.int (h:Int)))/\((lf++[h]).map λ(r:Nat)=>V.int (r:Int)).dropLast=lf.map λ(r:Nat)=>V.int (r:Int):=by
 rw [Aj]
 constructor
 ·simp
 ·exact List.dropLast_concat
section
variable{P:Program}{w:World}{K:PySem.W.Frag}{mg:Str->Option Value}{base:Heap}
theorem k8e{kvs:List (Key×V)}{ks:List Str}(h:kvs.map (·.1)=ks.map Sum.inr):(kvs.map λp=>kV p.1)=ks.map V.str:=by
 have e:(kvs.map λp=>kV p.1)=(kvs.map (·.1)).map kV:=by rw [Ca];rfl
 rw [e,h,Ca];rfl
theorem Rw{X:Cx}{e:Expr}{p1 p2 p3 p4 p5 p6:Pos}{σ:St}{H:Hp}{Q:VK}{k:Nat}
  (hc:X.calm=true) (hS:X.mg "sorted" = none) (hL:X.mg "list" = none)
  (G:aO X.prog X.w X.K X.mg X.base k "_law_seats" ["_law_rows"] nh) (hr:bz k X.A)
  (h:Ev X e σ H λv H1=>∃(R:Addr) (as:List<|Addr×Addr) (n:Net),v = .ref R/\ai H1 R as n/\n.length<=1000/\(ag n).length<=60/\∀ l ss H',aj H1 H'->H1 l=none->H' l=some (Ls ss)->ss.length<=60->cj ss->(∀ z,z∈ss↔z∈ag n)->Q (.ref l) H')
  (g1:Gl X "sorted":=by rfl) (g2:Gl X "list":=by rfl) (g3:Gl X "_law_seats":=by rfl) (c9:isStar e=false:=by rfl) (hn:noStar [e]=true:=by rfl) :
  Ev X (.Call (.Name "sorted" p1) [.Call (.Name "list" p2) [.Call (.Name "_law_seats" p3) [e] [] p4] [] p5] [] p6) σ H Q:=by
 refine bW tL hS DR (ah<|lG (YB hc) hL JK (ah<|bn G hr (ah (h.mono λv H1 hv=>?_) c9) g3 rfl hn) g2) g1;obtain⟨R,as,n,rfl,hR,h1,h2,q⟩:=hv;refine ay ⟨R,as,n,rfl,hR,h1,by omega,λd ks H' sm rB S=>?_⟩;obtain⟨kvs,Jf,Rx,Ry⟩:=S.dict;have lX:ks.length<=60:=Bs (aX S.nodup λz hz=>(S.mem z).mp hz) h2;refine ay ⟨d,kvs,rfl,.inl Jf,λl hl=>?_⟩;rw [k8e Rx];refine ay ⟨l,ks,rfl,aq.of aw,by omega,λl2 ss fN hp hs=>?_⟩;have s2:=aS hl<|Ls ks;have s3:=aS fN<|.lst<|ss.map V.str;exact q l2 ss _ ((sm.trans s2).trans s3) (g6 (sm.trans s2) fN) aw (by rw [hp.length_eq];exact lX) (rF hs<|hp.nodup_iff.mpr S.nodup) λz=>(hp.mem_iff).trans<|S.mem z
theorem k7r(n:Net)(ss:List Str)(r:Str×List Str):fm (n++[r]) ss=(fm n ss && ((r.2.filter λz=>ss.contains z).length % 2 == 0)):=by
 unfold fm;rw [List.all_append];simp
abbrev NI:List Str:=["_law_rows","_law_some","_law_row"]
abbrev Rz:List Str:=["_law_rows","_law_some","_law_row","_law_tie"]
theorem nY:ak NI ["_law_rows","_law_some"] (a8 xD):=⟨rfl,rfl,rfl,by decide +kernel,rfl,by decide +kernel,by decide +kernel⟩
theorem Jg:Rz.Nodup:=by decide +kernel
theorem q1h{n:Net}{ss:List Str}{i:Nat}(hi:i < n.length)(h:¬((row n i).filter λz=>ss.contains z).length % 2=0):fm n ss=false:=by
 cases e:fm n ss with
 | false=>rfl
 | true=>
  unfold fm at e;have:=Ee.mp e n[i]<|Bt hi;rw [KJ,<- iZ hi] at this;exact absurd this h
theorem q53{f:Addr}{fd:FuncData}(F:bE K "_law_is_round" "_law_is_round" xD f fd)(T:Txt mg):aI P w K mg base bB 1 f fd ["_law_rows","_law_some"] Jb:=by
 refine F.gb nY (λvs H Q E h=>?_) λb0 H vs Q E hr h=>?_
 ·obtain⟨R,a,as,n,ss,rfl,_⟩:=h;rfl
 obtain⟨R,a,as,n,ss,rfl,hR,hn,ht,ha,q⟩:=h;have nd:=nY.nd;have bY:=hR.len;show Run _ _ _ [some<|.ref R,some<|.ref a,none] H;refine iS<|ae 0 ⟨R,rfl,⟨_,aq.of hR.lst⟩,iT (xs:=as.map λa=>V.ref a.1) (λi σ H3=>aj H H3/\fm (n.take i) ss=true/\∃ u,σ=[some<|.ref R,some<|.ref a,u]) ⟨aj.refl H,rfl,_,rfl⟩ ?_ ?_ ?_⟩
 ·rintro i σ H3 _ ⟨sm,_,_,_⟩;exact aq.of<|sm _ _ hR.lst
 ·rintro i x σ H3 hx ⟨sm,ev,u,rfl⟩;have hi:i < n.length:=by
   have:=(Ac.mp hx).1;rw [Aa] at this;omega
  obtain⟨b,eb,dj,et,el,er⟩:=(hR.same sm).at hi;rw [Ah,eb] at hx;cases hx;have fq:(row n i).length<=1000:=Bs (iq n i) ht;refine bf 2 nd ?_;refine MY (λk H4=>aj H3 H4/\k=decide (((row n i).filter λz=>ss.contains z).length % 2=1)) (λσ' H'=>aj H H'/\fm (n.take<|i+1) ss=true/\∃ u,σ'=[some<|.ref R,some<|.ref a,u]) ?_ ?_ ?_ λσ' H' h=>aY h
  ·refine cb gN<|aZ cG<|bW cX T.len DK<|ah<|gR (a8 xD) NI Rz 1 (gA bt)<|aU bJ<|ae 2<|aC ⟨b.1,_,_,.ref b.2,rfl,rfl,aJ.of et,rfl,b.2,rfl,⟨_,aq.of el⟩,λD hD=>?_⟩;refine tU (σ:=[some<|.ref R,some<|.ref a,some<|.ref b.1]) (λz=>ss.contains z) (bS<|by omega) el hD (λcl C s₀ H₀ ex v v0 H' R' h=>bf 3 Jg h) (λcl C s₀ H₀ ex z ys T' h=>?_) (λcl C s₀ H₀ ex z H' R' h=>ae 3 h) ?_
   ·refine lK (cb mU<|ae 3<|ae 1 ⟨a,_,rfl,.inl (aq.of<|by rw [av<|bg (sm _ _ ha) hD];exact sm _ _ ha),rfl,nq _,_,rfl,?_⟩);show T' (qH (.str z)<|ss.map V.str) _;rw [nn];exact h
   ·refine ay ⟨D,_,rfl,.inl<|aq.of aw,aC ⟨_,_,rfl,rfl,(by show(0:Int) < 2;decide),aC ⟨rfl,_,rfl,aS hD _,?_⟩⟩⟩;rw [Aa];refine decide_eq_decide.mpr ⟨λh=>?_,λh=>?_⟩
    ·have:=V.int.inj h;omega
    ·have:((((row n i).filter λz=>ss.contains z).length:Int)) % 2=1:=by omega
     exact BZ V.int this
  ·rintro H4 ⟨s4,e⟩;have hb:=BX e.symm;refine bO<|tu ?_;rw [<- q1h (ss:=ss) hi<|by omega];exact q H4<|sm.trans s4
  ·rintro H4 ⟨s4,e⟩;have hb:=HX e.symm;refine aY ⟨sm.trans s4,?_,_,rfl⟩;rw [Cg,Ab hi];show fm (n.take i++[n[i]]) ss=true;rw [k7r,ev,<- iZ hi,Gr,KJ];omega
 ·rintro σ H3 ⟨sm,ev,u,rfl⟩;rw [Aa,bY,Bu] at ev;refine bO<|tu ?_;rw [<- ev];exact q H3 sm
abbrev NIs:List Str:=["_law_found","_law_ties","_law_k"]
theorem vU:ak NIs ["_law_found","_law_ties"] (a8 DB):=⟨rfl,rfl,rfl,by decide +kernel,rfl,by decide +kernel,by decide +kernel⟩
theorem k95{f:Addr}{fd:FuncData}(F:bE K "_law_is_set" "_law_is_set" DB f fd)(T:Txt mg):aI P w K mg base bB 1 f fd ["_law_found","_law_ties"] Jc:=by
 refine F.gb vU (λvs H Q E h=>?_) λb0 H vs Q E hr h=>?_
 ·obtain⟨a,d,xs,n,ks,rfl,_⟩:=h;rfl
 obtain⟨a,d,xs,n,ks,rfl,ha,hl,S,so,hm,q⟩:=h;have nd:=vU.nd;have hu:=hr.u1;obtain⟨kvs,Jf,Rx,Ry⟩:=S.dict;show Run _ _ _ [some<|.ref a,some<|.ref d,none] H;refine du<|ji<|jj<|bW wH T.xG HJ<|ah<|ae 0<|ah<|wK (.ty "list") T.gd JK rfl (ay ⟨_,_,_,true,rfl,.lst ha,Gy K,true,rfl,bj<|aY ?_⟩);refine kD T.range (bW cX T.len DK<|ah<|ae 0<|ay ⟨a,_,rfl,.inl<|aq.of ha,_,rfl,by omega,by rw [Aa];omega,?_⟩);rw [Aa,Bc];refine kE (λi σ H3=>H3=H/\∃ u,σ=[some<|.ref a,some<|.ref d,u]) ⟨rfl,_,rfl⟩ ?_ ?_
 ·rintro i σ H3 hi ⟨rfl,u,rfl⟩;rw [Dv];have Jh:dD (xs.map V.str) (i:Int)=some (.str xs[i]):=pf<|Ab hi;obtain⟨ar,ts,hv,_⟩:=Ry _<|hm _<|Bt hi;refine bf 2 nd ?_;refine du<|kC<|lH<|ji<|jj<|bW wH T.xG HJ<|ah<|aU cH<|ae 0<|ae 2 ⟨a,_,_,.str xs[i],rfl,rfl,aq.of ha,Jh,ah<|wK (.ty "str") T.DE PyProof.Rows.boot_str rfl (ay ⟨_,_,_,true,rfl,.str _,Gz K,true,rfl,bj ?_⟩)⟩;refine qL<|M0 hu<|aU cH<|ae 0<|ae 2 ⟨a,_,_,.str xs[i],rfl,rfl,aq.of ha,Jh,ae 1 ⟨d,_,rfl,aV.k (k:=Sum.inr xs[i]) Jf,?_⟩⟩;rw [hv];refine bj<|aY ?_;refine du<|kC<|wL<|cb KI<|ae 2<|aC ⟨_,_,rfl,rfl,_,rfl,?_⟩
  by_cases h0:0 < i
  ·rw [BP<|BW (show(0:Int) < (i:Int) by omega)];have RA:i - 1 < xs.length:=by omega
   have at0:dD (xs.map V.str) ((i:Int) - 1)=some (.str xs[i - 1]):=by
    have e:((i:Int) - 1)=((i - 1:Nat):Int):=by omega
    rw [e];exact pf<|Ab RA
   refine AX<|ji<|cb Ur<|aU cH<|ae 0<|aZ Kx<|ae 2<|aC ⟨_,_,rfl,rfl,a,_,_,.str xs[i - 1],rfl,rfl,aq.of ha,at0,aU cH<|ae 0<|ae 2 ⟨a,_,_,.str xs[i],rfl,rfl,aq.of ha,Jh,_,_,rfl,rfl,_,rfl,?_⟩⟩;have:=Bn.mp so (i - 1) i RA hi (by omega);rw [BW this];exact bj<|aY<|aY ⟨rfl,_,rfl⟩
  ·rw [BL λh=>h0<|by have:=BX h;omega];exact bj<|aY<|aY ⟨rfl,_,rfl⟩
 ·rintro σ H3 ⟨rfl,u,rfl⟩;exact bO<|tu q
abbrev RC:List Str:=["_law_rows","_law_some","_law_seats_here","_law_beyond","_law_left","_law_r","_law_place","_law_there","_law_due"]
abbrev vV:List Str:=["_law_rows","_law_some","_law_seats_here","_law_beyond","_law_left","?","_law_place","_law_there","_law_due","_law_r"]
theorem vW:ak RC ["_law_rows","_law_some"] (a8 xE):=⟨rfl,rfl,rfl,by decide +kernel,rfl,by decide +kernel,by decide +kernel⟩
theorem q9u:vV.Nodup:=by decide +kernel
theorem q03{f:Addr}{fd:FuncData}(F:bE K "_law_side" "_law_side" xE f fd)(T:Txt mg)
  (GS:aO P w K mg base 2 "_law_seats" ["_law_rows"] nh)
  (GO:aO P w K mg base 2 "_law_other" ["_law_rows","_law_seats_here","_law_end"] xI) :
  aI P w K mg base bB 3 f fd ["_law_rows","_law_some"] Jd:=by
 refine F.gb vW (λvs H Q E h=>?_) λb0 H vs Q E hr h=>?_
 ·obtain⟨R,p,as,n,ss,rfl,_⟩:=h;rfl
 obtain⟨R,p,as,n,ss,rfl,hR,hT,hHg,sf,h0,hn,dw,hp,jv,q1,q2⟩:=h;have nd:=vW.nd;have hu:=hr.fQ;have eI:=hr.u1;have bY:=hR.len;show Run _ _ _ [some<|.ref R,some<|.ref p,none,none,none,none,none,none,none] H;refine aW 2 nd (bn GS hr<|ah<|ae 0<|ay ⟨R,as,n,rfl,hR,by omega,by omega,λnZ ks H1 s1 n1 S1=>?_⟩);refine aW 3 nd<|q0v eI λd hd=>aC<|tu ⟨_,bU.k (k:=Sum.inl 0) aw<|bS<|Bx _,?_⟩;rw [oe];refine aW 4 nd<|cY<|ah<|aC<|ay ⟨Z1,λM hM=>?_⟩;have kW:M≠d:=λe=>by rw [e,aw] at hM;cases hM
 have RE:H1 M=none:=by rw [av kW] at hM;exact hM
 have s0:aj H1 (upd (upd H1 d<|.dK<|putK [] (Sum.inl 0)<|.bl false) M<|.lst [.int 0]):=(aS hd _).trans<|aS hM _;have vg:(upd (upd H1 d<|.dK<|putK [] (Sum.inl 0)<|.bl false) M<|.lst [.int 0]) d=some (.dK<|putK [] (Sum.inl 0)<|.bl false):=by rw [av<|CG kW,aw]
 have vh:(upd (upd H1 d<|.dK<|putK [] (Sum.inl 0)<|.bl false) M<|.lst [.int 0]) M=some (Li [0]):=aw;show Run _ _ _ [some<|.ref R,some<|.ref p,some<|.ref nZ,some<|.ref d,some<|.ref M,none,none,none,none] (upd (upd H1 d<|.dK<|putK [] (Sum.inl 0)<|.bl false) M<|.lst [.int 0]);generalize upd (upd H1 d<|.dK<|putK [] (Sum.inl 0)<|.bl false) M (.lst [.int 0])=H0 at s0 vg vh;refine xa (λm σ H'=>m<=1000/\∃(kvs:List<|Key×V) (lf:List Nat) (u5 u6 u7 u8:Option V),aj H1 H'/\H' d=some (.dK kvs)/\H' M=some (Li lf)/\cT n ss none kvs lf/\m=2 * (n.length - kvs.length)+lf.length /\
   σ=[some<|.ref R,some<|.ref p,some<|.ref nZ,some<|.ref d,some<|.ref M,u5,u6,u7,u8]) (m0:=2 * (n.length - 1)+1)
  ⟨by omega,_,[0],_,_,_,_,s0,vg,vh,cT.start h0,rfl,rfl⟩ ?_
 rintro m σ H2 ⟨hm,kvs,lf,u5,u6,u7,u8,s2,vX,qu,I,em,rfl⟩;refine cb (tN hu)<|ae 4<|cY<|ay ⟨Z0,λpe Hq=>?_⟩;have se:=aS Hq<|.lst [];have s2:=s2.trans se;have vX:=se _ _ vX;have qu:=se _ _ qu;have Ji:(upd H2 pe<|.lst []) pe=some (.lst []):=aw;generalize upd H2 pe (.lst [])=H3 at s2 vX qu Ji ⊢
 rcases List.eq_nil_or_concat lf with e | ⟨k5,hh,e⟩
 ·subst e;refine⟨1,_,by decide,B9 (k:=0) (xs:=[]) (ys:=[]) (λ_=>true) (aq.of qu) (aq.of Ji) rfl (λj x y hx _=>by simp at hx),_,rfl,bj ?_⟩;have Jj:∀ k∈kvs.map (·.1),∃ r:Nat,k=Sum.inl (r:Int)/\r < n.length:=I.num;have lX:=I.len;refine bO<|bW tL T.sorted DR<|ah<|gR (a8 xE) RC vV 1 (Nq bt)<|ae 3 ⟨d,kvs,rfl,vX,λob E2 yK=>?_⟩;have nE:E2≠d:=λe=>by rw [e,aw] at yK;cases yK
  have hE3:H3 E2=none:=by rw [av nE] at yK;exact yK
  have sH:aj H H3:=s1.trans s2;have uI:H d=none:=s1.free hd;have hE0:H E2=none:=sH.free hE3;have sU:∀ zs:List Str,aj H (upd (upd H3 d<|.bD ob<|.dK kvs) E2<|Ls zs):=λzs c o' hc=>by
   rw [av<|bg hc hE0,av<|bg hc uI];exact sH _ _ hc
  refine Nr (λi σ' H'=>(∃ v,σ'=[some<|.ref R,some<|.ref p,some<|.ref nZ,some<|.ref d,some<|.ref M,u5,u6,u7,u8]++[v])/\H'=upd (upd H3 d<|.bD ob<|.dK kvs) E2 (Ls<|jE n<|kvs.take i)) ⟨⟨_,rfl⟩,rfl⟩ ?_ ?_ ?_
  ·rintro i σ' H' _ ⟨_,rfl⟩;rw [av<|CG nE,aw]
  ·rintro i pr σ' H' RF ⟨⟨v,rfl⟩,rfl⟩;have hm:pr∈kvs:=Ap RF;have jA:kvs.take (i+1)=kvs.take i++[pr]:=by rw [Cg,RF];rfl
   obtain⟨k,vv⟩:=pr;obtain⟨r,rfl,fq⟩:=Jj k<|An.mpr ⟨_,hm,rfl⟩;have hv:=(Je I.gI).mp hm;obtain⟨b,rfl,_⟩:=I.val r vv hv;rw [jA,k1n];intro cl C' s₀ H₀ ex;refine bf 9 q9u ?_;intro cl C' s₀ H₀ ex;have dg:aV (upd (upd H3 d<|.bD ob<|.dK kvs) E2<|Ls<|jE n<|kvs.take i) d (kV<|Sum.inl (r:Int)) (some<|.bl b):=by
    rw [<- hv];exact .inl ⟨kvs,Sum.inl (r:Int),.inr ⟨ob,by rw [av<|CG nE,aw]⟩,rfl,rfl⟩
   refine lK<|jj<|f7 eI<|ae 3<|ae 9 ⟨d,.bl b,rfl,dg,b,rfl,?_⟩;have js:=Bs (Rv n<|kvs.take i) (show(kvs.take i).length<=kvs.length by rw [Bf];omega);have RH:=hR.same<|sU<|jE n<|kvs.take i;obtain⟨a,ea,dj,et,el,er⟩:=RH.at fq
   by_cases hb:b=true
   ·rw [BP hb];intro cl C' s₀ H₀ ex;refine aU bJ<|aU cH<|ae 0<|ae 9 ⟨R,_,_,.ref a.1,rfl,rfl,aq.of RH.lst,dj,aC ⟨a.1,_,_,.str n[r].1,rfl,rfl,aJ.of et,rfl,?_⟩⟩;refine⟨_,aw,by rw [Aa];exact bS (by omega),⟨_,rfl⟩,?_⟩;rw [oe,BP (show qp (.bl b)=true from hb)];have:aF n (qt<|Sum.inl (r:Int))=n[r].1:=by
     show aF n ((r:Int).toNat)=_;rw [Bc,i4 fq]
    rw [this];exact tR
   ·rw [BL hb];refine⟨⟨_,rfl⟩,?_⟩;rw [BL (show ¬ qp (.bl b)=true from hb),Bi]
  ·rintro σ' H' ⟨_,rfl⟩;rw [Bu];have js:=Rv n kvs;refine ay ⟨E2,_,rfl,aq.of aw,by omega,λl sd hl iY fc=>?_⟩;have sl:=aS hl<|.lst<|sd.map V.str;refine q1 l sd _ ((sU _).trans sl) ((sU _).free hl) aw<|I.whole hT hHg h0 sf jv (rF fc<|iY.nodup_iff.mpr<|k0k sf I.gI Jj) λx=>?_;rw [iY.mem_iff];exact k4x I.gI Jj x
 rw [List.concat_eq_append] at e;subst e;have lw:(k5++[hh]).length=k5.length+1:=by rw [Af];rfl
 refine⟨1,_,by decide,CA (k:=1) (aq.of qu) (aq.of (xs:=[]) Ji) (by rw [Aa,lw];exact Nat.succ_ne_zero _),_,rfl,cM ?_⟩;obtain⟨hy,gD⟩:=k6v k5 hh;refine aW 5 nd<|XC DY UW VB Vj<|ae 4 (v:= .ref M) ⟨Or.inl ⟨rfl,_,aq.of qu⟩,M,_,.int (hh:Int),rfl,rfl,qu,hy,?_⟩;rw [gD];have I1:=I.pop;rw [lw] at em;have sA:aj H1 (upd H3 M<|Li k5):=dN s2 RE;have RO:(upd H3 M<|Li k5) d=some (.dK kvs):=by rw [av<|CG kW];exact vX
 have RU:(upd H3 M<|Li k5) M=some (Li k5):=aw;show Run _ _ _ [some<|.ref R,some<|.ref p,some<|.ref nZ,some<|.ref d,some<|.ref M,some<|.int (hh:Int),u6,u7,u8] (upd H3 M<|Li k5);generalize upd H3 M (Li k5)=HA at sA RO RU;obtain⟨b0,hb0⟩:=I1.x4 hh 0 rfl;have Jk:=I1.lt hb0;have RY:=hR.same<|s1.trans sA;obtain⟨a,ea,dj,et,el,er⟩:=RY.at Jk;have rP:=hR.tup hh a n[hh] ea<|Ab Jk;rw [<- iZ Jk] at rP;have rle:=iq n hh;refine kD T.range (bW cX T.len DK<|ah<|aU bJ<|aU cH<|ae 0<|ae 5 ⟨R,_,_,.ref a.1,rfl,rfl,aq.of RY.lst,dj,aC ⟨a.1,_,_,.ref a.2,rfl,rfl,aJ.of et,rfl,ay ⟨a.2,_,rfl,.inl<|aq.of el,_,rfl,by omega,by rw [Aa];omega,?_⟩⟩⟩);rw [Aa,Bc];refine kE (λi σ H'=>∃(kvs:List<|Key×V) (lf:List Nat) (u6 u7 u8:Option V),aj H1 H'/\H' d=some (.dK kvs)/\H' M=some (Li lf)/\cT n ss (some (hh,i)) kvs lf/\2 * (n.length - kvs.length)+lf.length < m /\
   σ=[some<|.ref R,some<|.ref p,some<|.ref nZ,some<|.ref d,some<|.ref M,some<|.int (hh:Int),u6,u7,u8])
  ⟨kvs,k5,_,_,_,sA,RO,RU,I1,by omega,rfl⟩ ?_ ?_
 ·rintro i σ HB hi ⟨kvs,lf,u6,u7,u8,sB,ed,eM,I,a7,rfl⟩;rw [Dv];have hz:aK n (hh,i)=some (row n hh)[i]:=Ab hi;generalize (row n hh)[i]=z at hz;have he:((hh,i):Nt.End)∈ends n:=af.mpr ⟨z,hz⟩;have x0h:=pK hT hz;refine bf 6 nd ?_;refine aW 7 nd<|aU bJ<|bn GO hr<|ah<|ae 0<|ah<|ae 2<|ah<|eF<|ah<|ae 5<|ah<|ae 6<|ay ⟨Z2,λt ht=>?_⟩;have sT:=aS ht<|Tp (hh,i);have sC:=sB.trans sT;have Jl:=hR.same<|s1.trans sC;refine ay ⟨R,nZ,t,as,n,ks,(hh,i),rfl,Jl,S1.same sC,hT,aw,he,λu nw=>aC ⟨u,_,_,.int ((other n (hh,i)).1:Int),rfl,rfl,aJ.of nw,rfl,?_⟩⟩;have ed:=sT _ _ ed;have eM:=sT _ _ eM;show Run _ _ _ [some<|.ref R,some<|.ref p,some<|.ref nZ,some<|.ref d,some<|.ref M,some<|.int (hh:Int),some<|.int (i:Int),some<|.int ((other n (hh,i)).1:Int),u8] (upd HB t<|Tp (hh,i));clear nw;generalize upd HB t (Tp (hh,i))=HC at sC Jl ed eM;obtain⟨b,hb⟩:=I.x4 hh i rfl;have el:=(s1.trans sC) _ _ rP.2;have et:=(s1.trans sC) _ _ rP.1;refine aW 8 nd (kA sK<|f7 eI<|ae 3<|ae 5 ⟨d,.bl b,rfl,by rw [<- hb];exact aV.k (k:=Sum.inl (hh:Int)) ed,?_⟩);refine kA mU<|aU cH<|aU bJ<|aU cH<|ae 0<|ae 5 ⟨R,_,_,.ref a.1,rfl,rfl,aq.of Jl.lst,dj,aC ⟨a.1,_,_,.ref a.2,rfl,rfl,aJ.of et,rfl,ae 6 ⟨a.2,_,_,.str z,rfl,rfl,aq.of el,pf hz,ae 1 ⟨p,_,rfl,.inl<|aq.of<|(s1.trans sC) _ _ hp,rfl,nq _,rfl,?_⟩⟩⟩⟩;have fF:∀(x y:Bool),(if false=true then x else y)=y:=λ_ _=>rfl;rw [fF,nn,yG,wA];show Run _ _ _ [some<|.ref R,some<|.ref p,some<|.ref nZ,some<|.ref d,some<|.ref M,some<|.int (hh:Int),some<|.int (i:Int),some<|.int ((other n (hh,i)).1:Int),some<|.bl<|b != decide (z∈ss)] HC;refine du<|M0 eI<|ae 7<|ae 3 ⟨d,_,rfl,aV.k (k:=Sum.inl ((other n (hh,i)).1:Int)) ed,?_⟩;cases hg:aB kvs (Sum.inl ((other n (hh,i)).1:Int)) with
  | none=>
   refine cM ?_;have I':=I.new hT hz hb hg;have lk:=I.len;have lk':=I'.len;have lX:(putK kvs (Sum.inl ((other n (hh,i)).1:Int))<|.bl<|b != decide (z∈ss)).length=kvs.length+1:=by
    have:=BZ List.length<|EV kvs (Sum.inl ((other n (hh,i)).1:Int))<|.bl<|b != decide (z∈ss);rw [BL<|OC hg,Af,Aa,Aa] at this;exact this
   refine qZ eI (ae 8<|ae 3<|ae 7 ⟨d,_,rfl,bU.k (k:=Sum.inl ((other n (hh,i)).1:Int)) ed (bS<|by omega),?_⟩);have R0:(upd HC d<|.dK<|putK kvs (Sum.inl ((other n (hh,i)).1:Int))<|.bl<|b != decide (z∈ss)) M=some (Li lf):=by rw [av kW];exact eM
   refine gC (jr<|ae 4 ⟨M,rfl,⟨_,R0⟩,ae 7 ⟨_,R0,by rw [Aa];exact bS (by omega),?_⟩⟩);refine aY<|aY ⟨_,lf++[(other n (hh,i)).1],_,_,_,dN (dN sC hd) RE,?_,?_,I',?_,rfl⟩
   ·rw [av<|CG kW];exact aw
   ·rw [aw];show some (HO.lst<|(lf.map λ(r:Nat)=>V.int (r:Int))++[.int ((other n (hh,i)).1:Int)])=some (HO.lst<|(lf++[(other n (hh,i)).1]).map λ(r:Nat)=>V.int (r:Int));rw [Aj];rfl
   ·rw [lX,Af];rw [lX] at lk';show _+(lf.length+1) < m;omega
  | some v=>
   refine bj ?_;obtain⟨c,rfl,_⟩:=I.val _ v hg;refine du<|cb sK<|f7 eI<|ae 3<|ae 7 ⟨d,.bl c,rfl,by rw [<- hg];exact aV.k (k:=Sum.inl ((other n (hh,i)).1:Int)) ed,ae 8 ⟨rfl,_,rfl,?_⟩⟩
   by_cases hc:c=(b != decide (z∈ss))
   ·rw [BW<|by rw [hc]];refine bj<|aY<|aY<|aY ⟨kvs,lf,_,_,_,sC,ed,eM,I.step hz hb (by rw [<- hc];exact hg),a7,rfl⟩
   ·rw [BR λh=>hc<|V.bl.inj h];refine cM<|bO<|AT<|q2 HC (s1.trans sC)<|I.bad hT hz hb hg hc
 ·rintro σ HB ⟨kvs,lf,u6,u7,u8,sB,ed,eM,I,a7,rfl⟩;exact aY ⟨_,a7,by omega,kvs,lf,_,_,_,_,sB,ed,eM,I.close<|Al _,rfl,rfl⟩
def Jm:Sp:=λvs H Q _=>∃(R:Addr) (as:List<|Addr×Addr) (n:Net) (b:Int),vs=[.ref R,.int b]/\ai H R as n/\n.length<=1000/\(ag n).length<=60 /\
 ∀ u l ss (b':Int) H',aj H H'->H u=none->H' u=some (.tup [.ref l,.int b'])->H' l=some (Ls ss)->ss.length<=60->cj ss->(∀ z∈ss,z∈ag n)->Q (.ref u) H'
abbrev NSo:List Str:=["_law_rows","_law_big_here","_law_ties","_law_some","_law_tie"]
theorem ko:ak NSo ["_law_rows","_law_big_here"] (a8 DA):=⟨rfl,rfl,rfl,by decide +kernel,rfl,by decide +kernel,by decide +kernel⟩
theorem q45{f:Addr}{fd:FuncData}(F:bE K "_law_some_of" "_law_some_of" DA f fd)(T:Txt mg)
  (G:aO P w K mg base 1 "_law_seats" ["_law_rows"] nh) :
  aI P w K mg base bB 2 f fd ["_law_rows","_law_big_here"] Jm:=by
 refine F.gb ko (λvs H Q E h=>?_) λb0 H vs Q E hr h=>?_
 ·obtain⟨R,as,n,b,rfl,_⟩:=h;rfl
 obtain⟨R,as,n,b,rfl,hR,h1,h2,q⟩:=h;have nd:=ko.nd;show Run _ _ _ [some<|.ref R,some<|.int b,none,none,none] H;refine aW 2 nd<|Rw rfl T.sorted T.gd G hr (ae 0 ⟨R,as,n,rfl,hR,h1,h2,λl ss H1 s1 n1 e1 l1 so1 m1=>?_⟩);refine aW 3 nd<|cY<|ay ⟨Z0,λl2 fN=>?_⟩;have s2:=aS fN<|Ls [];show Run _ _ _ [some<|.ref R,some<|.int b,some<|.ref l,some<|.ref l2,none] (upd H1 l2<|Ls []);have nl:l≠l2:=bg e1 fN;refine iS<|ae 2 ⟨l,rfl,⟨_,aq.of<|s2 _ _ e1⟩,iT (xs:=ss.map V.str) (λi σ H3=>∃(bb:Int) (tt:List Str) (u:Option V),tt.Sublist (ss.take i)/\H3=upd H1 l2 (Ls tt)/\σ=[some<|.ref R,some<|.int bb,some<|.ref l,some<|.ref l2,u]) ⟨b,[],_,List.nil_sublist _,rfl,rfl⟩ ?_ ?_ ?_⟩
 ·rintro i σ H3 _ ⟨bb,tt,u,hl,rfl,rfl⟩;exact aq.of<|by rw [av nl];exact e1
 ·rintro i x σ H3 hx ⟨bb,tt,u,hl,rfl,rfl⟩;have hi:i < ss.length:=by
   have:=(Ac.mp hx).1;rw [Aa] at this;exact this
  rw [Ah,Aw] at hx;obtain⟨z,hz,rfl⟩:=hx;have jA:ss.take (i+1)=ss.take i++[z]:=by rw [Cg,hz];rfl
  have js:tt.length<=i:=Bs hl.length_le (by rw [Bf];omega);refine bf 4 nd ?_;refine B8 True True (λσ' H'=>∃(tt:List Str),tt.Sublist (ss.take<|i+1)/\H'=upd H1 l2 (Ls tt)/\σ'=[some<|.ref R,some<|.int bb,some<|.ref l,some<|.ref l2,some<|.str z]) (λT' qq=>?_) (λ_=>?_) (λ_=>aY ⟨tt,by rw [jA];exact hl.trans<|List.sublist_append_left _ _,rfl,rfl⟩) ?_
  ·exact cb gN<|aZ cG<|ae 1<|aC ⟨_,_,rfl,rfl,(by show(0:Int) < 2;decide),aC ⟨rfl,_,rfl,qq _ (λ_=>trivial) λ_=>trivial⟩⟩
  ·refine gC<|jr<|ae 3 ⟨l2,rfl,⟨_,aw⟩,ae 4 ⟨_,aw,?_,?_⟩⟩
   ·rw [Aa];exact bS<|by omega
   ·rw [oe];refine aY ⟨tt++[z],by rw [jA];exact hl.append<|List.Sublist.refl _,?_,rfl⟩;exact tR
  ·rintro σ' H' ⟨tt2,eY,rfl,rfl⟩;exact aW 1 nd<|aZ ic<|ae 1<|aC ⟨_,_,rfl,rfl,⟨by decide,by decide⟩,aY ⟨_,tt2,_,eY,rfl,rfl⟩⟩
 ·rintro σ H3 ⟨bb,tt,u,hl,rfl,rfl⟩;rw [Aa,Bu] at hl;have js:=hl.length_le;refine bO<|eF<|ah<|ae 3<|ah<|ae 1<|ay ⟨Z2,λp hp=>?_⟩;have np:l2≠p:=λe=>by rw [<- e,aw] at hp;cases hp
  have j8:H1 p=none:=by rw [av<|CG np] at hp;exact hp
  refine q p l2 tt bb _ (λc o hc=>?_) (g6 s1 j8) aw (by rw [av np,aw]) (by omega) (so1.sublist hl) λz hz=>(m1 z).mp<|hl.subset hz;rw [av<|bg (s1 _ _ hc) j8,av<|bg (s1 _ _ hc) fN];exact s1 _ _ hc
def Jn:Sp:=λvs H Q _=>∃(a b:Addr) (xs ys:List Str),vs=[.ref a,.ref b]/\H a=some (Ls xs)/\H b=some (Ls ys)/\xs.length+ys.length<=60 /\
 ∀ l ss H',aj H H'->H l=none->H' l=some (Ls ss)->ss.Nodup->sortedS ss=true->(∀ z,z∈ss↔(xs++ys).count z=1)->Q (.ref l) H'
theorem q0y{X:Cx}{o e f:Expr}{σ:St}{H:Hp}{Q:VK}{ap cp:Pos}(hu:X.A.units+1 < cLine)(h:Ev X o σ H λx H1=>∃ a,x = .ref a/\z9 H1 a/\Ev X e σ H1 λy H2=>Ev X f σ H2 λz H3=>∃ r,aV H3 a y r/\Q (r.getD z) H3)
  (m:M2 X o "get" ap e f cp:=by exact⟨rfl,rfl,rfl,rfl⟩):Ev X (.Call (.Attribute o "get" ap) [e,f] [] cp) σ H Q:=dc (VU hu bt bt bt m) h
abbrev R1:List Str:=["_law_one","_law_other_here","_law_count","_law_tie"]
abbrev vY:List Str:=["_law_one","_law_other_here","_law_count","?","_law_tie"]
theorem n8:ak R1 ["_law_one","_law_other_here"] (a8 xC):=⟨rfl,rfl,rfl,by decide +kernel,rfl,by decide +kernel,by decide +kernel⟩
theorem q9m:vY.Nodup:=by decide +kernel
theorem q8g{f:Addr}{fd:FuncData}(F:bE K "_law_sum" "_law_sum" xC f fd)(T:Txt mg):aI P w K mg base bB 1 f fd ["_law_one","_law_other_here"] Jn:=by
 refine F.gb n8 (λvs H Q E h=>?_) λb0 H vs Q E hr h=>?_
 ·obtain⟨a,b,xs,ys,rfl,_⟩:=h;rfl
 obtain⟨a,b,xs,ys,rfl,ha,hb,hl,q⟩:=h;have nd:=n8.nd;have hu:=hr.u1;show Run _ _ _ [some<|.ref a,some<|.ref b,none,none] H;refine aW 2 nd<|xc λd hd=>?_;have s1:=aS hd<|.dK [];refine iS<|aZ zQ<|ae 0<|ae 1 ⟨a,b,_,_,rfl,rfl,s1 _ _ ha,s1 _ _ hb,?_,λp hp=>⟨p,rfl,⟨_,aq.of aw⟩,?_⟩⟩
 ·rw [Aa,Aa];exact small<|by omega
 have Jo:p≠d:=by
  intro e;rw [e,aw] at hp;cases hp
 have Jp:H p=none:=by rw [av Jo] at hp;exact hp
 have hS:aj H (upd H p<|Ls<|xs++ys):=aS Jp _;have eL:xs.map V.str++ys.map V.str=(xs++ys).map V.str:=by rw [Aj]
 rw [eL];have yl:(xs++ys).length<=60:=by rw [Af];exact hl
 generalize xs++ys=L at hS q yl ⊢;refine iT (xs:=L.map V.str) (λi σ H3=>∃ kvs ks u,cP (L.take i) kvs ks/\aj (upd H p<|Ls L) H3/\H3 d=some (.dK kvs)/\σ=[some<|.ref a,some<|.ref b,some<|.ref d,u]) ⟨[],[],_,cP.start,?_,?_,rfl⟩ ?_ ?_ ?_
 ·intro c o hc
  by_cases e:c=p
  ·subst e;rw [aw] at hc ⊢;exact hc
  ·rw [av e] at hc ⊢;rw [av<|bg hc hd];exact hc
 ·rw [av<|CG Jo,aw]
 ·rintro i σ H3 _ ⟨kvs,ks,u,C,sm,ed,rfl⟩;exact aq.of<|sm _ _ aw
 ·rintro i x σ H3 hx ⟨kvs,ks,u,C,sm,ed,rfl⟩;rw [Ah,Aw] at hx;obtain⟨z,hz,rfl⟩:=hx;have hi:i < L.length:=(Ac.mp hz).1;have lX:kvs.length < sizeLine:=by
   have:=C.len;rw [Bf] at this;exact bS<|by omega
  refine bf 3 nd ?_;refine qZ hu<|aZ fI<|q0y hu<|ae 2 ⟨d,rfl,.inl ⟨kvs,.inl ed⟩,ae 3<|aC ⟨_,aV.k (k:=Sum.inr z) ed,?_⟩⟩;have eg:(aB kvs<|Sum.inr z).getD (.int 0) = .int ((L.take i).count z):=by
   rw [C.val z]
   by_cases hm:z∈L.take i
   ·rw [BP hm];rfl
   ·rw [BL hm,List.count_eq_zero.mpr hm];rfl
  rw [eg];obtain⟨ER,C'⟩:=C.put z;refine aC ⟨_,_,rfl,rfl,ae 2<|ae 3 ⟨d,_,rfl,bU.k (k:=Sum.inr z) ed lX,aY ⟨_,ER,_,?_,?_,aw,rfl⟩⟩⟩
  ·rw [Cg,hz];exact C'
  ·exact dN sm<|by rw [av<|CG Jo];exact hd
 ·rintro σ H3 ⟨kvs,ks,u,C,sm,ed,rfl⟩;rw [Aa,Bu] at C;have lX:ks.length<=60:=by
   have e:=BZ List.length C.keys;rw [Aa,Aa] at e;have:=C.len;omega
  refine bO<|bW tL T.sorted DR<|ah<|gR (a8 xC) R1 vY 1 (Nq bt)<|ae 2 ⟨d,kvs,rfl,ed,λo D hD=>?_⟩;have nD:D≠d:=by
   intro e;rw [e,aw] at hD;cases hD
  have rW:H3 D=none:=by rw [av nD] at hD;exact hD
  have key:∀(i:Nat) p,kvs[i]?=some p->∃ z,ks[i]?=some z/\p.1=Sum.inr z:=λi p hp=>by
   have e:(kvs.map (·.1))[i]?=(ks.map Sum.inr)[i]?:=by rw [C.keys]
   rw [Ah,hp,Ah] at e;cases hk:ks[i]? with
   | none=>rw [hk] at e;cases e
   | some z=>rw [hk] at e;exact⟨z,rfl,Option.some.inj e⟩
  have AB:kvs.length=ks.length:=by
   have e:=BZ List.length C.keys;rw [Aa,Aa] at e;exact e
  refine Nr (λi σ' H'=>(∃ v,σ'=[some<|.ref a,some<|.ref b,some<|.ref d,u]++[v])/\H'=upd (upd H3 d<|.bD o<|.dK kvs) D (Ls<|(ks.take i).filter λz=>decide (L.count z=1))) ⟨⟨none,rfl⟩,rfl⟩ ?_ ?_ ?_
  ·rintro i σ' H' _ ⟨_,rfl⟩;rw [av<|CG nD,aw]
  ·rintro i p' σ' H' gJ ⟨⟨v,rfl⟩,rfl⟩;obtain⟨z,hz,ez⟩:=key i p' gJ;rw [ez];intro cl C' s₀ H₀ ex;refine bf 4 q9m ?_;intro cl C' s₀ H₀ ex;have hzL:z∈L:=(C.mem z).mp<|Ap hz;have ev:aB kvs (Sum.inr z)=some (.int<|L.count z):=by rw [C.val z,BP hzL]
   have dg:aV (upd (upd H3 d<|.bD o<|.dK kvs) D<|Ls<|(ks.take i).filter λz=>decide (L.count z=1)) d (kV<|Sum.inr z) (some<|.int<|L.count z):=by
    rw [<- ev];exact .inl ⟨kvs,Sum.inr z,.inr ⟨o,by rw [av<|CG nD,aw]⟩,rfl,rfl⟩
   refine lK<|cb gN<|f7 hu<|ae 2<|ae 4 ⟨d,_,rfl,dg,aC ⟨rfl,_,rfl,?_⟩⟩;have e:(ks.take<|i+1).filter (λz=>decide (L.count z=1))=(ks.take i).filter (λz=>decide (L.count z=1))++(if L.count z=1 then [z] else []):=by
    rw [Cg,hz,Cn]
    congr 1
    by_cases hf:L.count z=1 <;> simp [hf]
   have hlen:((ks.take i).filter λz=>decide (L.count z=1)).length<=ks.length:=Bs (Ct _ _)<|by rw [Bf];omega
   by_cases hf:L.count z=1
   ·rw [BP<|BW<|by rw [hf];rfl];intro cl C' s₀ H₀ ex;refine ae 4 ⟨_,aw,by rw [Aa];exact bS (by omega),⟨_,rfl⟩,?_⟩;rw [oe,e,BP hf];exact tR
   ·rw [BL λq=>hf<|by have:=V.int.inj<|BX q;omega];refine⟨⟨_,rfl⟩,?_⟩;rw [e,BL hf,Bi]
  ·rintro σ' H' ⟨_,rfl⟩;rw [AB,Bu];refine ay ⟨D,_,rfl,aq.of aw,?_,λl ss eY gJ iW=>?_⟩
   ·have:=Ct (λz=>decide (L.count z=1)) ks;omega
   have nQ:l≠D:=λe=>by rw [e,aw] at eY;cases eY
   have nld:l≠d:=λe=>by rw [e,av<|CG nD,aw] at eY;cases eY
   have R3:H3 l=none:=by rw [av nQ,av nld] at eY;exact eY
   have h3:aj H H3:=hS.trans sm;have jl:H l=none:=by
    cases e:H l with
    | none=>rfl
    | some v=>rw [h3 _ _ e] at R3;cases R3
   have qd:H D=none:=by
    cases e:H D with
    | none=>rfl
    | some v=>rw [h3 _ _ e] at rW;cases rW
   refine q l ss _ (λc o' hc=>?_) jl aw (gJ.nodup_iff.mpr<|C.nodup.filter _) iW λz=>?_
   ·rw [av<|bg hc jl,av<|bg hc qd,av<|bg hc hd];exact h3 _ _ hc
   ·rw [gJ.mem_iff,Bh,C.mem z,DN];refine⟨λh=>h.2,λh=>⟨?_,h⟩⟩;exact Cq.mp<|by omega
open PyProof.Rows (sortedS)
open Classical
def vZ(n:Net)(ss:List Str)(H:Hp)(t:Addr):Prop:=
 (∃ L c,H t=some (.tup [.str "odd",.ref L])/\H L=some (Ls c)/\cj c/\(∀ z∈c,z∈ag n)/\fm n c=true/\(∃ sd,bC n c sd)/\(c.filter λz=>ss.contains z).length % 2=1) \/
 ∃ L M rs cs,H t=some (.tup [.str "parts",.ref L,.ref M])/\H L=some (Ls rs)/\H M=some (Ls cs)/\cj rs/\cj cs/\(∀ z∈rs,z∈ag n)/\(∀ z∈cs,z∈ag n)/\fm n rs=true/\(∃ sd,bC n cs sd)/\kj rs cs ss
theorem vZ.same{n:Net}{ss:List Str}{H H':Hp}{t:Addr}(h:vZ n ss H t)(s:aj H H'):vZ n ss H' t:=by
 rcases h with ⟨L,c,h1,h2,r⟩ | ⟨L,M,rs,cs,h1,h2,h3,r⟩
 ·exact .inl ⟨L,c,s _ _ h1,s _ _ h2,r⟩
 ·exact .inr ⟨L,M,rs,cs,s _ _ h1,s _ _ h2,s _ _ h3,r⟩
theorem q09{a b c:List Str}(h:kj a b c):kj c b a:=λz=>by
 have:=h z
 by_cases x:z∈a <;> by_cases y:z∈b <;> simp [x,y] at this <;> simp [x,y,this]
theorem q8x{n:Net}(T:ax n)(hf:HF n)(hN:(cm n).Nodup)(h0:0 < n.length){cs:List (List Str)}(C:di n cs){c:List Str}(hc:c∈cs):cj c/\(∀ z∈c,z∈ag n)/\fm n c=true/\∃ sd,bC n c sd:=by
 obtain⟨i,hi⟩:=Bp hc;have jo:=(Ac.mp hi).1;rw [C.len] at jo;have jD:=Ab jo;have hw:=Ap jD;have wk:=nA T (ends n) [] (λe he=>he) _ hw;have m:=C.mem i _ _ hi jD;exact⟨C.nK c hc,yB wk.ends m,k8d T hw m,k8m T hf hN h0 hw m⟩
def Jq:Sp:=λvs H Q _=>∃(R p t:Addr) (as:List<|Addr×Addr) (n:Net) (ss:List Str),vs=[.ref R,.ref p,.ref t]/\ai H R as n/\(cm n).Nodup/\ax n/\dk n/\0 < n.length/\n.length<=31/\(ag n).length<=60/\H p=some (Ls ss)/\cj ss/\vZ n ss H t/\∀ H',aj H H'->Q (.bl true) H'
def Jr:Sp:=λvs H Q _=>∃(R p:Addr) (as:List<|Addr×Addr) (n:Net) (ss:List Str),vs=[.ref R,.ref p]/\ai H R as n/\(cm n).Nodup/\ax n/\HF n/\0 < n.length/\n.length<=31/\(ag n).length<=60/\H p=some (Ls ss)/\cj ss/\(∀ z∈ss,z∈ag n)/\∀ H',aj H H'->Q (.bl true) H'
def yL(K:PySem.W.Frag):Sp:=λvs H Q _=>∃(a:Addr) (ns:List Int),vs=[.ref a]/\aq K H a (ns.map V.int)/\ns.length<=63/\∀ H',Q (.bl true) H'
abbrev R5:List Str:=["_law_rows","_law_some","_law_told","_law_ties"]
abbrev v5:List Str:=["_law_rows","_law_some","_law_told","_law_ties","_law_tie"]
theorem v6:ak R5 ["_law_rows","_law_some","_law_told"] (a8 xF):=⟨rfl,rfl,rfl,by decide +kernel,rfl,by decide +kernel,by decide +kernel⟩
theorem q51:v5.Nodup:=by decide +kernel
theorem k9z{f:Addr}{fd:FuncData}(F:bE K "_law_shown" "_law_shown" xF f fd)(T:Txt mg)(GS:aO P w K mg base 3 "_law_seats" ["_law_rows"] nh)(GI:aO P w K mg base 3 "_law_is_set" ["_law_found","_law_ties"] Jc)(GR:aO P w K mg base 3 "_law_is_round" ["_law_rows","_law_some"] Jb)(GD:aO P w K mg base 3 "_law_side" ["_law_rows","_law_some"] Jd)(GM:aO P w K mg base 3 "_law_sum" ["_law_one","_law_other_here"] Jn):aI P w K mg base bB 4 f fd ["_law_rows","_law_some","_law_told"] Jq:=by
 refine F.gb v6 (λvs H Q E h=>?_) λb0 H vs Q E hr h=>?_
 ·obtain⟨R,p,t,as,n,ss,rfl,_⟩:=h;rfl
 obtain⟨R,p,t,as,n,ss,rfl,hR,hN,hT,hg,h0,hn,dw,hp,fc,ok,q⟩:=h;have nd:=v6.nd;have un:=hr.fQ;show Run _ _ _ [some<|.ref R,some<|.ref p,some<|.ref t,none] H;refine aW 3 nd (bn GS hr<|ah<|ae 0<|ay ⟨R,as,n,rfl,hR,by omega,by omega,λd ks H1 s1 n1 S1=>?_⟩);show Run _ _ _ [some<|.ref R,some<|.ref p,some<|.ref t,some<|.ref d] H1;have yM:=hR.same s1;have j8:=s1 _ _ hp
 rcases ok.same s1 with ⟨L,c,et,eL,so,mem,jz,⟨sd,Js⟩,kN⟩ | ⟨L,M,rs,cs,et,eL,eM,sg,k4,R9,Jt,jz,⟨sd,Js⟩,hx⟩
 ·have lc:=j6 hT (eQ so) mem;refine du<|kC<|lH<|ji<|jj<|bW wH T.xG HJ<|ah<|ae 2<|ah<|wK (.ty "tuple") T.jU RT rfl (ay ⟨_,_,_,true,rfl,.tup et,uF K,true,rfl,bj ?_⟩);refine lH<|cb zu<|bW cX T.len DK<|ah<|ae 2<|ay ⟨t,_,rfl,.inr<|aJ.of et,aC ⟨_,_,rfl,rfl,_,rfl,bj ?_⟩⟩;refine qL (ji<|jj<|bn GI hr<|ah<|aU bJ<|ae 2<|aC ⟨t,_,_,.ref L,rfl,rfl,aJ.of et,rfl,ah<|ae 3<|ay ⟨L,d,c,n,ks,rfl,eL,by omega,S1,so,mem,true,rfl,bj<|aY ?_⟩⟩);refine du<|kC<|wL<|cb gN<|aU bJ<|ae 2<|aC ⟨t,_,_,.str "odd",rfl,rfl,aJ.of et,rfl,m4 ⟨rfl,_,rfl,?_⟩⟩;rw [BW rfl];refine cM<|AX<|cb gN<|bW cX T.len DK<|ah<|ae 2<|ay ⟨t,_,rfl,.inr<|aJ.of et,aC ⟨rfl,_,rfl,cM ?_⟩⟩;refine du (kC<|lH<|ji<|jj<|bn GR hr<|ah<|ae 0<|ah<|aU bJ<|ae 2<|aC ⟨t,_,_,.ref L,rfl,rfl,aJ.of et,rfl,ay ⟨R,L,as,n,c,rfl,yM,by omega,by omega,eL,λH2 s2=>⟨_,rfl,?_⟩⟩⟩);rw [jz];have i5:=s2 _ _ et;have Sd:=s2 _ _ eL;refine bj (qL<|cb KL<|bn GD hr<|ah<|ae 0<|ah<|aU bJ<|ae 2<|aC ⟨t,_,_,.ref L,rfl,rfl,aJ.of i5,rfl,ay ⟨R,L,as,n,c,rfl,yM.same s2,hT,hg,hN,h0,by omega,dw,Sd,mem,λD g5 H3 s3 n3 e3 qN=>AT ⟨rfl,_,rfl,?_⟩,λH3 s3 sQ=>absurd Js<|sQ sd⟩⟩);rw [BR λh=>by cases h];refine bj<|aY ?_;have Se:=s3 _ _ Sd;have si:=s2.trans s3;have kQ:=si _ _ j8;refine bO<|kA gN<|aZ cG<|bW cX T.len DK<|ah<|gR (a8 xF) R5 v5 1 (gA bt)<|aU bJ<|ae 2<|aC ⟨t,_,_,.ref L,rfl,rfl,aJ.of<|s3 _ _ i5,rfl,L,rfl,⟨_,aq.of Se⟩,λD4 Ju=>?_⟩;refine tU (σ:=[some<|.ref R,some<|.ref p,some<|.ref t,some<|.ref d]) (λz=>ss.contains z) (bS<|by omega) Se Ju (λcl C s0 H0 ex v v0 H' R' h=>bf 4 q51 h) (λcl C s0 H0 ex z zs T' h=>lK<|cb mU<|ae 4<|ae 1 ⟨p,_,rfl,.inl (aq.of<|by rw [av<|bg kQ Ju];exact kQ),rfl,nq _,_,rfl,?_⟩) (λcl C s0 H0 ex z H' R' h=>ae 4 h) ?_
  ·have fF:∀(x y:Bool),(if false=true then x else y)=y:=λ_ _=>rfl;rw [fF,nn];exact h
  refine ay ⟨D4,_,rfl,.inl<|aq.of aw,aC ⟨_,_,rfl,rfl,(by show(0:Int) < 2;decide),aC ⟨rfl,?_⟩⟩⟩;rw [Aa,BW<|BZ V.int<|by omega];exact q _<|(s1.trans si).trans<|aS Ju _
 ·have lL:=j6 hT (eQ sg) R9;have lM:=j6 hT (eQ k4) Jt;refine du<|kC<|lH<|ji<|jj<|bW wH T.xG HJ<|ah<|ae 2<|ah<|wK (.ty "tuple") T.jU RT rfl (ay ⟨_,_,_,true,rfl,.tup et,uF K,true,rfl,bj ?_⟩);refine lH<|cb zu<|bW cX T.len DK<|ah<|ae 2<|ay ⟨t,_,rfl,.inr<|aJ.of et,aC ⟨_,_,rfl,rfl,_,rfl,bj ?_⟩⟩;refine qL (ji<|jj<|bn GI hr<|ah<|aU bJ<|ae 2<|aC ⟨t,_,_,.ref L,rfl,rfl,aJ.of et,rfl,ah<|ae 3<|ay ⟨L,d,rs,n,ks,rfl,eL,by omega,S1,sg,R9,true,rfl,bj<|aY ?_⟩⟩);refine du<|kC<|wL<|cb gN<|aU bJ<|ae 2<|aC ⟨t,_,_,.str "parts",rfl,rfl,aJ.of et,rfl,m4 ⟨rfl,_,rfl,?_⟩⟩;rw [BR<|by decide];refine bj<|bj<|aY ?_;refine du<|kC<|lH<|cb sK<|aU bJ<|ae 2<|aC ⟨t,_,_,.str "parts",rfl,rfl,aJ.of et,rfl,m4 ⟨rfl,_,rfl,?_⟩⟩;rw [BW rfl];refine bj<|lH<|cb sK<|bW cX T.len DK<|ah<|ae 2<|ay ⟨t,_,rfl,.inr<|aJ.of et,aC ⟨rfl,_,rfl,bj ?_⟩⟩;refine qL (ji<|jj<|bn GI hr<|ah<|aU bJ<|ae 2<|aC ⟨t,_,_,.ref M,rfl,rfl,aJ.of et,rfl,ah<|ae 3<|ay ⟨M,d,cs,n,ks,rfl,eM,by omega,S1,k4,Jt,true,rfl,bj<|aY ?_⟩⟩);refine du (kC<|lH<|ji<|jj<|bn GR hr<|ah<|ae 0<|ah<|aU bJ<|ae 2<|aC ⟨t,_,_,.ref L,rfl,rfl,aJ.of et,rfl,ay ⟨R,L,as,n,rs,rfl,yM,by omega,by omega,eL,λH2 s2=>⟨_,rfl,?_⟩⟩⟩);rw [jz];have i5:=s2 _ _ et;refine bj (qL<|cb KL<|bn GD hr<|ah<|ae 0<|ah<|aU bJ<|ae 2<|aC ⟨t,_,_,.ref M,rfl,rfl,aJ.of i5,rfl,ay ⟨R,M,as,n,cs,rfl,yM.same s2,hT,hg,hN,h0,by omega,dw,s2 _ _ eM,Jt,λD g5 H3 s3 n3 e3 qN=>AT ⟨rfl,_,rfl,?_⟩,λH3 s3 sQ=>absurd Js<|sQ sd⟩⟩);rw [BR λh=>by cases h];refine bj<|aY ?_;have si:=s2.trans s3;have kU:=s3 _ _ i5;refine bO (kA (w9 un)<|bn GM hr<|ah<|aU bJ<|ae 2<|aC ⟨t,_,_,.ref L,rfl,rfl,aJ.of kU,rfl,ah<|aU bJ<|ae 2<|aC ⟨t,_,_,.ref M,rfl,rfl,aJ.of kU,rfl,ay ⟨L,M,rs,cs,rfl,si _ _ eL,si _ _ eM,by omega,λl us H4 s4 n4 e4 ndu sou mu=>?_⟩⟩⟩);have eus:us=ss:=by
   refine Oy (rF sou ndu) fc λz=>?_;rw [mu z,hx z,Dk];have c1:=Fk.mp (eQ sg) z;have c2:=Fk.mp (eQ k4) z;have p1:=Cq (a:=z) (l:=rs);have p2:=Cq (a:=z) (l:=cs)
   by_cases x:z∈rs <;> by_cases y:z∈cs
   ·have:=p1.mpr x;have:=p2.mpr y;rw [BP x];exact⟨λh=>by omega,λh=>absurd y h⟩
   ·have:=p1.mpr x;have:=Cw y;rw [BP x];exact⟨λ_=>y,λh=>by omega⟩
   ·have:=Cw x;have:=p2.mpr y;rw [BL x];exact⟨λ_=>y,λh=>by omega⟩
   ·have:=Cw x;have:=Cw y;rw [BL x];exact⟨λh=>by omega,λh=>absurd h y⟩
  subst eus;have Sg:=si.trans s4;exact ae 1 ⟨1,true,by decide,Gv e4<|Sg _ _ j8,q _<|s1.trans Sg⟩
abbrev NRg:List Str:=["_law_rows","_law_some","_law_handed","_law_asked","_law_told","_law_one"]
theorem v7:ak NRg ["_law_rows","_law_some"] (a8 DC):=⟨rfl,rfl,rfl,by decide +kernel,rfl,by decide +kernel,by decide +kernel⟩
structure Tld(n:Net)(ss:List Str)(H0 H:Hp)(t:Addr)(ls:List Addr):Prop where
 sm:aj H0 H
 ok:vZ n ss H t
 tup:∃ v,H t=some (.tup<|v :: ls.map V.ref)
 two:1<=ls.length/\ls.length<=2
 new:∀ l∈ls,H0 l=none/\∃ xs,H l=some (.lst xs)/\xs.length<=60
theorem Sh{X:Cx}{σ:St}{H:Hp}{Q:VK}{e1 e2:Expr}{p1 p2:Pos}(G:aO X.prog X.w X.K X.mg X.base 7 "parted" ["rows","some"] yI)(hr:bz 7 X.A){R p:Addr}{as:List (Addr×Addr)}{n:Net}{ss:List Str}(hR:ai H R as n)(hN:(cm n).Nodup)(hT:ax n)(hf:HF n)(h0:0 < n.length)(hn:n.length<=31)(dw:(ag n).length<=60)(hp:H p=some (Ls ss))(fc:cj ss)(jv:∀ z∈ss,z∈ag n)
  (ha:∀{Q'},Q' [.ref R,.ref p] H->Ea X [e1,e2] σ H Q') (h:∀ t ls H',Tld n ss H H' t ls->Q (.ref t) H') (hg:Gl X "parted":=by rfl) (hs:noStar [e1,e2]=true:=by rfl):Ev X (.Call (.Name "parted" p1) [e1,e2] [] p2) σ H Q:=by
 have HK:=j6 hT (eQ fc) jv;refine bn G hr (ha ⟨R,p,as,n,ss,rfl,hR,hN,hT,hf,hn,dw,hp,eQ fc,jv,λt L c H' sm nt nL et eL ⟨cs,C,hc⟩ kN=>?_,λt L M rs cs ps H' sm nt nL nM hLM et eL eM ec sg k4 jz g9 hx=>?_⟩) hg rfl hs
 ·obtain⟨a1,a2,a3,a4⟩:=q8x hT hf hN h0 C hc;have lc:=j6 hT (eQ a1) a2;refine h t [L] H' ⟨sm,.inl ⟨L,c,et,eL,a1,a2,a3,a4,kN⟩,⟨_,et⟩,⟨Al _,by show 1<=2;decide⟩,λl hl=>?_⟩;rw [Ad.mp hl];exact⟨nL,_,eL,by rw [Aa];omega⟩
 ·have mM:∀ z∈cs,z∈ag n:=λz hz=>xY<|(g9 z).mp hz;have mL:∀ z∈rs,z∈ag n:=λz hz=>by
   have:=(hx z).mp hz
   by_cases k:z∈ss
   ·exact jv z k
   ·rw [BL k] at this;exact mM z this
  have lL:=j6 hT (eQ sg) mL;have lM:=j6 hT (eQ k4) mM;refine h t [L,M] H' ⟨sm,.inr ⟨L,M,rs,cs,et,eL,eM,sg,k4,mL,mM,jz,q1e hT h0 ⟨k4,ps,g9⟩,q09 hx⟩,⟨_,et⟩,⟨by show 1<=2;decide,Al _⟩,λl hl=>?_⟩
  rcases Ak.mp hl with rfl | hl
  ·exact⟨nL,_,eL,by rw [Aa];omega⟩
  ·rw [Ad.mp hl];exact⟨nM,_,eM,by rw [Aa];omega⟩
theorem q1s{f:Addr}{fd:FuncData}(F:bE K "_law_right" "_law_right" DC f fd)(T:Txt mg)(GC:aO P w K mg base 7 "_law_copy" ["_law_rows"] FX)(GP:aO P w K mg base 7 "parted" ["rows","some"] yI)(GW:aO P w K mg base 7 "_law_shown" ["_law_rows","_law_some","_law_told"] Jq):aI P w K mg base bB 8 f fd ["_law_rows","_law_some"] Jr:=by
 refine F.gb v7 (λvs H Q E h=>?_) λb0 H vs Q E hr h=>?_
 ·obtain⟨R,p,as,n,ss,rfl,_⟩:=h;rfl
 obtain⟨R,p,as,n,ss,rfl,hR,hN,hT,hf,h0,hn,dw,hp,fc,jv,q⟩:=h;have nd:=v7.nd;have un:=hr.fQ;show Run _ _ _ [some<|.ref R,some<|.ref p,none,none,none,none] H;refine aW 2 nd (bn GC hr<|ah<|ae 0<|ay ⟨R,as,n,rfl,hR,by omega,λC bs H1 s1 n1 f1 hC=>?_⟩);refine aW 3 nd<|lG Ld T.gd JK<|ah<|ae 1<|ay ⟨p,_,rfl,.inl<|aq.of<|s1 _ _ hp,λA hA=>?_⟩;have sA:=aS hA<|.lst<|ss.map V.str;have eA:(upd H1 A<|.lst<|ss.map V.str) A=some (Ls ss):=aw;show Run _ _ _ [some<|.ref R,some<|.ref p,some<|.ref C,some<|.ref A,none,none] (upd H1 A<|.lst<|ss.map V.str);generalize upd H1 A (.lst<|ss.map V.str)=H2 at sA eA;have qo:=s1.trans sA;have Si:=hC.same sA;have rY:=hR.same qo;have iP:=qo _ _ hp;refine aW 4 nd<|Sh GP hr Si hN hT hf h0 hn dw eA fc jv (λh=>ah<|ae 2<|ah<|ae 3<|ay h) λt ls H3 D=>?_;show Run _ _ _ [some<|.ref R,some<|.ref p,some<|.ref C,some<|.ref A,some<|.ref t,none] H3;have s3:=D.sm;refine du<|ji<|jj<|bn GW hr<|ah<|ae 0<|ah<|ae 1<|ah<|ae 4<|ay ⟨R,p,t,as,n,ss,rfl,rY.same s3,hN,hT,hf.1,h0,hn,dw,s3 _ _ iP,fc,D.ok,λH4 s4=>⟨true,rfl,bj<|aY ?_⟩⟩;obtain⟨v,et⟩:=D.tup;have et4:=s4 _ _ et;have v8:∀ l∈ls,H2 l=none/\∃ xs,H4 l=some (.lst xs)/\xs.length<=60:=λl hl=>let ⟨a,xs,b,c⟩:=D.new l hl;⟨a,xs,s4 _ _ b,c⟩
 have s24:=s3.trans s4;have fN:=D.two;have g9:dC (v :: ls.map V.ref) (some 1) none=ls.map V.ref/\¬(HT.bp (v :: ls.map V.ref).length 0 (some 1)=0/\HT.bp (v :: ls.map V.ref).length (v :: ls.map V.ref).length none=(v :: ls.map V.ref).length):=by
  match ls,fN with
  | [a],_=>exact⟨rfl,by show ¬(HT.bp 2 0 (some 1)=0/\HT.bp 2 2 none=2);decide⟩
  | [a,b],_=>exact⟨rfl,by show ¬(HT.bp 3 0 (some 1)=0/\HT.bp 3 3 none=3);decide⟩
  | [],h=>exact absurd h.1<|by decide
  | a :: b :: c :: r,h=>exact absurd h.2<|by simp
 refine V8<|AU U6<|ae 4<|AW<|aC ⟨1,rfl,AV ⟨t,_,rfl,aJ.of et4,g9.2,λp2 Jv=>⟨p2,rfl,⟨_,aJ.of aw⟩,?_⟩⟩⟩;rw [g9.1];have s5:=aS Jv<|.tup<|ls.map V.ref;have e5:(upd H4 p2<|.tup<|ls.map V.ref) p2=some (.tup<|ls.map V.ref):=aw;generalize upd H4 p2 (.tup<|ls.map V.ref)=H5 at s5 e5;have vO:=s24.trans s5;refine V9 (xs:=ls.map V.ref) (λi σ H'=>∃ u:Option V,aj H2 H'/\H' p2=some (.tup<|ls.map V.ref)/\(∀ l∈ls,∃ xs,H' l=some (.lst xs)/\xs.length<=60+i)/\σ=[some<|.ref R,some<|.ref p,some<|.ref C,some<|.ref A,some<|.ref t,u]) ⟨_,vO,e5,λl hl=>let ⟨_,xs,b,c⟩:=v8 l hl;⟨xs,s5 _ _ b,c⟩,rfl⟩ ?_ ?_ ?_
 ·rintro i σ H' _ ⟨_,_,e,_⟩;exact aJ.of e
 ·rintro i x σ H' hx ⟨u,sm,e,Sj,rfl⟩;rw [Ah,Aw] at hx;obtain⟨l,hl,rfl⟩:=hx;have jo:=(Ac.mp hl).1;have Sl:=Ap hl;obtain⟨xs,el,lx⟩:=Sj l Sl;refine bf 5 nd ?_;refine gC<|jr<|ae 5 ⟨l,rfl,⟨_,el⟩,m4 ⟨_,el,bS (by omega),aY ⟨_,dN sm (v8 l Sl).1,?_,λl' eY=>?_,rfl⟩⟩⟩
  ·rw [av<|ce e el λz=>nomatch z];exact e
  ·by_cases k:l'=l
   ·subst k;exact⟨_,aw,by rw [Af];show xs.length+1<=_;omega⟩
   ·obtain⟨ys,ey,ly⟩:=Sj l' eY;exact⟨ys,by rw [av k];exact ey,by omega⟩
 rintro σ H6 ⟨u,kZ,_,_,rfl⟩;have Sn:=Si.same kZ;have FE:=rY.same kZ;have hp6:=kZ _ _ iP;have Sq:=kZ _ _ eA;refine bO (LU<|kA (w9 un)<|ae 2<|ae 0 ⟨3,true,by decide,q1o Sn FE,true,rfl,?_⟩);rw [BP rfl];refine LU (kA (w9 un)<|ae 3<|ae 1 ⟨1,true,by decide,Gv Sq hp6,true,rfl,?_⟩);rw [BP rfl];refine V5<|bn GW hr<|ah<|ae 0<|ah<|ae 1<|ah<|Sh GP hr Sn hN hT hf h0 hn dw Sq fc jv (λh=>ah<|ae 2<|ah<|ae 3<|ay h) λt2 ls2 H7 D2=>?_;have Jw:=kZ.trans D2.sm;exact ay ⟨R,p,t2,as,n,ss,rfl,rY.same Jw,hN,hT,hf.1,h0,hn,dw,Jw _ _ iP,fc,D2.ok,λH8 s8=>q _<|(qo.trans Jw).trans s8⟩
def Good(n:Net)(H:Hp)(x:Addr):Prop:=∃ ss,H x=some (Ls ss)/\cj ss/\∀ z∈ss,z∈ag n
theorem Good.same{n:Net}{H H':Hp}{x:Addr}(h:Good n H x)(s:aj H H'):Good n H' x:=let ⟨ss,a,b⟩:=h;⟨ss,s _ _ a,b⟩
theorem Good.upd{n:Net}{H:Hp}{x y:Addr}{o:HO}(h:Good n H x)(bw:x≠y):Good n (upd H y o) x:=let ⟨ss,a,b⟩:=h;⟨ss,by rw [av bw];exact a,b⟩
abbrev NW:List Str:=["_law_script","_law_rows","_law_ties","_law_some","_law_big_here","_law_other_here","_law_one"]
abbrev Ss:List Str:=["_law_script","_law_rows","_law_ties","_law_some","_law_big_here","_law_other_here","_law_one","_law_tie"]
theorem n9:ak NW ["_law_script"] (a8 lW):=⟨rfl,rfl,rfl,by decide +kernel,rfl,by decide +kernel,by decide +kernel⟩
theorem q9k:Ss.Nodup:=by decide +kernel
theorem q7r{f:Addr}{fd:FuncData}(F:bE K "law" "law" lW f fd)(T:Txt mg)(GC:aO P w K mg base 9 "_law_cell_at" ["_law_script","_law_k"]<|xH K)(GB:aO P w K mg base 9 "_law_big" ["_law_script","_law_at"]<|DF K)(GN:aO P w K mg base 9 "_law_net_by" ["_law_big_here","_law_most","_law_stem"] FK)(GS:aO P w K mg base 9 "_law_seats" ["_law_rows"] nh)(GO:aO P w K mg base 9 "_law_some_of" ["_law_rows","_law_big_here"] Jm)(GR:aO P w K mg base 9 "_law_right" ["_law_rows","_law_some"] Jr):aI P w K mg base bB 10 f fd ["_law_script"] (yL K):=by
 refine F.gb n9 (λvs H Q E h=>?_) λb0 H vs Q E hr h=>?_
 ·obtain⟨a,ns,rfl,_⟩:=h;rfl
 obtain⟨a,ns,rfl,hS,h63,q⟩:=h;have nd:=n9.nd;show Run _ _ _ [some<|.ref a,none,none,none,none,none,none] H;refine aW 1 nd (bn GN hr<|ah<|bn GB hr<|ah<|ae 0<|ah<|aC<|ay ⟨a,ns,0,rfl,hS,by decide,λb1 H1 s1=>?_⟩);refine ah (aC<|ah<|bn GC hr<|ah<|ae 0<|ah<|aC<|ay ⟨a,ns,1,rfl,s1.seq hS,by decide,λc2=>?_⟩);refine ay ⟨b1,20,c2,rfl,by decide,by decide,λR as n H2 s2 n2 hR hT sf hF hHF dw Ht has=>?_⟩;have e24:((20:Int)).toNat=20:=rfl;rw [e24] at dw Ht;have h0:0 < n.length:=Dj.mpr hF.some;have um:aj H H2:=s1.trans s2;show Run _ _ _ [some<|.ref a,some<|.ref R,none,none,none,none,none] H2;refine aW 2 nd (Rw rfl T.sorted T.gd GS hr (ae 1 ⟨R,as,n,rfl,hR,by omega,by omega,λt tt H3 s3 n3 e3 l3 Sv m3=>?_⟩));have rQ:=um.trans s3;have mj:=hR.same s3;have js:=j6 hT (eQ Sv) λz hz=>(m3 z).mp hz;show Run _ _ _ [some<|.ref a,some<|.ref R,some<|.ref t,none,none,none,none] H3;refine qM (bn GO hr<|ah<|ae 1<|ah<|bn GB hr<|ah<|ae 0<|ah<|aC<|ay ⟨a,ns,2,rfl,rQ.seq hS,by decide,λb4 H4 s4=>?_⟩);refine ay ⟨R,as,n,b4,rfl,mj.same s4,by omega,by omega,λu A xs b5 H5 s5 n5 e5 eA lA soA mA=>?_⟩;refine iA rfl (aJ.of e5) (bf 3 nd<|bf 4 nd ?_);have rZ:=s4.trans s5;have uh:=mj.same rZ;have yn:=rQ.trans rZ;show Run _ _ _ [some<|.ref a,some<|.ref R,some<|.ref t,some<|.ref A,some<|.int b5,none,none] H5;refine qM (bn GO hr<|ah<|ae 1<|ah<|bn GB hr<|ah<|ae 0<|ah<|aC<|ay ⟨a,ns,3,rfl,yn.seq hS,by decide,λb6 H6 s6=>?_⟩);refine ay ⟨R,as,n,b6,rfl,uh.same s6,by omega,by omega,λu2 B ys b7 H7 s7 n7 e7 eB lB soB mB=>?_⟩;refine iA rfl (aJ.of e7) (bf 5 nd<|bf 4 nd ?_);have Jx:=s6.trans s7;have s37:=rZ.trans Jx;have pS:=uh.same Jx;have eA7:=Jx _ _ eA;have Sw:=s37 _ _ e3;show Run _ _ _ [some<|.ref a,some<|.ref R,some<|.ref t,some<|.ref A,some<|.int b7,some<|.ref B,none] H7;refine iS (aZ zQ<|cY<|ah<|ae 3<|ah<|ae 5<|ah<|cY<|ay ⟨Z0,λp0 Jp=>ah<|ae 2<|ay ⟨(by show 4<=sizeLine;decide),λp1 j8=>?_⟩⟩);have b0':=aS Jp<|.lst [];have Sx:=aS j8<|.lst [.ref A,.ref B,.ref p0,.ref t];have yN:(upd H7 p0<|.lst []) p0=some (Ls []):=aw;have Sy:(upd (upd H7 p0<|.lst []) p1<|.lst [.ref A,.ref B,.ref p0,.ref t]) p1=some (.lst<|([A,B,p0,t]:List Addr).map V.ref):=aw;have yN:=Sx _ _ yN;have sB:=b0'.trans Sx;generalize upd (upd H7 p0<|.lst []) p1 (.lst [.ref A,.ref B,.ref p0,.ref t])=HB at yN Sy sB;have Sz:=sB _ _ Sw;refine gR (a8 lW) NW Ss 1 (gA bt)<|ae 2 ⟨t,rfl,⟨_,aq.of Sz⟩,λD2 mI=>?_⟩;refine nj (xs:=tt.map V.str) (λi σ' H'=>(∃ v,σ'=[some<|.ref a,some<|.ref R,some<|.ref t,some<|.ref A,some<|.int b7,some<|.ref B,none]++[v])/\aj HB H'/\∃ us:List Addr,H' D2=some (.lst<|us.map V.ref)/\us.length=i/\∀ u∈us,Good n H' u/\u≠D2) ⟨⟨none,rfl⟩,aS mI _,[],aw,rfl,λu h=>(by cases h)⟩ ?_ ?_ ?_
 ·rintro i σ' H' _ ⟨_,sm,_⟩;exact aq.of<|sm _ _ Sz
 ·rintro i x σ' H' hx ⟨⟨v,rfl⟩,sm,us,eD,lu,v9⟩;have jo:=(Ac.mp hx).1;rw [Aa] at jo;rw [Ah,Aw] at hx;obtain⟨z,hz,rfl⟩:=hx;have g8:=(m3 z).mp<|Ap hz;intro cl C s₀ H₀ ex;refine bf 7 q9k ?_;intro cl C s₀ H₀ ex;refine jm<|cM ?_;intro cl C s₀ H₀ ex;refine cY<|ah<|ae 7<|ay ⟨Z1,λk hk=>?_⟩;have s2:=aS hk<|.lst [.str z];have ek:(upd H' k<|.lst [.str z]) k=some (Ls [z]):=aw;have vH:k≠D2:=λe=>by rw [e,eD] at hk;cases hk
  refine⟨_,s2 _ _ eD,by rw [Aa];exact bS (by omega),⟨_,rfl⟩,dN (sm.trans s2) mI,us++[k],?_,by rw [Af,lu];rfl,λu hu=>?_⟩
  ·rw [aw,Aj];rfl
  ·rcases Am.mp hu with h | h
   ·exact⟨((v9 u h).1.same s2).upd (v9 u h).2,(v9 u h).2⟩
   ·rw [Ad.mp h];exact⟨(show Good n _ k from⟨[z],ek,Eu _ _,λy hy=>by rw [Ad.mp hy];exact g8⟩).upd vH,vH⟩
 rintro σ' HC ⟨_,sC,us,eD2,uW,v9⟩;rw [Aa] at uW;have sBC:=sB.trans sC;refine⟨p1,D2,_,_,rfl,rfl,sC _ _ Sy,eD2,?_,λZ hZ=>⟨Z,rfl,⟨_,aq.of aw⟩,?_⟩⟩
 ·rw [Aa,Aa];exact small<|by show 4+us.length<=_;omega
 have sZ:=aS hZ<|.lst<|([A,B,p0,t]:List Addr).map V.ref++us.map V.ref;have eZ:(upd HC Z<|.lst<|([A,B,p0,t]:List Addr).map V.ref++us.map V.ref) Z=some (.lst<|([A,B,p0,t]++us).map V.ref):=by rw [aw,Aj]
 have wa:=sBC.trans sZ;have gZ:∀ x∈[A,B,p0,t]++us,Good n (upd HC Z<|.lst<|([A,B,p0,t]:List Addr).map V.ref++us.map V.ref) x:=λx hx=>by
  rcases Am.mp hx with h | h
  ·simp only [Ak,Cj,GZ] at h
   rcases h with rfl | rfl | rfl | rfl
   ·exact(show Good n H7 _ from⟨xs,eA7,soA,mA⟩).same wa
   ·exact(show Good n H7 _ from⟨ys,eB,soB,mB⟩).same wa
   ·exact(show Good n HB _ from⟨[],yN,List.Pairwise.nil,λz hz=>by cases hz⟩).same<|sC.trans sZ
   ·exact(show Good n H7 _ from⟨tt,Sw,Sv,λz hz=>(m3 z).mp hz⟩).same wa
  ·exact(v9 x h).1.same sZ
 rw [<- Aj] at *;generalize upd HC Z (.lst<|([A,B,p0,t]++us).map V.ref)=HD at eZ wa gZ;generalize [A,B,p0,t]++us=zs at eZ gZ;have hRD:=pS.same wa;refine iT (xs:=zs.map V.ref) (λi σ H'=>∃ u:Option V,aj HD H'/\σ=[some<|.ref a,some<|.ref R,some<|.ref t,some<|.ref A,some<|.int b7,some<|.ref B,u]) ⟨_,aj.refl _,rfl⟩ ?_ ?_ ?_
 ·rintro i σ H' _ ⟨_,sm,_⟩;exact aq.of<|sm _ _ eZ
 ·rintro i x σ H' hx ⟨u,sm,rfl⟩;rw [Ah,Aw] at hx;obtain⟨y,hy,rfl⟩:=hx;obtain⟨ss,ey,soy,my⟩:=(gZ y<|Ap hy).same sm;refine bf 6 nd ?_;exact du<|ji<|jj<|bn GR hr<|ah<|ae 1<|ah<|ae 6<|ay ⟨R,y,as,n,ss,rfl,hRD.same sm,sf,hT,hHF,h0,by omega,by omega,ey,soy,my,λb8 oD=>⟨true,rfl,bj<|aY<|aY ⟨_,sm.trans oD,rfl⟩⟩⟩
 ·rintro σ H' ⟨u,sm,rfl⟩;exact bO<|tu<|q H'
end
end E5
namespace E5
open PySem L2
theorem all_mk{l:PySem.W.OpenLaw}{w:World}{K:PySem.W.Frag}{h:Heap}{mg:Str->Option Value}{fa:Addr}(X:K.In h)(G:h.Ns mainGlobals mg)(BA:mg "law" = some (.ref fa))
  (h1:Df K "ends_round" xn) (h2:Df K "ends_in_order" xo) (h3:Df K "turned_left" CU) (h4:Df K "turned_right" CY) (h5:Df K "other_ends" C0) (h6:Df K "ties_by_end" xq) (h7:Df K "left_steps" xr) (h8:Df K "right_steps" xt) (h9:Df K "points_of" xu) (Jy:Df K "links_of" C1) (Jz:Df K "summed" C2) (JA:Df K "odd_points" gX) (JE:Df K "cut_of" xv) (JI:Df K "walkers_of" pj) (JO:Df K "walker_from" pk) (JP:Df K "core_of" tP) (JS:Df K "cores_of" xx) (JU:Df K "parted" xA) (JY:Df K "points_by" C3) (J0:Df K "lowered" C4) (J1:Df K "_law_cell_at" C5) (J2:Df K "_law_big" pq) (J3:Df K "_law_names" C6) (J5:Df K "_law_seats" C7) (J6:Df K "_law_other" C8) (J7:Df K "_law_step" C9) (J8:Df K "_law_face" Dt) (J9:Df K "_law_put" pv) (J':Df K "_law_net_by" px) (Ka:Df K "_law_copy" xB) (Kb:Df K "_law_some_of" DA) (Kc:Df K "_law_sum" xC) (Kd:Df K "_law_is_round" xD) (Ke:Df K "_law_side" xE) (Kf:Df K "_law_is_set" DB) (Kg:Df K "_law_shown" xF) (Kh:Df K "_law_right" DC) (hl:Df K "law" lW)
  (z:∀ x∈(["isinstance","tuple","str","int","bool","list","dict","set","enumerate","zip","len","range","sorted","max","all"]:List Str),PySem.W.nsIn K mainGlobals x=some none) :
  ∃ fd:FuncData,(∀(s:Shared) (v:Value),BindsTo s fd ⟨[v],[]⟩ [("_law_script",v)])/\∀ base:Heap,K.In base->base.Ns mainGlobals mg->aI l.prog w K mg base bB 10 fa fd ["_law_script"] (yL K):=by
 have T:Txt mg:=⟨CT X G (z _<|by simp),CT X G (z _<|by simp),CT X G (z _<|by simp),CT X G (z _<|by simp),CT X G (z _<|by simp),CT X G (z _<|by simp),CT X G (z _<|by simp),CT X G (z _<|by simp),CT X G (z _<|by simp),CT X G (z _<|by simp),CT X G (z _<|by simp),CT X G (z _<|by simp),CT X G (z _<|by simp),CT X G (z _<|by simp),CT X G<|z _<|by simp⟩;refine hl.law X G BA (λ_ _ _ _ _ _ s v=> .of_eq rfl) λbase f fd F=>?_;have G1:aO l.prog w K mg base 1 "ends_round" ["row"] ut:=h1.has X G (λ_ _ _ _ _ _=>jn λ_=>rfl) λF=>q5t F T;have G2:aO l.prog w K mg base 2 "ends_in_order" ["rows"] Gs:=h2.has X G (λ_ _ _ _ _ _=>jn λ_=>rfl) λF=>q1t F T (G1.mono<|by decide);have G3:aO l.prog w K mg base 1 "turned_left" ["end","many"] (i6 λj=>j+1):=h3.has X G (λ_ _ _ _ _ _=>fT λ_ _=>rfl) λF=>q4z F T;have G4:aO l.prog w K mg base 1 "turned_right" ["end","many"] (i6 λj=>j - 1):=h4.has X G (λ_ _ _ _ _ _=>fT λ_ _=>rfl) λF=>k6n F T;have G5:aO l.prog w K mg base 2 "other_ends" ["rows"] mr:=h5.has X G (λ_ _ _ _ _ _=>jn λ_=>rfl) λF=>q86 F T (G1.mono<|by decide);have G6:aO l.prog w K mg base 2 "ties_by_end" ["rows"] mF:=h6.has X G (λ_ _ _ _ _ _=>jn λ_=>rfl) λF=>q9j F T (G1.mono<|by decide);have G7:aO l.prog w K mg base 3 "left_steps" ["rows"] (ja 1):=h7.has X G (λ_ _ _ _ _ _=>jn λ_=>rfl) λF=>q9f F T (G5.mono<|by decide) (G3.mono<|by decide);have G8:aO l.prog w K mg base 3 "right_steps" ["rows"] (ja (-1)):=h8.has X G (λ_ _ _ _ _ _=>jn λ_=>rfl) λF=>q9i F T (G5.mono<|by decide) (G4.mono<|by decide);have G15:aO l.prog w K mg base 1 "walker_from" ["lefts","rights","first"] qf:=JO.has X G (λ_ _ _ _ _ _=>qP λ_ _ _=>rfl) λF=>q9t F T;have G14:aO l.prog w K mg base 4 "walkers_of" ["rows"] Hg:=JI.has X G (λ_ _ _ _ _ _=>jn λ_=>rfl) λF=>q8m F T (G7.mono<|by decide) (G8.mono<|by decide) (G6.mono<|by decide) (G2.mono<|by decide) (G15.mono<|by decide);have G16:aO l.prog w K mg base 3 "core_of" ["rows","walker"] IL:=JP.has X G (λ_ _ _ _ _ _=>fT λ_ _=>rfl) λF=>q5e F T (G6.mono<|by decide);have G17:aO l.prog w K mg base 5 "cores_of" ["rows"] IQ:=JS.has X G (λ_ _ _ _ _ _=>jn λ_=>rfl) λF=>q0g F T (G14.mono<|by decide) (G16.mono<|by decide);have G9:aO l.prog w K mg base 1 "points_of" ["rows"] IB:=h9.has X G (λ_ _ _ _ _ _=>jn λ_=>rfl) λF=>q8w F T;have G10:aO l.prog w K mg base 1 "links_of" ["rows"] HL:=Jy.has X G (λ_ _ _ _ _ _=>jn λ_=>rfl) λF=>q1x F T;have SA:aO l.prog w K mg base 2 "cut_of" ["rows","points"] yE:=JE.has X G (λ_ _ _ _ _ _=>fT λ_ _=>rfl) λF=>q6k F T (G10.mono<|by decide);have SD:aO l.prog w K mg base 1 "odd_points" ["rows","some"] yH:=JA.has X G (λ_ _ _ _ _ _=>fT λ_ _=>rfl) λF=>q6e F T;have SE:aO l.prog w K mg base 1 "summed" ["one","other"] yF:=Jz.has X G (λ_ _ _ _ _ _=>fT λ_ _=>rfl) λF=>k6q F T;have G20:aO l.prog w K mg base 2 "lowered" ["steps","points","odds"] IT:=J0.has X G (λ_ _ _ _ _ _=>qP λ_ _ _=>rfl) λF=>q6u F T (SE.mono<|by decide);have G19:aO l.prog w K mg base 4 "points_by" ["rows","odds"] qm:=JY.has X G (λ_ _ _ _ _ _=>fT λ_ _=>rfl) λF=>q85 F T (G9.mono<|by decide) (G20.mono<|by decide) (SD.mono<|by decide) (SA.mono<|by decide);have G18:aO l.prog w K mg base 6 "parted" ["rows","some"] yI:=JU.has X G (λ_ _ _ _ _ _=>fT λ_ _=>rfl) λF=>k7x F T (G17.mono<|by decide) (SA.mono<|by decide) (G19.mono<|by decide) (SD.mono<|by decide) (SE.mono<|by decide);have SF:aO l.prog w K mg base 1 "_law_cell_at" ["_law_script","_law_k"] (xH K):=J1.has X G (λ_ _ _ _ _ _=>fT λ_ _=>rfl) λF=>Yf F T;have G22:aO l.prog w K mg base 2 "_law_big" ["_law_script","_law_at"] (DF K):=J2.has X G (λ_ _ _ _ _ _=>fT λ_ _=>rfl) λF=>Yi F T (SF.mono<|by decide);have G23:aO l.prog w K mg base 1 "_law_names" ["_law_stem","_law_many"] DH:=J3.has X G (λ_ _ _ _ _ _=>fT λ_ _=>rfl) λF=>Yk F T;have wc:aO l.prog w K mg base 1 "_law_seats" ["_law_rows"] nh:=J5.has X G (λ_ _ _ _ _ _=>jn λ_=>rfl) λF=>Ym F T;have SG:aO l.prog w K mg base 1 "_law_other" ["_law_rows","_law_seats_here","_law_end"] xI:=J6.has X G (λ_ _ _ _ _ _=>qP λ_ _ _=>rfl) λF=>Yn F T;have G26:aO l.prog w K mg base 2 "_law_step" ["_law_rows","_law_seats_here","_law_end","_law_turn"] DI:=J7.has X G (λ_ _ _ _ _ _=>Ma λ_ _ _ _=>rfl) λF=>Yo F T (SG.mono<|by decide);have G27:aO l.prog w K mg base 3 "_law_face" ["_law_rows","_law_seats_here","_law_end"] DJ:=J8.has X G (λ_ _ _ _ _ _=>qP λ_ _ _=>rfl) λF=>Yq F T (G26.mono<|by decide);have G28:aO l.prog w K mg base 4 "_law_put" ["_law_rows","_law_big_here","_law_tie","_law_point"] E6:=J9.has X G (λ_ _ _ _ _ _=>Ma λ_ _ _ _=>rfl) λF=>q75 F T (wc.mono<|by decide) (G27.mono<|by decide);have G29:aO l.prog w K mg base 5 "_law_net_by" ["_law_big_here","_law_most","_law_stem"] FK:=J'.has X G (λ_ _ _ _ _ _=>qP λ_ _ _=>rfl) λF=>q7a F T (G23.mono<|by decide) (G28.mono<|by decide);have G30:aO l.prog w K mg base 1 "_law_copy" ["_law_rows"] FX:=Ka.has X G (λ_ _ _ _ _ _=>jn λ_=>rfl) λF=>q4l F T;have G31:aO l.prog w K mg base 2 "_law_some_of" ["_law_rows","_law_big_here"] Jm:=Kb.has X G (λ_ _ _ _ _ _=>fT λ_ _=>rfl) λF=>q45 F T (wc.mono<|by decide);have G32:aO l.prog w K mg base 1 "_law_sum" ["_law_one","_law_other_here"] Jn:=Kc.has X G (λ_ _ _ _ _ _=>fT λ_ _=>rfl) λF=>q8g F T;have G33:aO l.prog w K mg base 1 "_law_is_round" ["_law_rows","_law_some"] Jb:=Kd.has X G (λ_ _ _ _ _ _=>fT λ_ _=>rfl) λF=>q53 F T;have G34:aO l.prog w K mg base 3 "_law_side" ["_law_rows","_law_some"] Jd:=Ke.has X G (λ_ _ _ _ _ _=>fT λ_ _=>rfl) λF=>q03 F T (wc.mono<|by decide) (SG.mono<|by decide);have G35:aO l.prog w K mg base 1 "_law_is_set" ["_law_found","_law_ties"] Jc:=Kf.has X G (λ_ _ _ _ _ _=>fT λ_ _=>rfl) λF=>k95 F T;have G36:aO l.prog w K mg base 4 "_law_shown" ["_law_rows","_law_some","_law_told"] Jq:=Kg.has X G (λ_ _ _ _ _ _=>qP λ_ _ _=>rfl) λF=>k9z F T (wc.mono<|by decide) (G35.mono<|by decide) (G33.mono<|by decide) (G34.mono<|by decide) (G32.mono<|by decide);have G37:aO l.prog w K mg base 8 "_law_right" ["_law_rows","_law_some"] Jr:=Kh.has X G (λ_ _ _ _ _ _=>fT λ_ _=>rfl) λF=>q1s F T (G30.mono<|by decide) (G18.mono<|by decide) (G36.mono<|by decide);exact q7r F T (SF.mono<|by decide) (G22.mono<|by decide) (G29.mono<|by decide) (wc.mono<|by decide) (G31.mono<|by decide)<|G37.mono<|by decide
theorem walk{l:PySem.W.OpenLaw}{q:Program}{loose:List Str}{XP:(Str->Option Value)->Heap->Prop}{YP:World->Heap->Prop}{d:DefRec}{K:Params->PySem.W.Frag}(hn:l.most=some 63)(lD:d.params.defaults=[])
  (hY:∀(w:World) (h:Heap),YP w h->(K w.params).In h)
  (F : ∀ (w : World) (mg : Str → Option Value) (fa : Addr) (h : Heap), (K w.params).In h → h.Ns mainGlobals mg → mg d.name = some (.ref fa) →
   ∃ fd:FuncData,(∀(s:Shared) (u:Value),BindsTo s fd ⟨[u],[]⟩ [("_law_script",u)])/\∀ base:Heap,(K w.params).In base->base.Ns mainGlobals mg->aI l.prog w (K w.params) mg base bB 10 fa fd ["_law_script"] (yL<|K w.params)) :
  PySem.W.WalkO q loose XP YP l.row.toRowW d [] (λf vs=>PySem.call f vs):=
 L2.lE (n:=63) (k:=10) (x:= "_law_script") (CX:=λ_=>bB) (sp:=λw=>yL<|K w.params) hn (by decide) lD ⟨rfl,by decide,by decide⟩ hY F (λ_ _ a ns hl _ hS=>⟨a,ns,rfl,hS,hl,λ_=>rfl⟩) λ_ _ _ _ _ z=>z
end E5
-- see NOTE.md
namespace PySem.W.Fast
def tw10042511833214640589:=()
def tw10431762087448901600:=()
def tw1045753443386421804:=()
def tw10483928499505007443:=()
def tw11078836051623295357:=()
def tw11079615686315850062:=()
def tw1114620904730726114:=()
def tw12005344220654804918:=()
def tw12120349386527687669:=()
def tw12153381720511046140:=()
def tw13027685241979883529:=()
def tw1375967796519273842:=()
def tw1380409768770005564:=()
def tw13876446656639045066:=()
def tw14189234246241766920:=()
def tw14640368854803749921:=()
def tw14659121945457876683:=()
def tw14695176635420406587:=()
def tw14950751293421056849:=()
def tw14967440783901229469:=()
def tw15208723871617717484:=()
def tw15215005481280199911:=()
def tw15371043748399730399:=()
def tw15489951052979454018:=()
def tw15676425845692636451:=()
def tw1587785183390047608:=()
def tw15949777222644151660:=()
def tw1613938196009207389:=()
def tw16258838150414393724:=()
def tw16322025889257529225:=()
def tw16447721321416802467:=()
def tw16639518928008211023:=()
def tw16768786438454017571:=()
def tw16811930580343043565:=()
def tw16823780790122580207:=()
def tw17133232038714048139:=()
def tw17197757584643918838:=()
def tw17408954744965653564:=()
def tw17452576561552109686:=()
def tw17763921853805338659:=()
def tw17784741555881106426:=()
def tw17822592209259544128:=()
def tw17912843358442248276:=()
def tw17933226123550016099:=()
def tw18019507338479845203:=()
def tw18285717089090278601:=()
def tw1954194879618554448:=()
def tw2185231810721498114:=()
def tw2482309641373900222:=()
def tw2890862795002553519:=()
def tw3510455121344612327:=()
def tw3521775724324791678:=()
def tw3565829466896835255:=()
def tw4333019729094838589:=()
def tw4525465433431975913:=()
def tw4772542894699711181:=()
def tw588427605450711605:=()
def tw5996811073000254731:=()
def tw6172276738613946323:=()
def tw6325036061363128314:=()
def tw6700459995704306469:=()
def tw6894940865515929157:=()
def tw6919749664778162772:=()
def tw7702000857115822079:=()
def tw8081524735210560872:=()
def tw840182234576175207:=()
def tw854715250208809200:=()
def tw8569284731153922528:=()
def tw8948601963824581845:=()
def tw9121670278858643535:=()
def tw931411916804004544:=()
def tw946825734220759683:=()
def tw9593377172699623212:=()
def tw9743435469803798806:=()
end PySem.W.Fast
open PySem PySem.W PyProof.Rows
set_option maxRecDepth 100000 in
set_option maxHeartbeats 0 in
theorem PySem.Challenge.cw_threewebs_k50_sets_parted_holds : PySem.Challenge.rw_threewebs_k50_sets_parted.Holds := by
 w_on;o_law;k_head;(case hw=>w_witness2)
 k_fill
 refine E5.walk (l:=PySem.Challenge.rw_threewebs_k50_sets_parted) rfl rfl (λw h Y=>PySem.W.kIn_of Y) ?F
 case F=>
  intro w mg fa h KX G sX;refine' E5.all_mk KX G sX ?h1 ?h2 ?h3 ?h4 ?h5 ?h6 ?h7 ?h8 ?h9 ?Jy ?Jz ?JA ?JE ?JI ?JO ?JP ?JS ?JU ?JY ?J0 ?J1 ?J2 ?J3 ?J5 ?J6 ?J7 ?J8 ?J9 ?J' ?Ka ?Kb ?Kc ?Kd ?Ke ?Kf ?Kg ?Kh ?h0 ?zz
  case h1=>refine' L2.aH ?a ?l ?c ?k;(case a=>k_is);(case l=>k_is);(case c=>k_is);(case k=>k_is)
  case h2=>refine' L2.aH ?a ?l ?c ?k;(case a=>k_is);(case l=>k_is);(case c=>k_is);(case k=>k_is)
  case h3=>refine' L2.aH ?a ?l ?c ?k;(case a=>k_is);(case l=>k_is);(case c=>k_is);(case k=>k_is)
  case h4=>refine' L2.aH ?a ?l ?c ?k;(case a=>k_is);(case l=>k_is);(case c=>k_is);(case k=>k_is)
  case h5=>refine' L2.aH ?a ?l ?c ?k;(case a=>k_is);(case l=>k_is);(case c=>k_is);(case k=>k_is)
  case h6=>refine' L2.aH ?a ?l ?c ?k;(case a=>k_is);(case l=>k_is);(case c=>k_is);(case k=>k_is)
  case h7=>refine' L2.aH ?a ?l ?c ?k;(case a=>k_is);(case l=>k_is);(case c=>k_is);(case k=>k_is)
  case h8=>refine' L2.aH ?a ?l ?c ?k;(case a=>k_is);(case l=>k_is);(case c=>k_is);(case k=>k_is)
  case h9=>refine' L2.aH ?a ?l ?c ?k;(case a=>k_is);(case l=>k_is);(case c=>k_is);(case k=>k_is)
  case Jy=>refine' L2.aH ?a ?l ?c ?k;(case a=>k_is);(case l=>k_is);(case c=>k_is);(case k=>k_is)
  case Jz=>refine' L2.aH ?a ?l ?c ?k;(case a=>k_is);(case l=>k_is);(case c=>k_is);(case k=>k_is)
  case JA=>refine' L2.aH ?a ?l ?c ?k;(case a=>k_is);(case l=>k_is);(case c=>k_is);(case k=>k_is)
  case JE=>refine' L2.aH ?a ?l ?c ?k;(case a=>k_is);(case l=>k_is);(case c=>k_is);(case k=>k_is)
  case JI=>refine' L2.aH ?a ?l ?c ?k;(case a=>k_is);(case l=>k_is);(case c=>k_is);(case k=>k_is)
  case JO=>refine' L2.aH ?a ?l ?c ?k;(case a=>k_is);(case l=>k_is);(case c=>k_is);(case k=>k_is)
  case JP=>refine' L2.aH ?a ?l ?c ?k;(case a=>k_is);(case l=>k_is);(case c=>k_is);(case k=>k_is)
  case JS=>refine' L2.aH ?a ?l ?c ?k;(case a=>k_is);(case l=>k_is);(case c=>k_is);(case k=>k_is)
  case JU=>refine' L2.aH ?a ?l ?c ?k;(case a=>k_is);(case l=>k_is);(case c=>k_is);(case k=>k_is)
  case JY=>refine' L2.aH ?a ?l ?c ?k;(case a=>k_is);(case l=>k_is);(case c=>k_is);(case k=>k_is)
  case J0=>refine' L2.aH ?a ?l ?c ?k;(case a=>k_is);(case l=>k_is);(case c=>k_is);(case k=>k_is)
  case J1=>refine' L2.aH ?a ?l ?c ?k;(case a=>k_is);(case l=>k_is);(case c=>k_is);(case k=>k_is)
  case J2=>refine' L2.aH ?a ?l ?c ?k;(case a=>k_is);(case l=>k_is);(case c=>k_is);(case k=>k_is)
  case J3=>refine' L2.aH ?a ?l ?c ?k;(case a=>k_is);(case l=>k_is);(case c=>k_is);(case k=>k_is)
  case J5=>refine' L2.aH ?a ?l ?c ?k;(case a=>k_is);(case l=>k_is);(case c=>k_is);(case k=>k_is)
  case J6=>refine' L2.aH ?a ?l ?c ?k;(case a=>k_is);(case l=>k_is);(case c=>k_is);(case k=>k_is)
  case J7=>refine' L2.aH ?a ?l ?c ?k;(case a=>k_is);(case l=>k_is);(case c=>k_is);(case k=>k_is)
  case J8=>refine' L2.aH ?a ?l ?c ?k;(case a=>k_is);(case l=>k_is);(case c=>k_is);(case k=>k_is)
  case J9=>refine' L2.aH ?a ?l ?c ?k;(case a=>k_is);(case l=>k_is);(case c=>k_is);(case k=>k_is)
  case J'=>refine' L2.aH ?a ?l ?c ?k;(case a=>k_is);(case l=>k_is);(case c=>k_is);(case k=>k_is)
  case Ka=>refine' L2.aH ?a ?l ?c ?k;(case a=>k_is);(case l=>k_is);(case c=>k_is);(case k=>k_is)
  case Kb=>refine' L2.aH ?a ?l ?c ?k;(case a=>k_is);(case l=>k_is);(case c=>k_is);(case k=>k_is)
  case Kc=>refine' L2.aH ?a ?l ?c ?k;(case a=>k_is);(case l=>k_is);(case c=>k_is);(case k=>k_is)
  case Kd=>refine' L2.aH ?a ?l ?c ?k;(case a=>k_is);(case l=>k_is);(case c=>k_is);(case k=>k_is)
  case Ke=>refine' L2.aH ?a ?l ?c ?k;(case a=>k_is);(case l=>k_is);(case c=>k_is);(case k=>k_is)
  case Kf=>refine' L2.aH ?a ?l ?c ?k;(case a=>k_is);(case l=>k_is);(case c=>k_is);(case k=>k_is)
  case Kg=>refine' L2.aH ?a ?l ?c ?k;(case a=>k_is);(case l=>k_is);(case c=>k_is);(case k=>k_is)
  case Kh=>refine' L2.aH ?a ?l ?c ?k;(case a=>k_is);(case l=>k_is);(case c=>k_is);(case k=>k_is)
  case h0=>refine' L2.aH ?a ?l ?c ?k;(case a=>k_is);(case l=>k_is);(case c=>k_is);(case k=>k_is)
  case zz=>
   refine' Bz.mpr ⟨?_,?_⟩;k_is;refine' Bz.mpr ⟨?_,?_⟩;k_is;refine' Bz.mpr ⟨?_,?_⟩;k_is;refine' Bz.mpr ⟨?_,?_⟩;k_is;refine' Bz.mpr ⟨?_,?_⟩;k_is;refine' Bz.mpr ⟨?_,?_⟩;k_is;refine' Bz.mpr ⟨?_,?_⟩;k_is;refine' Bz.mpr ⟨?_,?_⟩;k_is;refine' Bz.mpr ⟨?_,?_⟩;k_is;refine' Bz.mpr ⟨?_,?_⟩;k_is;refine' Bz.mpr ⟨?_,?_⟩;k_is;refine' Bz.mpr ⟨?_,?_⟩;k_is;refine' Bz.mpr ⟨?_,?_⟩;k_is;refine' Bz.mpr ⟨?_,?_⟩;k_is;refine' Bz.mpr ⟨?_,?_⟩;k_is;exact λx hx=>nomatch hx
